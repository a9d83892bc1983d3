import PyProof.Rows.All
import Wide.All
import OpenK.AllK
import Wide.FinOn
import Lean
import PyProof.EqAt
import PyProof.EqKinds
import PyProof.TupleCall
import KE.KLam
import KE.KTryMore
import KE.KIsAll
import PyProof.NeKinds
import PyProof.Rows.CountFlat
import PyProof.Rows.FStr
import PyProof.ZipIter
import PyProof.EnumMake
import PyProof.EnumStmt
import KE.KDictLaws
import PyProof.DictWalks
import PyProof.Rows.SetFrom
import PyProof.SumWalkG
import PyProof.Rows.SumGenD
import PyProof.SeqI2
import KE.KItemsList
import PyProof.SetKind
import PyProof.TupleKey
import KE.KSortTup
import PyProof.ReprRoads
import PyProof.ReprBulk
import PyProof.TupleOfSeq
import PyProof.WalkInts
import PyProof.SeqI3
import PyProof.Rows.RuleDivmod
import PyProof.ListRange
import KE.KPairComp
import KE.KMinKey
import PyProof.Rows.CallKwBuiltin
import PySem.Challenge.RW_fewdistances_k72_shortest_unlike_marks
set_option Elab.async false
set_option linter.all false
set_option maxRecDepth 100000
set_option maxHeartbeats 0
set_option tactic.hygienic false
set_option bootstrap.genMatcherCode false
set_option genSizeOf false
set_option compiler.extract_closed false
open Array renaming length_toList->AJ,toList_append->AZ,getElem?_toList->Bx,getD_eq_getD_getElem?->Co,size_extract->DM,getD->DU,toList_push->Ec,toList_extract->Ee,toList_reverse->EN,toArray_toList->Gv,perm_iff_toList_perm->H9,toList_inj->Mc,toList->NF
open Bool renaming and_eq_true->A5,false_eq_true->Bj,and_eq_true_iff->CU,noConfusion->DB,false_ne_true->DL,not_eq_true'->HG,or_eq_true->IL,false_and->Mz,and_true->Nu,true_or->NG
open Classical renaming choose_spec->Gm,choose->Ig
open False renaming elim->Al
open ForInStep renaming yield->E0
open Int renaming le_trans->CI,le_of_lt->Ds,emod_lt_of_pos->Fl,toNat_natCast->Fv,le_refl->Gp,emod_nonneg->Hi,not_lt->Ki,sub_zero->Lc,add_comm->NO,mul_one->NT
open List renaming getElem?_eq_getElem->Ax,length_map->Az,prefix_refl->A3,size_toArray->A9,mem_append_right->AC,length_cons->AG,append_assoc->AK,getElem?_eq_some_iff->AO,mem_cons->AR,all_eq_true->AS,length_append->AT,mem_append->AX,getElem?_append_left->AY,mem_cons_of_mem->Ba,getElem?_append_right->Bc,mem_append_left->Bd,mem_of_getElem?->Be,pairwise_append->Bf,mem_map->Bs,getElem?_map->Ce,map_cons->Cf,getElem?_set_ne->Cg,mem_singleton->Cj,contains_iff_mem->Ct,not_mem_nil->Cu,append_nil->CG,range->CJ,length_nil->CO,mem_cons_self->CQ,mem_iff_getElem->CT,getElem?_set_self->CW,map_map->Dl,mem_range->Dm,map_append->Dr,length_take->Du,drop_eq_getElem_cons->Dv,extract_eq_take_drop->Dx,filter_eq_self->D9,replicate->DH,perm_append_comm->DQ,nil_append->DY,length_range->Ed,lookup_cons->El,pairwise_singleton->Es,mem_filterMap->Et,prefix_append->Eu,any_cons->Ey,take_of_length_le->E2,length_singleton->E6,mem_iff_getElem?->E7,flatMap_cons->EC,length_filter_le->ED,filterMap_cons->EQ,pairwise_iff_getElem->EV,reverse_append->EW,of_mem_zip->Fa,forIn_cons->Fc,getElem?_replicate->Fm,length_eq_zero_iff->Fo,forIn_nil->Ft,drop_eq_nil_of_le->Gb,range_succ_eq_map->Gc,drop_of_length_le->Gd,length_drop->Gg,getElem?_eq_none->Gh,lookup->Gj,take_append_drop->Gq,mem_filter->Gx,nodup_cons->Gz,find?_cons->Hb,eq_nil_of_length_eq_zero->Hf,getElem?_zip_eq_some->HI,all_cons->HJ,getD->HK,pairwise_map->HP,getElem?_take_of_lt->HR,getElem_inj->HV,zipIdx_cons->Ih,map_fst_zip->Il,cons_append->Im,isEmpty_iff->Io,map_nil->Ip,length->IU,countP_mono_left->Ja,singleton_append->Jb,reverse_reverse->Jr,mem_map_of_mem->Km,lookup_append->Kv,pairwise_cons->Kx,mergeSort_nil->Ky,all_map->Lh,ext_getElem?->L9,getElem_drop->LA,getElem_take->LB,getElem_mem->LU,countP_cons->Mb,ext_getElem->Md,mem_flatMap->Mi,length_set->Ml,zipIdx_nil->Mm,length_zip->Mq,take_zero->Nc,map_drop->NC,map->NQ
open List.Pairwise renaming nil->HF
open List.Perm renaming append_left->Dw,append_right->DC,trans->He,refl->Hv
open Nat renaming le_refl->Ar,lt_of_lt_of_le->Aw,ne_of_lt->AV,le_trans->Bh,lt_irrefl->Bn,le_of_lt->CM,le_of_ble_eq_true->Dy,lt_of_le_of_ne->D2,add_le_add_left->D8,zero_add->DW,zero_le->Ek,ne_of_gt->En,add_sub_cancel_left->Er,eq_zero_of_not_pos->E4,add_lt_of_lt_sub'->EA,one_pos->EB,lt_trans->EJ,pow_le_pow_right->EO,sub_lt->EY,lt_of_le_of_lt->Fj,pos_of_ne_zero->Fk,lt_of_succ_lt->HM,sub_pos_of_lt->HN,le_of_not_lt->HZ,le_add_right->Ie,le_antisymm->IP,add_le_of_le_sub'->Jc,le_of_sub_eq_zero->Jd,mul_le_mul->Jk,lt_sub_of_add_lt->Jp,add_le_add_right->Jq,not_lt->Ke,add_sub_cancel'->Kj,lt_or_eq_of_le->Kz,min_self->Li,le_of_eq->Lm,sub_self->Ln,add_zero->Lo,pow_succ->Lp,lt_succ_self->LV,add_le_add->Nb,lt_or_ge->NL,add_comm->NM,le_succ->NW
open Nat.succ renaming inj->NH
open Ne renaming symm->Df
open Option renaming some->Ab,map_eq_some_iff->Br,bind_eq_some_iff->Cz,isSome_iff_exists->Ef,getD_some->Ic,isSome_some->Kt,getD_none->LO,bind_some->Me,none->NU
open Option.some renaming inj->AQ
open Or renaming inr->Kn,inl->LQ
open PyProof.Rows renaming wpS_bind->Au,wpS_pure->A4,Keyed->A7,seqObj->Bt,callWith_type1->Cn,slot_tuple_getitem->Cs,wpS_forRange->CA,SortSt->CK,envOfC->CY,wpS_mono->Dq,wpS_modify->DV,SortKind->Fd,get?_update_seq->Fe,wpS_get->Fp,AllBare->Ge,callWith_builtin1->Gr,wpS_lift->HA,IntsAre->HD,subscriptTail_builtinR->IH,isBoolOf->IM,gallopOf->IQ,entry_tuple_getitem->Jz,subscriptTail->Ka,args_tuple_getitem->Kr,IsTup->Lq,entry_list_sort->Mr,step_dedup->Mw,Call_->Nq,lt_int->Oa
open PyProof.Rows.IntsAre renaming int_at->Nd
open PyProof.Rows.IsTup renaming new->Np
open PyProof.Rows.SortSt renaming mk'->AW
open PySem renaming Value->Ac,Addr->Ad,Shared->Af,wpAny_bind->Ag,Str->An,wpAny->Ao,model->Aq,wpAny_pure->As,starEach->Av,Program->A0,Heap->A8,Expr->AE,Around->AF,World->AH,Obj->AL,mainGlobals->AM,wpAny_field->Bm,Scope->Bu,Comprehension->Bw,Stmt->Ca,foldedSetIterable->Cc,compareOp->Cd,sizeLine_eq->Ch,wpAny_setField_rec->Ci,mem_of_lookup->Cq,bootBuiltins->Cw,wpAny_callSpecial?_slot->Cy,backTo->CB,binaryOp->CC,Pos->CD,FuncData->CF,wpAny_call_entry->CV,wpAny_holding->CZ,wpAny_Call_Name_kw->Dh,assignEach->Di,rawInt->Dj,wpAny_newObj_type->Dn,wpAny_pyIter_list->Do,wpAny_mono->Dp,cellsFrom->Dt,NameKind->Dz,wpAny_pyIter_tuple->D1,cLine->D3,codeAny->D6,wpAny_rule->D7,Env->DD,wpAny_seqItems->DJ,IsPair->DP,wpAny_passesOwn->DX,sysModules->Ei,intKind->Ej,letOwnedTupleGo->Ew,wpAny_attempt->Ez,Sem->EE,Builtin->EH,Model->EM,behindInMarks->ER,TriplesOk->EU,wpAny_execs_nil->EZ,sliceBounds->Fb,swapsWith->Fw,wpAny_collect_seq->Fx,Operator->Fz,BindsTo->Gf,wpAny_standAt->Gi,wpAny_updateSeq_pair->Gt,PassesOwn->Gy,Arguments->Ha,codeAmong->Hc,codeAny_mono->Hk,builtinsNs->Hn,recursionLimit->Hs,IsZip->Hu,wpAny_newFunctionEnv_cells->Hx,IsPart->Hy,getItem->HC,callerA->HE,wpAny_onRaise->HL,wpAny_comprehension_free->HT,pyNext->HW,pyIter->HX,noFill_tuple_add->HY,closureFor->Ib,IsTupleKey->Ik,bindArgs->IG,standAt->II,codeAny_builtin->IK,Tok->IS,tupleKind->IT,codeAny_call_function->IV,noteFrame->IX,wpAny_letGo->IY,IsEnum->IZ,wpAny_newTuple->Jh,newFunctionEnv->Ji,wpAny_loadName_local->Jl,codeAny_call_builtin->Jo,wpAny_loadName_cell->Ju,bindL->Jw,bindC->Jx,seq_tuple_add->Jy,call_meets->Kb,wpAny_call->Kf,wpAny_newList->Kk,concat_meets->La,wpAny_typeOf->Lb,callType_new->Ll,wpAny_assign_Name->Lr,wpAny_truthy_bool->Ls,wpAny_sequenceKey->Ly,slot_list_getitem->Lz,list_append->L0,atKey->L3,ClassData->L4,setFlight->L5,pushCells->L7,wpAny_pyIter_enum->L8,wpAny_eqBool_int->LC,wpAny_execs_cons->LD,unaryOp->LH,Result->LL,seqIndex_of->LN,checkBuiltinCall->LR,wpAny_of_eq->LS,wpAny_isInstance->LZ,wpAny_pyIter_zip->Ma,CmpOp->Mj,pushCells_keeps->Mn,wpAny_stack_any->Mp,wpAny_Name->Mt,call->Mv,intKind_is->Mx,defaultsOf->My,storeName->Nl,setItem->Nm,small_one->Nn,Keyword->Nv,IsEnumOut->Nx,IsRange->NA,ItemsOf->NB,Within->NE,isTrue->NJ
open PySem.Around renaming frames_deeper->Gs,under_plainId->Js
open PySem.AutoSeq1 renaming wpAny_loadPart'->Dg
open PySem.Builtin.Getset_descriptor renaming descrCheckInstance->IC,descrNameAndClass->IJ,descrGetter->Kg,descrGet->Lg
open PySem.Builtin.List renaming listExtendWith->Nh,listUpdate->NN
open PySem.Builtin.ObjectAttr renaming bindTo->HH,dataDescriptor?->Lf,getOf->ND,find->NI
open PySem.Builtin.Range renaming rangeSize->D4,small->Hr
open PySem.Builtin.Slice renaming slicePlaces->Eb,sliceAdjust->ET,sliceApplied->Hz,slicePartIndex->Mu,sliceFields->No
open PySem.Builtin.SmallTypes renaming nextOf->Bi,ownedTupleIsFree->Bv,ownedTupleHandOut->De
open PySem.Builtin.Tuple renaming tupleExact->Eg,tupleItemsOf->H0,tupleIsExact->Nj
open PySem.Calls renaming spliced_cons->Ev,spliced_nil->E5,Name_function_global->Hw,call_function_entry->HQ,evalArgs_plain->Jn
open PySem.Challenge renaming pw_fewdistances_k72_shortest_unlike_marks->Hg,rw_fewdistances_k72_shortest_unlike_marks->Hj
open PySem.F renaming slot_tuple_iterator_next->DN,slot_enumerate_next->E8,args_tuple_add_2->Fg,entry_tuple_add->Fn,slot_tuple_add->Ga,called_tuple->Gu,slot_zip_next->Hd,args_tuple_iterator_next_1->Hq,entry_tuple_iterator_next->Ht,excBase_ValueError->H8,type_list_append->HU,attr_ValueError->Iq,slot_list_count->Ir,slot_list_index->Iu,args_enumerate_next_1->Iw,plain_list_iadd->Ix,plainAttrs_list->Iy,type_list_count->IA,type_list_index->IB,entry_enumerate_next->IN,args_list_append_2->Jm,entry_list_append->Kc,slot_list_append->Ks,args_zip_next_1->L6,entry_zip_next->LY
open PySem.Heap renaming get?_push_of_some->Ai,lt_size->Ay,get?_push_size->AB,get?_update_other->CH,size_push->CL,SameBut->CN,FlyingW->Hl,get?_update_self->IW,MadeExcOf->Jg,IsTuple->Lj,IsList->LW,ExtBut->NV,HeldW->NZ
open PySem.Heap.IsSliceOf renaming new->Ob
open PySem.Heap.SameBut renaming update->Kh,refl->Od
open PySem.IsL renaming update->LP
open PySem.IsRange renaming new->LG
open PySem.MeetsSeq renaming list_index->Nw,EqGives->NP
open PySem.NameKind renaming free->Dc,cell->Gk
open PySem.Obj renaming mapSeq->CS,data_mapFields->Kw
open PySem.SeqAt.EqAt renaming bool_bool->Ni,same->Nt,of_refs->NK
open PySem.SetTable renaming Probe->Ny
open PySem.Shared renaming heap->Gn
open PySem.Str renaming ofString->Eo,empty->ES
open PySem.Value renaming ref->AN,none->Bk,bool->CP,type->DR,int->DZ,str->IR,isStrOf->Nk,builtin->Nr,isInt->NR,float->NS
open PySem.W renaming Frag->Ah,tabIn->Bb,nsIn->Bl,kia_one->Bp,keepIn->Bz,fnOf->Dd,kitx_list->Ea,exmOne->Eh,cellsFrom_some->Ex,kitOne->EF,codeIn->EG,tabObj->EI,envX->EL,kla_obj->Ff,kitx_tuple->Fh,callWith_K->Fi,findIn->Fq,kitx_dict->Fu,hideAll->Gw,methodObj->HB,nsMap_none_of_in->HS,instObj->IF,CodeHd->Je,lookIn->Jf,kitAny->Jj,hideAll_get->Jt,mroIn->Jv,mg_of->Kl,of_hideAll->Ko,codeRec_of->Kq,isNs_of_in->Ku,looks_findIn->Ld,specialIn->Lu,kitx_none->Lv,kitx_bool->Lx,plainGet->LI,kitx_int->LJ,kitx_str->LK,takesIn->Mk,OpenLaw->Ms,nsOkIn->Na,kla_fn->Ng,WalkO->Nz
open PySem.W.Looks renaming ld->Oe
open PySem.W.WData renaming int->Oc
open PySem.W.WShape renaming has->NY
open Sum renaming inl->ID,inr->IE
open True renaming intro->D5
open _root_ renaming List->Aa,Nat->Aj,Option->Ak,Int->Am,Bool->Ap,Array->A6,if_pos->AA,if_neg->AD,decide_eq_true_eq->AI,of_decide_eq_true->AU,String->Bg,decide_eq_false->Bo,if_true->Bq,decide_eq_true->By,False->Cp,beq_self_eq_true->Dk,if_false->D0,Decidable->Em,decide_eq_false_iff_not->Ep,or_false->E1,decide_true->E9,decide_false->EK,True->Fy,StateT->Go,beq_eq_false_iff_ne->Hm,Unit->Ho,beq_iff_eq->Ia,decide_eq_decide->Mf
noncomputable section
theorem om {p:Prop}(h:p:=by omega):p:=h
theorem li {p:Prop}(h:p:=by lia):p:=h
theorem kd {p:Prop}[Em p](h:p:=by decide +kernel):p:=h
section
namespace _L
open PySem PySem.Spec PyProof.Rows
abbrev Key:=Sum Am An
noncomputable def kM:Key->Ac->Ap
 |.inl k,v=>NR k v
 |.inr x,v=>Nk x v
noncomputable def FV (w:AH):Key->Am
 |.inl k=>hashInt k
 |.inr x=>hashStr w x
theorem zM:∀ {k:Key} {v:Ac},kM k v=true->(∃ i t,k=ID i/\v=DZ i t)\/(∃ x t,k=IE x/\v=IR x t)
 |.inl i,v,h=>by
  obtain⟨t,e⟩:=Value.isInt_shape (k:=i) (v:=v) h;exact .inl ⟨i,t,rfl,e⟩
 |.inr x,v,h=>by
  obtain⟨t,e⟩:=Value.isStrOf_shape (x:=x) (v:=v) h;exact .inr ⟨x,t,rfl,e⟩
theorem rY (i:Am)(t:IS):kM (.inl i) (.int i t)=true:=by simp[kM,NR]
theorem rZ (x:An)(t:IS):kM (.inr x) (.str x t)=true:=by simp[kM,Nk]
theorem U6 (a b:Am):decide ((ID a:Key)=ID b)=(a == b):=by
 by_cases e:a=b
 .subst e;simp
 .have h:¬ (ID a:Key)=ID b:=λq=>e (Sum.inl.inj q)
  rw[Bo h];exact(Hm.mpr e).symm
theorem U9 (a b:An):decide ((IE a:Key)=IE b)=decide (a=b):=by
 by_cases e:a=b
 .subst e;simp
 .have h:¬ (IE a:Key)=IE b:=λq=>e (Sum.inr.inj q)
  rw[Bo h,Bo e]
theorem U7 (a:Am)(b:An):decide ((ID a:Key)=IE b)=false:=Bo (λq=>nomatch q)
theorem U8 (a:An)(b:Am):decide ((IE a:Key)=ID b)=false:=Bo (λq=>nomatch q)
noncomputable def zQ (prog:A0)(w:AH):PySem.KeyKind prog w Key where
 is:=kM
 hash:=FV w
 inj:=λv a b ha hb=>by
  rcases zM ha with⟨i,t,rfl,rfl⟩|⟨x,t,rfl,rfl⟩
  .rcases zM hb with⟨j,u,rfl,e⟩|⟨y,u,rfl,e⟩
   .injection e with e1 _;rw[e1]
   .exact nomatch e
  .rcases zM hb with⟨j,u,rfl,e⟩|⟨y,u,rfl,e⟩
   .exact nomatch e
   .injection e with e1 _;rw[e1]
 byValue:=λk v h=>by
  rcases zM h with⟨i,t,rfl,rfl⟩|⟨x,t,rfl,rfl⟩ <;> rfl
 pyHash:=λhv h=>by
  rcases zM hv with⟨i,t,rfl,rfl⟩|⟨x,t,rfl,rfl⟩
  .exact wpAny_pyHash_int h
  .exact wpAny_pyHash_str h
 eqBool:=λhu hv h=>by
  rcases zM hu with⟨i,t,rfl,rfl⟩|⟨x,t,rfl,rfl⟩
  .rcases zM hv with⟨j,u,rfl,rfl⟩|⟨y,u,rfl,rfl⟩
   .rw[U6] at h;exact LC h
   .rw[U7] at h;exact SeqAt.EqAt.int_str i t y u _ _ _ _ h
  .rcases zM hv with⟨j,u,rfl,rfl⟩|⟨y,u,rfl,rfl⟩
   .rw[U8] at h;exact SeqAt.EqAt.str_int x t j u _ _ _ _ h
   .rw[U9] at h;exact wpAny_eqBool_str h
 «strs»:=λk x t v h=>by
  rcases zM h with⟨i,u,rfl,e⟩|⟨y,u,rfl,e⟩
  .exact nomatch e
  .injection e with e1 _
   subst e1;cases v <;> rfl
theorem nE (prog:A0)(w:AH)(i:Am)(t:IS):(zQ prog w).is (.inl i) (.int i t)=true:=rY i t
theorem nF (prog:A0)(w:AH)(x:An)(t:IS):(zQ prog w).is (.inr x) (.str x t)=true:=rZ x t
end _L
namespace _L
open PySem PySem.Spec PyProof.Rows
inductive V where
 |non|bl (b:Ap)|int (i:Am)|str (x:An)|byt (b:A6 UInt8)|flt (b:UInt64)|ref (a:Ad)|ty (n:Bg)
 deriving DecidableEq
def qJ:V->Ac->Prop
 |.non,u=>u=Bk
 |.bl b,u=>u=CP b
 |.int i,u=>∃ t,u=DZ i t
 |.str x,u=>∃ t,u=IR x t
 |.byt b,u=>∃ t,u=Value.bytes b t
 |.flt b,u=>∃ t,u=NS b t
 |.ref a,u=>u=AN a
 |.ty n,u=>u=DR n
abbrev qK:Aa V->Aa Ac->Prop:=Paired qJ
theorem qK.length {xs:Aa V}{us:Aa Ac}(r:qK xs us):xs.length=us.length:=Paired.length r
theorem qK.get:∀ {xs:Aa V} {us:Aa Ac} {i:Aj} {x:V},qK xs us->xs[i]? = Ab x->∃ u,us[i]? = Ab u/\qJ x u
 |_,_,_,_,.nil,e=>by simp at e
 |_,_,0,_,.cons r _,e=>by simp at e;subst e;exact⟨_,rfl,r⟩
 |_,_,i+1,x,.cons _ t,e=>by
  obtain⟨u,h1,h2⟩:=qK.get (i:=i) (x:=x) t (by simpa using e)
  exact⟨u,by simpa using h1,h2⟩
theorem qK.set {x:V}{u:Ac}(r:qJ x u):∀ {xs:Aa V} {us:Aa Ac} (i:Aj),qK xs us->qK (xs.set i x) (us.set i u)
 |_,_,_,.nil=>.nil
 |_,_,0,.cons _ t=>.cons r t
 |_,_,i+1,.cons q t=>.cons q (qK.set r i t)
theorem qK.append {xs ys:Aa V}{us ws:Aa Ac}(h:qK xs us)(s:qK ys ws):qK (xs++ys) (us++ws):=by
 induction h with
 |nil=>exact s
 |cons r t ih=>exact .cons r ih
theorem qK.take:∀ {xs:Aa V} {us:Aa Ac} (n:Aj),qK xs us->qK (xs.take n) (us.take n)
 |_,_,0,_=>.nil
 |_,_,_+1,.nil=>.nil
 |_,_,n+1,.cons r t=>.cons r (qK.take n t)
theorem qK.drop:∀ {xs:Aa V} {us:Aa Ac} (n:Aj),qK xs us->qK (xs.drop n) (us.drop n)
 |_,_,0,r=>r
 |_,_,_+1,.nil=>.nil
 |_,_,n+1,.cons _ t=>qK.drop n t
def jR:Ak V->Ak Ac->Prop
 |some v,Ab u=>qJ v u
 |none,none=>Fy
 |_,_=>Cp
def KV {κ : Type}:Aa (κ × V)->Aa (κ × Ac)->Prop:=Paired λ(p:κ × V) (q:κ × Ac)=>p.1=q.1/\qJ p.2 q.2
noncomputable def kV:Key->V
 |.inl i=>.int i
 |.inr x=>.str x
inductive HO where
  |lst (xs:Aa V)
  |tup (xs:Aa V)
  |dK (kvs:Aa (Key × V))|dT (kvs:Aa (Aa Key × V))
  |set (S:Am->Ap) (n:Aj)
  |ins (C dx:Ad) (fs:Aa (An × V))
  |own (x:Ad)
  |xd (fs:Aa (An × V))
  |met (f x:Ad)
  |rng (lo hi:Am)
  |frz (o:AL) (u:HO)
  |tbl (ps:A6 Ac)
  |ext (φ : A8->Prop)
abbrev Hp:=Ad->Ak HO
noncomputable def upd (H:Hp)(a:Ad)(o:HO):Hp:=λb=>if b=a then Ab o else H b
theorem qR {H:Hp}{a:Ad}{o:HO}:upd H a o a=Ab o:=by unfold upd;rw[AA rfl]
theorem qH {H:Hp}{a b:Ad}{o:HO}(h:b≠a):upd H a o b=H b:=by unfold upd;rw[AD h]
theorem PF {H:Hp}{a b:Ad}{o u:HO}(h:H a=Ab o)(h':H b=Ab u)(d:o≠u):a≠b:=by
 intro e;subst e;rw[h] at h';exact d (AQ h')
theorem qM {H:Hp}{a b:Ad}{o:HO}(h:H a=Ab o)(h':H b=none):a≠b:=by
 intro e;subst e;rw[h] at h';cases h'
section
variable (P:A0)(w:AH)
def qY (H:Hp)(h:A8)(a:Ad):HO->Prop
 |.lst xs=>xs.length<=sizeLine/\∃ (its:Aa Ac) (n:Aj),qK xs its/\h.get? a=Ab { cls:=.type "list",data:=.seq its.toArray n }
 |.tup xs=>xs.length<=sizeLine/\∃ its:Aa Ac,qK xs its/\Lq h a its.toArray
 |.dK kvs=>kvs.length<=sizeLine/\(a == Ei)=false/\∃ vs,KV kvs vs/\h.DictOf (zQ P w) a vs
 |.dT kvs=>kvs.length<=sizeLine/\(a == Ei)=false/\∃ xs:Aa (Aa Key × Ad × Ac),
   Paired (λ(p:Aa Key × V) (q:Aa Key × Ad × Ac)=>p.1=q.1/\H q.2.1=Ab (.tup (p.1.map kV))/\qJ p.2 q.2.2) kvs xs /\
   ∃ o es ep,h.get? a=Ab o/\o.ExactDict/\o.data=.dict es ep/\es.toList=xs.map (entryOfKey (IT (zQ P w)))/\(xs.map (·.1)).Nodup
 |.set S n=>h.SetOf (Ej P w) a S n
 |.ins C dx fs=>H dx=Ab (.own a)/\fs.length<=1000/\dx≠a/\h.get? a=Ab (IF C dx) /\
   ∃ mA,h.Ns1 dx mA/\(∀ f,jR (fs.lookup f) (mA f))/\NE mA (fs.map (·.1))
 |.own _=>∃ o,h.get? a=Ab o
 |.xd fs=>∃ mA,h.Ns1 a mA/\∀ f,jR (fs.lookup f) (mA f)
 |.rng lo hi=>∃ t u v,h.get? a=Ab { cls:=.type "range",data:=.fields #[.int lo t,.int hi u,.int 1 v] }
 |.frz o u=>h.get? a=Ab o/\qY H h a u
 |.tbl ps=>h.get? a=Ab { cls:=.none,data:=.fields ps }
 |.met f x=>h.get? a=Ab (HB (.ref f) (.ref x))
 |.ext φ => φ h/\(∃ o,h.get? a=Ab o)/\∀ h1 h2:A8,φ h1->(∀ o,h1.get? a=Ab o->h2.get? a=Ab o)->φ h2
def HOk (H:Hp)(h:A8):Prop:=∀ a o,H a=Ab o->qY P w H h a o
end
section
variable {P:A0}{w:AH}{H H':Hp}{h h':A8}{a:Ad}{o:HO}
theorem qY.lt (x:qY P w H h a o):a<h.objs.size:=by
 cases o with
 |lst xs=>obtain⟨_,_,_,_,e⟩:=x;exact Ay e
 |tup xs=>obtain⟨_,_,_,p⟩:=x;exact p.lt
 |dK kvs=>obtain⟨_,_,_,_,o,_,_,e,_⟩:=x;exact Ay e
 |dT kvs=>obtain⟨_,_,_,_,o,_,_,e,_⟩:=x;exact Ay e
 |set S n=>obtain⟨o,_,_,_,e,_⟩:=x;exact Ay e
 |ins C dx fs=>obtain⟨_,_,_,e,_⟩:=x;exact Ay e
 |own y=>obtain⟨_,e⟩:=x;exact Ay e
 |xd fs=>obtain⟨_,⟨_,_,_,e,_⟩,_⟩:=x;exact Ay e
 |rng lo hi=>obtain⟨_,_,_,e⟩:=x;exact Ay e
 |frz ob u=>obtain⟨e,_⟩:=x;exact Ay e
 |tbl ps=>exact Ay (show h.get? a=Ab _ from x)
 |met f y=>exact Ay (show h.get? a=Ab _ from x)
 |ext φ => obtain⟨_,⟨_,e⟩,_⟩:=x;exact Ay e
theorem Paired.mapP {α β:Type}{F G:α->β->Prop}{l₁:Aa α}{l₂:Aa β}(h:Paired F l₁ l₂)(f:∀ a b,F a b->G a b):Paired G l₁ l₂:=by
 induction h with
 |nil=>exact .nil
 |cons r t ih=>exact .cons (f _ _ r) ih
theorem qY.stay (x:qY P w H h a o)(k:∀ b u,(b=a\/H b=Ab (.own a))->h.get? b=Ab u->h'.get? b=Ab u)
  (ho:∀ b,H b=Ab (.own a)->H' b=Ab (.own a)) (ht:∀ b xs,H b=Ab (.tup xs)->H' b=Ab (.tup xs)):qY P w H' h' a o:=by
 induction o with
 |lst xs=>obtain⟨z,its,n,r,e⟩:=x;exact⟨z,its,n,r,k _ _ (.inl rfl) e⟩
 |tup xs=>obtain⟨z,its,r,ob,e,c⟩:=x;exact⟨z,its,r,ob,k _ _ (.inl rfl) e,c⟩
 |dK kvs=>obtain⟨z,y,vs,r,ob,es,ep,e,c⟩:=x;exact⟨z,y,vs,r,ob,es,ep,k _ _ (.inl rfl) e,c⟩
 |dT kvs =>
  obtain⟨z,y,xs,r,ob,es,ep,e,c⟩:=x;exact⟨z,y,xs,Paired.mapP r λp q z=>⟨z.1,ht _ _ z.2.1,z.2.2⟩,ob,es,ep,k _ _ (.inl rfl) e,c⟩
 |set S n=>obtain⟨ob,es,ep,t,e,c⟩:=x;exact⟨ob,es,ep,t,k _ _ (.inl rfl) e,c⟩
 |ins C dx fs =>
  obtain⟨d,z,ne,e,mA,⟨od,es,ep,e2,c⟩,r⟩:=x;exact⟨ho _ d,z,ne,k _ _ (.inl rfl) e,mA,⟨od,es,ep,k _ _ (.inr d) e2,c⟩,r⟩
 |own y=>obtain⟨ob,e⟩:=x;exact⟨ob,k _ _ (.inl rfl) e⟩
 |xd fs=>obtain⟨mA,⟨od,es,ep,e,c⟩,r⟩:=x;exact⟨mA,⟨od,es,ep,k _ _ (.inl rfl) e,c⟩,r⟩
 |rng lo hi=>obtain⟨t,u,v,e⟩:=x;exact⟨t,u,v,k _ _ (.inl rfl) e⟩
 |frz ob u ih=>obtain⟨e,q⟩:=x;exact⟨k _ _ (.inl rfl) e,ih q⟩
 |tbl ps =>
  have e:h.get? a=Ab { cls:=.none,data:=.fields ps }:=x;show h'.get? a=Ab { cls:=.none,data:=.fields ps };exact k a _ (.inl rfl) e
 |met f y =>
  have e:h.get? a=Ab (HB (.ref f) (.ref y)):=x;show h'.get? a=Ab (HB (.ref f) (.ref y));exact k a _ (.inl rfl) e
 |ext φ => obtain⟨p,⟨o,e⟩,st⟩:=x;exact⟨st _ _ p λo q=>k _ _ (.inl rfl) q,⟨o,k _ _ (.inl rfl) e⟩,st⟩
theorem HOk.lt (x:HOk P w H h)(e:H a=Ab o):a<h.objs.size:=(x a o e).lt
theorem HOk.fresh (x:HOk P w H h)(e:h.objs.size<=a):H a=none:=by
 cases q:H a with
 |none=>rfl
 |some u=>exact absurd (Aw (x.lt q) e) (Bn _)
theorem HOk.kept (x:HOk P w H h)(k:∀ b u,h.get? b=Ab u->h'.get? b=Ab u):HOk P w H h':=λa o e =>
 (x a o e).stay (λb u _ q=>k b u q) (λ_ q=>q) λ_ _ q=>q
theorem HOk.laid (x:HOk P w H h)(k:∀ b u,h.get? b=Ab u->h'.get? b=Ab u)(hp:h.objs.size<=a)(new:qY P w (upd H a o) h' a o):HOk P w (upd H a o) h':=λb u e=>by
 have hn:=x.fresh hp;by_cases hb:b=a
 .subst hb;rw[qR] at e;cases e;exact new
 .rw[qH hb] at e
  exact(x b u e).stay (λc v _ q=>k c v q) (λc q=>by rw[qH (qM q hn)];exact q) λc xs q=>by rw[qH (qM q hn)];exact q
end
def Rd (H:Hp)(a:Ad)(u:HO):Prop:=H a=Ab u\/∃ o,H a=Ab (.frz o u)
theorem Rd.of {H:Hp}{a:Ad}{u:HO}(h:H a=Ab u):Rd H a u:=.inl h
theorem Rd.ok {P:A0}{w:AH}{H:Hp}{h:A8}{a:Ad}{u:HO}(r:Rd H a u)(x:HOk P w H h):qY P w H h a u:=by
 rcases r with r|⟨o,r⟩
 .exact x a u r
 .obtain⟨_,q⟩:=x a _ r
  exact q
def Mut:Ak HO->Prop
 |some (.lst _)=>Fy
 |some (.dK _)=>Fy
 |some (.dT _)=>Fy
 |some (.set _ _)=>Fy
 |some (.ins _ _ _)=>Fy
 |some (.ext _)=>Fy
 |_=>Cp
section
variable {P:A0}{w:AH}{H:Hp}{h h':A8}{x e:Ad}{o':HO}
theorem HOk.write (ok:HOk P w H h)(mu:Mut (H x))(he:e=x\/H e=Ab (.own x))(k:∀ b u,b≠e->h.get? b=Ab u->h'.get? b=Ab u)(heo:∃ u,h'.get? e=Ab u)
  (new:qY P w (upd H x o') h' x o'):HOk P w (upd H x o') h':=λb u q=>by
 have nown:∀ c y,H c=Ab (.own y)->c≠x:=λc y r z=>by subst z;rw[r] at mu;exact mu
 have ntup:∀ c xs,H c=Ab (.tup xs)->c≠x:=λc xs r z=>by subst z;rw[r] at mu;exact mu
 by_cases hb:b=x
 .subst hb;rw[qR] at q;cases q;exact new
 .rw[qH hb] at q
  by_cases hbe:b=e
  .have q':H b=Ab (.own x):=by
    rcases he with z|z
    .exact absurd (hbe.trans z) hb
    .rw[hbe];exact z
   rw[q] at q';cases q';obtain⟨v,hv⟩:=heo;exact⟨v,by rw[hbe];exact hv⟩
  .refine(ok b u q).stay (λc v hc r=>k c v ?_ r) (λc r=>by rw[qH (nown c b r)];exact r) λc xs r=>by rw[qH (ntup c xs r)];exact r
   rcases hc with rfl|hc
   .exact hbe
   .rintro rfl
    rcases he with z|z
    .exact nown c b hc z
    .rw[hc] at z;cases z;exact hb rfl
end
structure Un (fs ex:Aa Ad)(H H':Hp)(h h':A8):Prop where
 keep:∀ b o,h.get? b=Ab o->H b=none->b ∉ fs->b ∉ ex->h'.get? b=Ab o
 slot:∀ b o,h.get? b=Ab o->H b=none->b∈fs->b ∉ ex->∃ sl,h'.get? b=Ab { o with slots:=sl }
 free:∀ b o,h.get? b=Ab o->H b=none->b ∉ ex->H' b=none
 there:∀ b o,h.get? b=Ab o->b ∉ ex->∃ o',h'.get? b=Ab o'
 tups:∀ b xs,H b=Ab (.tup xs)->H' b=Ab (.tup xs)
 frzs:∀ b o u,H b=Ab (.frz o u)->H' b=Ab (.frz o u)
 tbls:∀ b ps,H b=Ab (.tbl ps)->∃ more,H' b=Ab (.tbl (ps++more))
section
variable {fs fs' ex ex':Aa Ad}{H H1 H2:Hp}{h h1 h2 h':A8}{a x e:Ad}{o:HO}
theorem Un.any (u:Un fs ex H H1 h h1){b:Ad}{ob:AL}(q:h.get? b=Ab ob)(n:H b=none)(hx:b ∉ ex):∃ sl,h1.get? b=Ab { ob with slots:=sl }:=by
 by_cases hb:b∈fs
 .exact u.slot b ob q n hb hx
 .exact⟨ob.slots,u.keep b ob q n hb hx⟩
theorem Un.kept (k:∀ b u,h.get? b=Ab u->h'.get? b=Ab u):Un fs ex H H h h':=
 ⟨λb ob q _ _ _=>k b ob q,λb ob q _ _ _=>⟨ob.slots,k b ob q⟩,λ_ _ _ n _=>n,λb ob q _=>⟨ob,k b ob q⟩,λ_ _ q=>q,λ_ _ _ q=>q,λ_ ps q=>⟨#[],by rw[q];simp⟩⟩
theorem Un.refl:Un fs ex H H h h:=Un.kept λ_ _ q=>q
theorem Un.laid (k:∀ b u,h.get? b=Ab u->h'.get? b=Ab u)(hp:h.objs.size<=a)(hn:H a=none):Un fs ex H (upd H a o) h h' where
 keep:=λb u q _ _ _=>k b u q
 slot:=λb u q _ _ _=>⟨u.slots,k b u q⟩
 free:=λb u q n _=>by rw[qH (AV (Aw (Ay q) hp))];exact n
 there:=λb u q _=>⟨u,k b u q⟩
 tups:=λb xs q=>by rw[qH (qM q hn)];exact q
 frzs:=λb u xs q=>by rw[qH (qM q hn)];exact q
 tbls:=λb ps q=>⟨#[],by rw[qH (qM q hn),q];simp⟩
theorem Un.write (mu:Mut (H x))(he:e=x\/H e=Ab (.own x))(k:∀ b u,b≠e->h.get? b=Ab u->h'.get? b=Ab u)(heo:∃ u,h'.get? e=Ab u):Un fs ex H (upd H x o) h h':=by
 have hx:∀ b,H b=none->b≠x:=λb n z=>by subst z;rw[n] at mu;exact mu
 have hb:∀ b,H b=none->b≠e:=λb n z=>by
  subst z;rcases he with r|r
  .exact hx b n r
  .rw[n] at r;cases r
 have hm:∀ b u,H b=Ab u->¬ Mut (Ab u)->b≠x:=λb u q nm z=>by subst z;rw[q] at mu;exact nm mu
 refine⟨λb u q n _ _=>k b u (hb b n) q,λb u q n _ _=>⟨u.slots,k b u (hb b n) q⟩,λb u q n _=>by rw[qH (hx b n)];exact n,λb u q _=>?_,
  λb xs q=>by rw[qH (hm b _ q λz=>z)];exact q,λb u xs q=>by rw[qH (hm b _ q λz=>z)];exact q,λb ps q=>⟨#[],by rw[qH (hm b _ q λz=>z),q];simp⟩⟩
 by_cases hbe:b=e
 .subst hbe;exact heo
 .exact⟨u,k b u hbe q⟩
end
noncomputable def trk (h:A8)(H:Hp):Aa Ad:=(CJ h.objs.size).filter λa=>(H a).isSome
noncomputable def uX (h:A8)(H:Hp):A8:=Gw h (trk h H)
theorem rS (h:A8)(H:Hp):(uX h H).objs.size=h.objs.size:=PySem.W.hideAll_size _ _
theorem iC {h:A8}{H:Hp}{b:Ad}{o:AL}(e:h.get? b=Ab o)(n:H b=none):(uX h H).get? b=Ab o:=
 Jt _ e λhm=>by
  have q:(H b).isSome=true:=(Gx.mp hm).2;rw[n] at q;simp at q
theorem W2 {h:A8}{H:Hp}{b:Ad}{o:AL}(e:(uX h H).get? b=Ab o):h.get? b=Ab o/\H b=none:=by
 have e':h.get? b=Ab o:=Ko (trk h H) e;refine⟨e',?_⟩;cases q:H b with
 |none=>rfl
 |some x =>
  have hm:b∈trk h H:=Gx.mpr ⟨Dm.mpr (Ay e'),by simp[q]⟩
  have z:(uX h H).get? b=none:=PySem.W.hideAll_none (trk h H) hm;rw[z] at e;cases e
end _L
namespace _L
open PySem PySem.Spec PyProof.Rows
variable {g':A6 GenState}{ch:Aa Ad}{E:Ac->Af->Prop}{t':Aj}{d':Drawn}{M:EM}{Q:Ho->Af->Prop}
noncomputable def xH:Aa An:=["law","_law_right","by_hull","pair_bound"]
def YD (mg:An->Ak Ac)(h:A8):Prop:=∃ bm o,mg "__builtins__" = Ab (.ref bm)/\bm≠Hn/\h.get? bm=Ab o/\o.cls=.type "module" /\ o.dict=Ab Hn/\o.data=.plain
structure Mod (K:Ah)(mg:An->Ak Ac)(base:A8):Prop where
 kin:K.In base
 glob:base.Ns AM mg
 blt:∃ mb,base.Ns Hn mb/\∀ x:An,x ≠ "__name__" -> mb x=Cw x
 nolimit:base.NoLimit
 bm:YD mg base
 code:∀ x∈xH,∀ c T,Bb K x=Ab (c,T)->Je base c T
 inj:∀ x∈xH,∀ y∈xH,∀ c d T,Bb K x=Ab (c,T)->Bb K y=Ab (d,T)->x=y
structure Cx where
 prog:A0
 w:AH
 K:Ah
 mg:An->Ak Ac
 base:A8
 A:AF
 N:Aa An
 s₀:Af
 H₀:Hp
 env:DD
 outer:Aa DD
 stack:Aa DD
 ex:Aa Ad
 fn:An->Ap
 calm:Ap
 pn:Aa (Ad × AL)
 xe:Ac->Af->Prop
noncomputable def frs (l:Aa DD):Aa Ad:=l.filterMap (·.frame)
abbrev Cx.fs (X:Cx):Aa Ad:=frs X.outer
def Vis (sc:Bu)(x:An):Prop:=sc.names.lookup x=Ab .local \/ sc.names.lookup x=Ab .cell\/sc.names.lookup x=Ab .free
def Loc (sc:Bu)(x:An):Prop:=sc.names.lookup x=Ab .local \/ sc.names.lookup x=Ab .cell
def YG (env:DD)(h:A8)(m:An->Ak Ac)(x:An)(u:Ac):Prop:=
 (env.kindOf x=Ab .local /\ m x=Ab u)\/((env.kindOf x=Ab .cell\/env.kindOf x=Ab .free)/\∃ c,env.cells.lookup x=Ab c/\h.IsCell c (Ab u))
structure Cx.Ok (X:Cx):Prop where
 mod:Mod X.K X.mg X.base
 kind:X.env.scope.kind=.function
 glob:X.env.globals=AM
 blt:X.env.builtins=Hn
 above:X.s₀.heap.objs.size<=X.env.locals
 inj:∀ x y c,X.env.cells.lookup x=Ab c->X.env.cells.lookup y=Ab c->x=y
 has:∀ x,(X.env.kindOf x=Ab .cell\/X.env.kindOf x=Ab .free)->∃ c,X.env.cells.lookup x=Ab c
 cab:∀ x c,X.fn x=true->X.env.cells.lookup x=Ab c->X.s₀.heap.objs.size<=c
 hd:X.calm=true->X.A.handled=none
 frames:X.A.frames=Ab X.stack
 stk:X.stack=X.outer\/(X.stack=X.env::X.outer/\X.env.frame=Ab X.env.locals)
 exf:∀ b∈X.ex,b≠X.env.locals/\∀ x c,X.env.cells.lookup x=Ab c->c≠b
 bs:∀ b o,X.base.get? b=Ab o->X.s₀.heap.get? b=Ab o/\X.H₀ b=none
 bsz:X.base.objs.size<=X.s₀.heap.objs.size
 noex:∀ b o,X.base.get? b=Ab o->b ∉ X.ex
 exfs:∀ b∈X.ex,b ∉ X.fs
 funs:X.s₀.heap.FunFrames X.base X.outer
 frf:∀ b∈X.fs,X.H₀ b=none
structure Inv (X:Cx)(pins:Aa (Ad × AL))(σ : Aa (Ak V))(H:Hp)(s:Af):Prop where
 ok:X.Ok
 os:s.os=X.s₀.os
 bare:Ge s.gens
 base:Un X.fs X.ex X.H₀ H X.s₀.heap s.heap
 loc:∃ m,s.heap.Ns X.env.locals m/\∀ (i:Aj) (x:An) (v:V),X.N[i]? = Ab x->σ[i]? = Ab (Ab v)->Vis X.env.scope x->∃ u,qJ v u/\YG X.env s.heap m x u
 cell:∀ x c,X.env.cells.lookup x=Ab c->∃ v,s.heap.IsCell c v
 free:H X.env.locals=none
 freeC:∀ x c,X.env.cells.lookup x=Ab c->H c=none
 pin:∀ p∈X.pn++pins,s.heap.get? p.1=Ab p.2/\H p.1=none/\p.1≠X.env.locals/\p.1 ∉ X.fs/\∀ v,p.2.data≠.cell v
 hok:HOk X.prog X.w H s.heap
 len:σ.length=X.N.length
section
variable {X:Cx}{pins:Aa (Ad × AL)}{σ : Aa (Ak V)}{H H':Hp}{s:Af}{h':A8}
theorem Cx.Ok.nofr (ok:X.Ok){b:Ad}{o:AL}(e:X.base.get? b=Ab o):b ∉ X.fs:=λhb=>by
 have:=(ok.funs.mem hb).1;rw[e] at this;cases this
theorem Inv.bs (I:Inv X pins σ H s):∀ b o,X.base.get? b=Ab o->s.heap.get? b=Ab o/\H b=none:=λb o e =>
 ⟨I.base.keep b o (I.ok.bs b o e).1 (I.ok.bs b o e).2 (I.ok.nofr e) (I.ok.noex b o e),I.base.free b o (I.ok.bs b o e).1 (I.ok.bs b o e).2 (I.ok.noex b o e)⟩
theorem Inv.bk (I:Inv X pins σ H s):∀ b o,X.base.get? b=Ab o->s.heap.get? b=Ab o:=λb o e=>(I.bs b o e).1
theorem Inv.mod (I:Inv X pins σ H s):Mod X.K X.mg X.base:=I.ok.mod
theorem Inv.kIn (I:Inv X pins σ H s):X.K.In s.heap:=I.ok.mod.kin.keeps I.bk
theorem Inv.nolimit (I:Inv X pins σ H s):s.heap.NoLimit:=I.ok.mod.nolimit.keeps I.bk
theorem Inv.lt (I:Inv X pins σ H s):X.env.locals<s.heap.objs.size:=let ⟨_,hn,_⟩:=I.loc;hn.lt
theorem Inv.sz (I:Inv X pins σ H s):X.s₀.heap.objs.size<=s.heap.objs.size:=Bh I.ok.above (CM I.lt)
theorem Inv.nofs (I:Inv X pins σ H s){a:Ad}(h:s.heap.objs.size<=a):a ∉ X.fs:=λhb=>by
 obtain⟨_,o,ho,_⟩:=I.ok.funs.mem hb;exact absurd (Aw (Ay ho) (Bh I.sz h)) (Bn _)
theorem Inv.cne (I:Inv X pins σ H s):∀ x c,X.env.cells.lookup x=Ab c->c≠X.env.locals:=λx c e z=>by
 obtain⟨v,o,ho,hd⟩:=I.cell x c e;obtain⟨m,⟨o',es,ep,ho',hd',_⟩,_⟩:=I.loc;rw[z,ho'] at ho;cases ho;rw[hd'] at hd;cases hd
theorem Inv.funs (I:Inv X pins σ H s):s.heap.FunFrames X.base X.outer:=by
 have all:∀ (l:Aa DD),(∀ b∈frs l,b∈X.fs)->X.s₀.heap.FunFrames X.base l->s.heap.FunFrames X.base l:=by
  intro l
  induction l with
  |nil=>intro _ _;trivial
  |cons env r ih =>
   intro hs hl;obtain⟨hk,⟨L,o,hf,hn,ho,hd⟩,hr⟩:=hl;have hL:L∈X.fs:=hs L (by unfold frs;rw[EQ,hf];exact CQ)
   obtain⟨sl,e⟩:=I.base.slot L o ho (I.ok.frf L hL) hL λz=>I.ok.exfs L z hL;exact⟨hk,⟨L,_,hf,hn,e,hd⟩,ih (λb hb=>hs b (by unfold frs;rw[EQ,hf];exact Ba _ hb)) hr⟩
 exact all X.outer (λ_ hb=>hb) I.ok.funs
theorem Inv.stack (I:Inv X pins σ H s):s.heap.FunFrames X.base X.stack:=by
 rcases I.ok.stk with e|⟨e,hf⟩
 .rw[e];exact I.funs
 .rw[e]
  obtain⟨m,hn,_⟩:=I.loc;refine .cons (by rw[I.ok.kind];decide) hf hn ?_ I.funs
  exact Heap.get?_none_of_le (Bh I.ok.bsz I.ok.above)
theorem Inv.stkSub (I:Inv X pins σ H s):∀ b∈frs X.stack,b∈X.env.locals::X.fs:=λb hb=>by
 rcases I.ok.stk with e|⟨e,hf⟩
 .rw[e] at hb;exact Ba _ hb
 .rw[e] at hb
  unfold frs at hb;rw[EQ,hf] at hb;exact hb
theorem Inv.stkFree (I:Inv X pins σ H s):∀ b∈frs X.stack,H b=none:=λb hb=>by
 rcases AR.mp (I.stkSub b hb) with e|hb
 .rw[e];exact I.free
 .obtain⟨_,o,ho,_⟩:=I.ok.funs.mem hb
  exact I.base.free b o ho (I.ok.frf b hb) λz=>I.ok.exfs b z hb
theorem Inv.step {g':A6 GenState}{t':Aj}{d':Drawn}(I:Inv X pins σ H s)
  (hch:∀ b∈ch,(b∈X.ex\/X.s₀.heap.objs.size<=b)/\b≠X.env.locals/\(∀ x c,X.env.cells.lookup x=Ab c->c≠b)/\∀ p∈X.pn++pins,p.1≠b)
  (keep:∀ b o,b≠X.env.locals->b ∉ X.fs->b ∉ ch->s.heap.get? b=Ab o->H b=none->h'.get? b=Ab o)
  (slot:∀ b o,b≠X.env.locals->b∈X.fs->b ∉ ch->s.heap.get? b=Ab o->H b=none->∃ sl,h'.get? b=Ab { o with slots:=sl }) (free:∀ b o,b ∉ ch->s.heap.get? b=Ab o->H b=none->H' b=none)
  (there:∀ b o,b ∉ ch->s.heap.get? b=Ab o->∃ o',h'.get? b=Ab o')
  (tups:∀ b xs,H b=Ab (.tup xs)->H' b=Ab (.tup xs)) (frzs:∀ b o u,H b=Ab (.frz o u)->H' b=Ab (.frz o u)) (tbls:∀ b ps,H b=Ab (.tbl ps)->∃ more,H' b=Ab (.tbl (ps++more)))
  (ns:∀ m,s.heap.Ns X.env.locals m->h'.Ns X.env.locals m) (hok:HOk X.prog X.w H' h') (hg:Ge g') :
  Inv X pins σ H' { s with heap:=h',gens:=g',drawn:=d',toks:=t' }:=by
 have neL:∀ b o,X.s₀.heap.get? b=Ab o->b≠X.env.locals:=λb o e=>AV (Aw (Ay e) I.ok.above);have neC:∀ b o,X.s₀.heap.get? b=Ab o->b ∉ X.ex->b ∉ ch:=λb o e hx hb=>by
  rcases (hch b hb).1 with z|z
  .exact hx z
  .exact absurd (Aw (Ay e) z) (Bn _)
 have cellK:∀ x c,X.env.cells.lookup x=Ab c->∀ v,s.heap.IsCell c v->h'.IsCell c v:=λx c e v ⟨o,ho,hd⟩=>by
  have nch:c ∉ ch:=λz=>(hch c z).2.2.1 x c e rfl;by_cases hc:c∈X.fs
  .obtain⟨sl,q⟩:=slot c o (I.cne x c e) hc nch ho (I.freeC x c e)
   exact⟨_,q,hd⟩
  .exact⟨o,keep c o (I.cne x c e) hc nch ho (I.freeC x c e),hd⟩
 refine⟨I.ok,I.os,hg,⟨λb o e n hb hx=>?_,λb o e n hb hx=>?_,λb o e n hx=>?_,λb o e hx=>?_,λb xs e=>tups b xs (I.base.tups b xs e),λb o xs e=>frzs b o xs (I.base.frzs b o xs e),λb ps e=>?_⟩,?_,λx c e=>?_,?_,λx c e=>?_,λp hp=>?_,hok,I.len⟩
 .exact keep b o (neL b o e) hb (neC b o e hx) (I.base.keep b o e n hb hx) (I.base.free b o e n hx)
 .obtain⟨sl,e1⟩:=I.base.slot b o e n hb hx
  obtain⟨sl',e2⟩:=slot b _ (neL b o e) hb (neC b o e hx) e1 (I.base.free b o e n hx);exact⟨sl',e2⟩
 .obtain⟨o',e1⟩:=I.base.there b o e hx
  exact free b o' (neC b o e hx) e1 (I.base.free b o e n hx)
 .obtain⟨o',e1⟩:=I.base.there b o e hx
  exact there b o' (neC b o e hx) e1
 .obtain⟨m1,e1⟩:=I.base.tbls b ps e
  obtain⟨m2,e2⟩:=tbls b _ e1;exact⟨m1++m2,by rw[e2,Array.append_assoc]⟩
 .obtain⟨m,hn,hl⟩:=I.loc
  refine⟨m,ns m hn,λi x v e1 e2 e3=>?_⟩;obtain⟨u,r,l⟩:=hl i x v e1 e2 e3;refine⟨u,r,?_⟩;rcases l with l|⟨k,c,e,z⟩
  .exact .inl l
  .exact .inr ⟨k,c,e,cellK x c e _ z⟩
 .obtain⟨v,z⟩:=I.cell x c e
  exact⟨v,cellK x c e v z⟩
 .obtain⟨m,⟨o,_,_,ho,_⟩,_⟩:=I.loc
  exact free _ o (λz=>(hch _ z).2.1 rfl) ho I.free
 .obtain⟨v,o,ho,hd⟩:=I.cell x c e
  exact free c o (λz=>(hch c z).2.2.1 x c e rfl) ho (I.freeC x c e)
 .obtain⟨e,n,ne,nf,d⟩:=I.pin p hp
  have nch:p.1 ∉ ch:=λz=>(hch p.1 z).2.2.2 p hp rfl;exact⟨keep p.1 p.2 ne nf nch e n,free p.1 p.2 nch e n,ne,nf,d⟩
theorem Inv.un {t':Aj}(I:Inv X pins σ H s)(u:Un X.fs [] H H' s.heap h')(hok:HOk X.prog X.w H' h'):Inv X pins σ H' { s with heap:=h',toks:=t' }:=by
 obtain⟨m,⟨o,es,ep,ho,r⟩,_⟩:=id I.loc;obtain⟨sl,hL⟩:=u.any ho I.free (by simp)
 exact I.step (g':=s.gens) (d':=s.drawn) (ch:=[]) (λ_ z=>nomatch z) (λb o _ hb _ e n=>u.keep b o e n hb (by simp)) (λb o _ hb _ e n=>u.slot b o e n hb (by simp)) (λb o _ e n=>u.free b o e n (by simp)) (λb o _ e=>u.there b o e (by simp)) u.tups u.frzs u.tbls (λm' hm=>by
  obtain⟨o',es',ep',ho',r'⟩:=hm;rw[ho] at ho';cases ho';exact⟨_,es',ep',hL,r'⟩) hok I.bare
theorem Inv.call {t':Aj}{d':Drawn}(I:Inv X pins σ H s)(u:Un (frs X.stack) ch H H' s.heap h')(hok:HOk X.prog X.w H' h')(hg:Ge g')
  (hch:∀ b∈ch,(b∈X.ex\/X.s₀.heap.objs.size<=b)/\b≠X.env.locals/\(∀ x c,X.env.cells.lookup x=Ab c->c≠b)/\∀ p∈X.pn++pins,p.1≠b) :
  Inv X pins σ H' { s with heap:=h',gens:=g',drawn:=d',toks:=t' }:=by
 obtain⟨m,⟨o,es,ep,ho,r⟩,_⟩:=id I.loc;obtain⟨sl,hL⟩:=u.any ho I.free λz=>(hch _ z).2.1 rfl;exact I.step (ch:=ch) hch (λb o hL hb hc e n=>u.keep b o e n (λz=>(AR.mp (I.stkSub b z)).elim hL hb) hc) (λb o _ _ hc e n=>u.any e n hc) (λb o hc e n=>u.free b o e n hc) (λb o hc e=>u.there b o e hc) u.tups u.frzs u.tbls (λm' hm=>by
  obtain⟨o',es',ep',ho',r'⟩:=hm;rw[ho] at ho';cases ho';exact⟨_,es',ep',hL,r'⟩) hok hg
theorem Inv.turned {t':Aj}{it:Ad}(I:Inv X pins σ H s)(k:∀ b o,b≠it->s.heap.get? b=Ab o->h'.get? b=Ab o)(hn:H it=none)(hL:it≠X.env.locals)
  (h1:it∈X.ex\/X.s₀.heap.objs.size<=it) (h2:∀ x c,X.env.cells.lookup x=Ab c->c≠it) (h3:∀ p∈X.pn++pins,p.1≠it):Inv X pins σ H { s with heap:=h',toks:=t' }:=by
 have nit:∀ b u,H b=Ab u->b≠it:=λb u e z=>by rw[z,hn] at e;cases e
 refine I.step (g':=s.gens) (d':=s.drawn) (ch:=[it]) (λb hb=>?_) (λb o _ _ hc e _=>k b o (λz=>hc (by simp[z])) e) (λb o _ _ hc e _=>⟨o.slots,k b o (λz=>hc (by simp[z])) e⟩) (λ_ _ _ _ n=>n)
  (λb o hc e=>⟨o,k b o (λz=>hc (by simp[z])) e⟩) (λ_ _ e=>e) (λ_ _ _ e=>e) (λb ps e=>⟨#[],by rw[e];simp⟩) (λm hm=>?_) (λb u e=>?_) I.bare
 .have e:b=it:=by simpa using hb
  subst e;exact⟨h1,hL,h2,h3⟩
 .obtain⟨o,es,ep,ho,r⟩:=hm
  exact⟨o,es,ep,k _ o (Df hL) ho,r⟩
 .refine(I.hok b u e).stay (λc v hc q=>k c v ?_ q) (λ_ q=>q) λ_ _ q=>q
  rcases hc with z|z
  .rw[z];exact nit b u e
  .exact nit c _ z
theorem Inv.tok (I:Inv X pins σ H s)(t:Aj):Inv X pins σ H { s with toks:=t }:=I.un (h':=s.heap) (t':=t) Un.refl I.hok
theorem Inv.kept {t':Aj}(I:Inv X pins σ H s)(k:∀ b u,s.heap.get? b=Ab u->h'.get? b=Ab u):Inv X pins σ H { s with heap:=h',toks:=t' }:=I.un (Un.kept k) (I.hok.kept k)
theorem Inv.laid {a:Ad}{o:HO}{t':Aj}(I:Inv X pins σ H s)(k:∀ b u,s.heap.get? b=Ab u->h'.get? b=Ab u)(hp:s.heap.objs.size<=a)(new:qY X.prog X.w (upd H a o) h' a o) :
  Inv X pins σ (upd H a o) { s with heap:=h',toks:=t' }:=I.un (Un.laid k hp (I.hok.fresh hp)) (I.hok.laid k hp new)
theorem Inv.write {x e:Ad}{o:HO}{t':Aj}(I:Inv X pins σ H s)(mu:Mut (H x))(he:e=x\/H e=Ab (.own x))(k:∀ b u,b≠e->s.heap.get? b=Ab u->h'.get? b=Ab u)(heo:∃ u,h'.get? e=Ab u)
  (new:qY X.prog X.w (upd H x o) h' x o):Inv X pins σ (upd H x o) { s with heap:=h',toks:=t' }:=I.un (Un.write mu he k heo) (I.hok.write mu he k heo new)
theorem Inv.pins_of {pins':Aa (Ad × AL)}(I:Inv X pins σ H s)(h:∀ p∈pins',s.heap.get? p.1=Ab p.2/\H p.1=none/\p.1≠X.env.locals/\p.1 ∉ X.fs/\∀ v,p.2.data≠.cell v):Inv X pins' σ H s:=
 ⟨I.ok,I.os,I.bare,I.base,I.loc,I.cell,I.free,I.freeC,λp hp=>(AX.mp hp).elim (λz=>I.pin p (Bd _ z)) (h p),I.hok,I.len⟩
theorem gL {N:Aa An}(hN:N.Nodup){i j:Aj}{x:An}(a:N[i]? = Ab x)(b:N[j]? = Ab x):i=j:=by
 obtain⟨h1,e1⟩:=AO.mp a;obtain⟨h2,e2⟩:=AO.mp b;exact(HV hN).mp (e1.trans e2.symm)
theorem fJ {A:AF}{i:Aj}{x:An}{v:V}{u:Ac}(I:Inv X pins σ H s)(hN:X.N.Nodup)(hi:X.N[i]? = Ab x)(hx:Loc X.env.scope x)(r:qJ v u)
  (h:∀ s',Inv X pins (σ.set i (Ab v)) H s'->(∃ a,CN a s.heap s'.heap/\(a=X.env.locals\/X.env.cells.lookup x=Ab a))->Q () s') (hf:X.fn x=true\/X.env.scope.names.lookup x=Ab .local:=by first|exact .inl rfl|exact .inr rfl|assumption):Ao M A (Nl X.env x u) Q E s:=by
 obtain⟨m,hn,hl⟩:=id I.loc;have hcls:(X.env.scope.kind == .class||(X.env.scope.kind == .module&&X.env.locals != X.env.globals))=false:=by rw[I.ok.kind];rfl
 have hiσ:i<σ.length:=by rw[I.len];exact(AO.mp hi).1
 have cne:=I.cne;have tracked:∀ {a:Ad} {h':A8},(∃ o,s.heap.get? a=Ab o/\H a=none)->CN a s.heap h'->HOk X.prog X.w H h':=λ{a h'} ha hs b ob e=>by
  obtain⟨_,_,hfree⟩:=ha;refine(I.hok b ob e).stay (λc w' hc q=>(hs.2 c ?_).trans q) (λ_ q=>q) λ_ _ q=>q;rintro rfl;rcases hc with rfl|hc
  .rw[hfree] at e;cases e
  .rw[hfree] at hc;cases hc
 rcases hx with hk|hk
 .refine wpAny_storeName_local hk hn (λh' hn' hs=>?_) hcls
  obtain⟨oL,_,_,hoL,_⟩:=id hn;refine h _ ⟨I.ok,I.os,I.bare,⟨λb o e n hb hx=>?_,λb o e n hb hx=>?_,I.base.free,λb o e hx=>?_,I.base.tups,I.base.frzs,I.base.tbls⟩,⟨_,hn',λj y v' e1 e2 e3=>?_⟩,λy c e=>?_,I.free,I.freeC,λp hp=>?_,tracked ⟨oL,hoL,I.free⟩ hs,by simpa using I.len⟩ ⟨_,hs,.inl rfl⟩
  .exact(hs.2 b (AV (Aw (Ay e) I.ok.above))).trans (I.base.keep b o e n hb hx)
  .obtain⟨sl,e1⟩:=I.base.slot b o e n hb hx
   exact⟨sl,(hs.2 b (AV (Aw (Ay e) I.ok.above))).trans e1⟩
  .obtain⟨o',e1⟩:=I.base.there b o e hx
   exact⟨o',(hs.2 b (AV (Aw (Ay e) I.ok.above))).trans e1⟩
  .by_cases hj:j=i
   .subst hj
    rw[hi] at e1;cases e1;rw[CW hiσ] at e2;cases e2;exact⟨u,r,.inl ⟨hk,by simp⟩⟩
   .rw[Cg (Df hj)] at e2
    obtain⟨u',r',q⟩:=hl j y v' e1 e2 e3;refine⟨u',r',?_⟩;rcases q with⟨k,e⟩|⟨k,c,e,z⟩
    .refine .inl ⟨k,?_⟩
     have:y≠x:=λe=>hj (gL hN e1 (e▸hi));simp[this,e]
    .exact .inr ⟨k,c,e,z.sameBut hs (cne y c e)⟩
  .obtain⟨w',z⟩:=I.cell y c e
   exact⟨w',z.sameBut hs (cne y c e)⟩
  .obtain⟨e,n,ne,nf,d⟩:=I.pin p hp
   exact⟨(hs.2 p.1 ne).trans e,n,ne,nf,d⟩
 .have hfn:X.fn x=true:=by
   rcases hf with z|z
   .exact z
   .rw[z] at hk;cases hk
  obtain⟨c,hc⟩:=I.ok.has x (.inl hk);obtain⟨w',z⟩:=I.cell x c hc;refine wpAny_storeName_cell I.ok.kind hk hc z (λh' hc' hs=>?_);obtain⟨oc,hoc,hocd⟩:=id z;refine h { s with heap:=h' } ⟨I.ok,I.os,I.bare,⟨λb o e n hb hx=>?_,λb o e n hb hx=>?_,I.base.free,λb o e hx=>?_,I.base.tups,I.base.frzs,I.base.tbls⟩,⟨m,hn.sameBut hs (Df (cne x c hc)),λj y v' e1 e2 e3=>?_⟩,λy c' e=>?_,I.free,I.freeC,λp hp=>?_,tracked ⟨oc,hoc,I.freeC x c hc⟩ hs,by simpa using I.len⟩ ⟨c,hs,.inr hc⟩
  .exact(hs.2 b (AV (Aw (Ay e) (I.ok.cab x c hfn hc)))).trans (I.base.keep b o e n hb hx)
  .obtain⟨sl,e1⟩:=I.base.slot b o e n hb hx
   exact⟨sl,(hs.2 b (AV (Aw (Ay e) (I.ok.cab x c hfn hc)))).trans e1⟩
  .obtain⟨o',e1⟩:=I.base.there b o e hx
   exact⟨o',(hs.2 b (AV (Aw (Ay e) (I.ok.cab x c hfn hc)))).trans e1⟩
  .by_cases hj:j=i
   .subst hj
    rw[hi] at e1;cases e1;rw[CW hiσ] at e2;cases e2;exact⟨u,r,.inr ⟨.inl hk,c,hc,hc'⟩⟩
   .rw[Cg (Df hj)] at e2
    obtain⟨u',r',q⟩:=hl j y v' e1 e2 e3;refine⟨u',r',?_⟩;rcases q with q|⟨k,c',e,z'⟩
    .exact .inl q
    .refine .inr ⟨k,c',e,z'.sameBut hs ?_⟩
     rintro rfl;exact hj (gL hN e1 (I.ok.inj _ _ _ e hc▸hi))
  .by_cases hcc:c'=c
   .subst hcc;exact⟨_,hc'⟩
   .obtain⟨w2,z2⟩:=I.cell y c' e
    exact⟨w2,z2.sameBut hs hcc⟩
  .obtain⟨e,n,ne,nf,d⟩:=I.pin p hp
   refine⟨(hs.2 p.1 ?_).trans e,n,ne,nf,d⟩;intro q;rw[q,hoc] at e;have q':oc=p.2:=AQ e;exact d w' (by rw[<- q'];exact hocd)
theorem jH {A:AF}{i:Aj}{x:An}{v:V}{u:Ac}(I:Inv X pins σ H s)(hN:X.N.Nodup)(hi:X.N[i]? = Ab x)(hx:Loc X.env.scope x)(r:qJ v u)
  (h:∀ s',Inv X pins (σ.set i (Ab v)) H s'->Q () s') (hf:X.fn x=true\/X.env.scope.names.lookup x=Ab .local:=by first|exact .inl rfl|exact .inr rfl|assumption):Ao M A (Nl X.env x u) Q E s:=
 fJ I hN hi hx r (λs' I' _=>h s' I') hf
theorem Inv.call' {s':Af}(I:Inv X pins σ H s)(ho:s'.os=s.os)(u:Un (frs X.stack) ch H H' s.heap s'.heap)(hok:HOk X.prog X.w H' s'.heap)(hg:Ge s'.gens)
  (hch:∀ b∈ch,(b∈X.ex\/X.s₀.heap.objs.size<=b)/\b≠X.env.locals/\(∀ x c,X.env.cells.lookup x=Ab c->c≠b)/\∀ p∈X.pn++pins,p.1≠b):Inv X pins σ H' s':=by
 obtain⟨h',g',d',t',o'⟩:=s';have e:o'=s.os:=ho;subst e;exact I.call (g':=g') (t':=t') (d':=d') u hok hg hch
end
abbrev XK:=Ac->Ak Ad->Hp->Prop
abbrev St:=Aa (Ak V)
abbrev VK:=V->Hp->Prop
abbrev TE:=St->Hp->VK->Prop
abbrev TT:=St->Hp->(Ap->Hp->Prop)->Prop
abbrev TA:=St->Hp->(Aa V->Hp->Prop)->Prop
structure Ends where
 nx:St->Hp->Prop
 rt:VK
 bk:St->Hp->Prop:=λ_ _=>Cp
 ct:St->Hp->Prop:=λ_ _=>Cp
abbrev TS:=Ends->St->Hp->Prop
inductive EP (X:Cx)(pins:Aa (Ad × AL))(σ : St)(Q:VK)(u:Ac)(s':Af):Prop
 |mk (v:V) (H':Hp) (I:Inv X pins σ H' s') (r:qJ v u) (q:Q v H'):EP X pins σ Q u s'
inductive TP (X:Cx)(pins:Aa (Ad × AL))(σ : St)(Q:Ap->Hp->Prop)(b:Ap)(s':Af):Prop
 |mk (H':Hp) (I:Inv X pins σ H' s') (q:Q b H'):TP X pins σ Q b s'
inductive AP (X:Cx)(pins:Aa (Ad × AL))(σ : St)(Q:Aa V->Hp->Prop)(us:Aa Ac)(s':Af):Prop
 |mk (vs:Aa V) (H':Hp) (I:Inv X pins σ H' s') (r:qK vs us) (q:Q vs H'):AP X pins σ Q us s'
def SP (X:Cx)(pins:Aa (Ad × AL))(D:Ends)(f:Flow)(s':Af):Prop:=
 match f with
 |.next=>∃ σ' H',Inv X pins σ' H' s'/\D.nx σ' H'
 |.brk=>∃ σ' H',Inv X pins σ' H' s'/\D.bk σ' H'
 |.cont=>∃ σ' H',Inv X pins σ' H' s'/\D.ct σ' H'
 |.ret u=>∃ v σ' H',Inv X pins σ' H' s'/\qJ v u/\D.rt v H'
def PE (X:Cx)(e:AE)(t:TE):Prop:=
 ∀ (pins:Aa (Ad × AL)) (s:Af) (σ : St) (H:Hp) (Q:VK),Inv X pins σ H s->t σ H Q->Ao (Aq X.prog X.w) X.A (eval e X.env) (EP X pins σ Q) X.xe s
def PT (X:Cx)(e:AE)(t:TT):Prop:=
 ∀ (pins:Aa (Ad × AL)) (s:Af) (σ : St) (H:Hp) (Q:Ap->Hp->Prop),Inv X pins σ H s->t σ H Q->Ao (Aq X.prog X.w) X.A (isTrue e X.env (eval e X.env)) (TP X pins σ Q) X.xe s
def PW (X:Cx)(e:AE)(t:TT):Prop:=
 ∀ (whole:EE Ac) (pins:Aa (Ad × AL)) (s:Af) (σ : St) (H:Hp) (Q:Ap->Hp->Prop),Inv X pins σ H s->t σ H Q->Ao (Aq X.prog X.w) X.A (isTrue e X.env whole) (TP X pins σ Q) X.xe s
def PA (X:Cx)(es:Aa AE)(t:TA):Prop:=
 ∀ (pos:CD) (pins:Aa (Ad × AL)) (s:Af) (σ : St) (H:Hp) (Q:Aa V->Hp->Prop),Inv X pins σ H s->t σ H Q->Ao (Aq X.prog X.w) X.A (spliced (CB pos (Av es X.env))) (AP X pins σ Q) X.xe s
def PS (X:Cx)(st:Ca)(t:TS):Prop:=
 ∀ (pins:Aa (Ad × AL)) (s:Af) (σ : St) (H:Hp) (D:Ends),Inv X pins σ H s->t D σ H->Ao (Aq X.prog X.w) X.A (exec st X.env) (SP X pins D) X.xe s
def PSs (X:Cx)(st:Aa Ca)(t:TS):Prop:=
 ∀ (pins:Aa (Ad × AL)) (s:Af) (σ : St) (H:Hp) (D:Ends),Inv X pins σ H s->t D σ H->Ao (Aq X.prog X.w) X.A (execs st X.env) (SP X pins D) X.xe s
theorem thn {α:Type}{t:EE α}{Q Q':α->Af->Prop}{A:AF}{s:Af}(h:Ao M A t Q E s)(hQ:∀ a s,Q a s->Q' a s):Ao M A t Q' E s:=Dp h hQ λ_ _ x=>x
end _L
namespace _L
open PySem PySem.Spec PyProof.Rows
variable {pins:Aa (Ad × AL)}{u:Ac}{E Q:Ac->Af->Prop}
section
variable {X:Cx}
theorem bin {a b:AE}{ta tb:TE}(ha:PE X a ta)(hb:PE X b tb){pins:Aa (Ad × AL)}{s:Af}{σ : St}{H:Hp}{R:V->V->Hp->Prop}(I:Inv X pins σ H s)(h:ta σ H λx H1=>tb σ H1 λy H2=>R x y H2)
  {α:Type} {Q:α->Af->Prop} {f:Ac->Ac->EE α}
  (hf:∀ v u s2 x y H2,Inv X pins σ H2 s2->qJ x v->qJ y u->R x y H2->Ao (Aq X.prog X.w) X.A (f v u) Q X.xe s2) :
  Ao (Aq X.prog X.w) X.A (eval a X.env) (λv s₁=>Ao (Aq X.prog X.w) X.A (eval b X.env) (λu s₂=>Ao (Aq X.prog X.w) X.A (f v u) Q X.xe s₂) X.xe s₁) X.xe s:=by
 refine thn (ha pins s σ H _ I h) λv s1 ⟨x,H1,I1,r1,q1⟩=>?_;refine thn (hb pins s1 σ H1 _ I1 q1) λu s2 ⟨y,H2,I2,r2,q2⟩=>?_;exact hf v u s2 x y H2 I2 r1 r2 q2
def KG (i:Aj):TE:=λσ H Q=>∃ v,σ[i]? = Ab (Ab v)/\Q v H
def tC (v:V):TE:=λ_ H Q=>Q v H
theorem eQ {i:Aj}{x:An}{pos:CD}(hN:X.N[i]? = Ab x)(hv:Vis X.env.scope x)(hd:(x == ("__debug__" : An))=false:=by decide)(hcd:(x == ("__classdict__" : An))=false:=by decide):PE X (.Name x pos) (KG i):=by
 intro pins s σ H Q I h;obtain⟨v,e,h⟩:=h;obtain⟨m,hn,hl⟩:=I.loc;obtain⟨u,r,l⟩:=hl i x v hN e hv;have fin:EP X pins σ Q u s:=⟨v,H,I,r,h⟩;rcases l with⟨hk,hm⟩|⟨hk,c,hc,hcell⟩
 .exact Mt (Jl I.ok.kind hk hn hm fin) hd
 .rcases hk with hk|hk
  .exact Mt (Ju I.ok.kind hk hc hcell fin) hd
  .exact Mt (wpAny_loadName_free I.ok.kind hk hc hcell fin hcd) hd
theorem JC:PE X (.Constant (.int i) j pos) (tC (.int i)):=λ_ _ _ H _ I h=>wpAny_Constant_int ⟨.int i,H,I.tok _,⟨_,rfl⟩,h⟩
theorem B6:PE X (.Constant (.bool b) j pos) (tC (.bl b)):=λ_ _ _ H _ I h=>Constant_bool ⟨.bl b,H,I,rfl,h⟩
theorem JD:PE X (.Constant .none j pos) (tC .non):=λ_ _ _ H _ I h=>Constant_none ⟨.non,H,I,rfl,h⟩
theorem JF:PE X (.Constant (.str x) j pos) (tC (.str x)):=λ_ _ _ H _ I h=>Calls.Constant_str ⟨.str x,H,I.tok _,⟨_,rfl⟩,h⟩
def Gl (X:Cx)(x:An):Prop:=X.env.kindOf x=Ab .globalImplicit
theorem wV {s:Af}{σ:St}{H:Hp}{x:An}{pos:CD}(I:Inv X pins σ H s)(hg:Gl X x)(hm:X.mg x=Ab u)(h:Q u s)
  (hd:(x == ("__debug__" : An))=false:=by decide):Ao (Aq X.prog X.w) X.A (eval (.Name x pos) X.env) Q E s:=
 Hw I.ok.kind hg (Calls.loadGlobal_global (by rw[I.ok.glob];exact I.mod.glob.keeps I.bk) hm h) hd
theorem xX {s:Af}{σ:St}{H:Hp}{x:An}{pos:CD}(I:Inv X pins σ H s)(hg:Gl X x)(hm:X.mg x=none)(hv:Cw x=Ab u)(h:Q u s)
  (hn:x ≠ "__name__":=by decide) (hd:(x == ("__debug__" : An))=false:=by decide):Ao (Aq X.prog X.w) X.A (eval (.Name x pos) X.env) Q E s:=by
 obtain⟨mb,h1,h2⟩:=I.mod.blt;exact Hw I.ok.kind hg (Calls.loadGlobal_builtin (by rw[I.ok.glob];exact I.mod.glob.keeps I.bk) hm (by rw[I.ok.blt];exact h1.keeps I.bk) ((h2 x hn).trans hv) h) hd
theorem W5 {x:An}{v:V}{pos:CD}(hg:Gl X x)(hm:X.mg x=Ab u)(r:qJ v u)(hd:(x == ("__debug__" : An))=false:=by decide):PE X (.Name x pos) (tC v):=
 λ_ _ _ H _ I h=>wV I hg hm ⟨v,H,I,r,h⟩ hd
theorem W4 {x:An}{v:V}{pos:CD}(hg:Gl X x)(hm:X.mg x=none)(hv:Cw x=Ab u)(r:qJ v u)(hn:x ≠ "__name__":=by decide)(hd:(x == ("__debug__" : An))=false:=by decide):PE X (.Name x pos) (tC v):=
 λ_ _ _ H _ I h=>xX I hg hm hv ⟨v,H,I,r,h⟩ hn hd
variable {a b:AE}{ta tb:TE}{pos:CD}
variable {tA tB':TT}{rest:Aa AE}
theorem JN (ha:PT X a tA):PW X (.BoolOp .Or [a] pos) tA:=by
 intro wh pins s σ H Q I h;refine isTrue_or (thn (ha pins s σ H Q I h) λc s1 e=>?_);cases c with
 |false=>exact isTrue_or_nil e
 |true=>exact e
theorem JE {t:TE}(h:PE X a t):PE X (.BoolOp op [a] pos) t:=λpins s σ H Q I hw=>BoolOp_one (h pins s σ H Q I hw)
end
end _L
namespace _L
open PySem PySem.Spec PyProof.Rows
variable {P:A0}{tg:AE}{w:AH}{es:Aa AE}{K:Ah}
def SqL (K:Ah)(H:Hp)(a:Ad)(xs:Aa V):Prop:=
 Rd H a (.lst xs) \/
  ∃ (o:AL) (its:A6 Ac) (n:Aj),K.lookup a=Ab o/\o.cls=.type "list" /\ o.dict=none/\o.data=.seq its n/\its.size<=sizeLine/\qK xs its.toList
def SqT (K:Ah)(H:Hp)(a:Ad)(xs:Aa V):Prop:=
 Rd H a (.tup xs) \/
  ∃ (o:AL) (its:A6 Ac) (n:Aj),K.lookup a=Ab o/\o.cls=.type "tuple" /\ o.data=.seq its n/\its.size<=sizeLine/\qK xs its.toList
noncomputable def FB:Ac->Ak V
 |.none=>Ab .non
 |.bool b=>Ab (.bl b)
 |.int i _=>Ab (.int i)
 |.str x _=>Ab (.str x)
 |.bytes b _=>Ab (.byt b)
 |.float b _=>Ab (.flt b)
 |.ref a=>Ab (.ref a)
 |.type n=>Ab (.ty n)
 |_=>none
theorem qJ.abs {x:V}{u:Ac}(r:qJ x u):FB u=Ab x:=by
 cases x with
 |non=>cases r;rfl
 |bl _=>cases r;rfl
 |int _=>obtain⟨t,rfl⟩:=r;rfl
 |str _=>obtain⟨t,rfl⟩:=r;rfl
 |byt _=>obtain⟨t,rfl⟩:=r;rfl
 |flt _=>obtain⟨t,rfl⟩:=r;rfl
 |ref _=>cases r;rfl
 |ty _=>cases r;rfl
theorem qJ.inj {x y:V}{u:Ac}(r:qJ x u)(q:qJ y u):x=y:=AQ (r.abs.symm.trans q.abs)
theorem qK.inj {xs ys:Aa V}{us:Aa Ac}(h:qK xs us)(k:qK ys us):xs=ys:=by
 induction h generalizing ys with
 |nil=>cases k;rfl
 |cons r t ih =>
  cases k with
  |cons r' t'=>rw[r.inj r',ih t']
section
variable {X:Cx}{pins:Aa (Ad × AL)}{σ : St}{H:Hp}{s:Af}{a:Ad}{xs ys:Aa V}
theorem SqL.of (h:H a=Ab (.lst xs)):SqL K H a xs:=.inl (.inl h)
theorem SqT.of (h:H a=Ab (.tup xs)):SqT K H a xs:=.inl (.inl h)
theorem Inv.list (I:Inv X pins σ H s)(h:SqL X.K H a xs):∃ its:Aa Ac,qK xs its/\PlainL s.heap a its.toArray/\xs.length<=sizeLine:=by
 rcases h with h|⟨o,its,n,hk,hc,hd,hs,hz,r⟩
 .obtain⟨z,its,n,r,e⟩:=h.ok I.hok
  exact⟨its,r,⟨_,n,e,rfl,rfl,rfl⟩,z⟩
 .refine⟨its.toList,r,⟨o,n,I.kIn a o hk,hc,hd,by simpa using hs⟩,?_⟩
  have e:=r.length;simp only[AJ] at e
  lia
theorem Inv.tuple (I:Inv X pins σ H s)(h:SqT X.K H a xs):∃ its:Aa Ac,qK xs its/\Lq s.heap a its.toArray/\xs.length<=sizeLine:=by
 rcases h with h|⟨o,its,n,hk,hc,hs,hz,r⟩
 .obtain⟨z,its,r,p⟩:=h.ok I.hok
  exact⟨its,r,p,z⟩
 .refine⟨its.toList,r,⟨o,I.kIn a o hk,hc,n,by simpa using hs⟩,?_⟩
  have e:=r.length;simp only[AJ] at e
  lia
theorem Inv.list_inj (I:Inv X pins σ H s)(h:SqL X.K H a xs)(h':SqL X.K H a ys):xs=ys:=by
 obtain⟨its,r,⟨o,n,e,_,_,d⟩,_⟩:=I.list h;obtain⟨its',r',⟨o',n',e',_,_,d'⟩,_⟩:=I.list h';rw[e] at e';cases e';rw[d] at d';injection d' with d1 _
 have:its=its':=by simpa using congrArg NF d1
 subst this;exact r.inj r'
theorem Inv.tuple_inj (I:Inv X pins σ H s)(h:SqT X.K H a xs)(h':SqT X.K H a ys):xs=ys:=by
 obtain⟨its,r,⟨o,e,_,n,d⟩,_⟩:=I.tuple h;obtain⟨its',r',⟨o',e',_,n',d'⟩,_⟩:=I.tuple h';rw[e] at e';cases e';rw[d] at d';injection d' with d1 _
 have:its=its':=by simpa using congrArg NF d1
 subst this;exact r.inj r'
end
abbrev Cx.wish (X:Cx)(E:Ac->Af->Prop):Cx:={ X with xe:=E }
abbrev Cx.nox (X:Cx):Cx:=X.wish λ_ _=>Cp
theorem Cx.Ok.wish {X:Cx}(ok:X.Ok)(E:Ac->Af->Prop):(X.wish E).Ok:=
 ⟨ok.mod,ok.kind,ok.glob,ok.blt,ok.above,ok.inj,ok.has,ok.cab,ok.hd,ok.frames,ok.stk,ok.exf,ok.bs,ok.bsz,ok.noex,ok.exfs,ok.funs,ok.frf⟩
theorem Cx.Ok.unwish {X:Cx}{E:Ac->Af->Prop}(ok:(X.wish E).Ok):X.Ok:=
 ⟨ok.mod,ok.kind,ok.glob,ok.blt,ok.above,ok.inj,ok.has,ok.cab,ok.hd,ok.frames,ok.stk,ok.exf,ok.bs,ok.bsz,ok.noex,ok.exfs,ok.funs,ok.frf⟩
section
variable {X:Cx}{pins:Aa (Ad × AL)}{σ : St}{H:Hp}{s:Af}{E:Ac->Af->Prop}
theorem Inv.wish (I:Inv X pins σ H s)(E:Ac->Af->Prop):Inv (X.wish E) pins σ H s:=⟨I.ok.wish E,I.os,I.bare,I.base,I.loc,I.cell,I.free,I.freeC,I.pin,I.hok,I.len⟩
theorem Inv.unwish (I:Inv (X.wish E) pins σ H s):Inv X pins σ H s:=⟨I.ok.unwish,I.os,I.bare,I.base,I.loc,I.cell,I.free,I.freeC,I.pin,I.hok,I.len⟩
theorem SP.unwish {D:Ends}{f:Flow}{s':Af}(h:SP (X.wish E) pins D f s'):SP X pins D f s':=by
 cases f with
 |next=>obtain⟨σ',H',I,q⟩:=h;exact⟨σ',H',I.unwish,q⟩
 |brk=>obtain⟨σ',H',I,q⟩:=h;exact⟨σ',H',I.unwish,q⟩
 |cont=>obtain⟨σ',H',I,q⟩:=h;exact⟨σ',H',I.unwish,q⟩
 |ret u=>obtain⟨v,σ',H',I,r,q⟩:=h;exact⟨v,σ',H',I.unwish,r,q⟩
theorem PE.nox {e:AE}{t:TE}(h:PE X.nox e t):PE X e t:=λpins s σ H Q I hw =>
 Dp (h pins s σ H Q (I.wish _) hw) (λ_ _ ⟨v,H',I',r,q⟩=>⟨v,H',I'.unwish,r,q⟩) λ_ _ z=>Al z
theorem PT.nox {e:AE}{t:TT}(h:PT X.nox e t):PT X e t:=λpins s σ H Q I hw =>
 Dp (h pins s σ H Q (I.wish _) hw) (λ_ _ ⟨H',I',q⟩=>⟨H',I'.unwish,q⟩) λ_ _ z=>Al z
theorem PSs.nox {st:Aa Ca}{t:TS}(h:PSs X.nox st t):PSs X st t:=λpins s σ H D I hw =>
 Dp (h pins s σ H D (I.wish _) hw) (λ_ _ q=>q.unwish) λ_ _ z=>Al z
end
section
variable {X:Cx}{st:Ca}{rest:Aa Ca}{t u:TS}{e:AE}{te:TE}{pos:CD}
def BL:TS:=λD σ H=>D.nx σ H
def ML (t u:TS):TS:=λD σ H=>t { D with nx:=u D } σ H
theorem WC:PSs X [] BL:=λ_ _ σ H _ I h=>EZ ⟨σ,H,I,h⟩
theorem o7 (h1:PS X st t)(h2:PSs X rest u):PSs X (st::rest) (ML t u):=by
 intro pins s σ H D I h;refine LD (thn (h1 pins s σ H { D with nx:=u D } I h) λf s1 q=>?_)
 cases f with
 |next =>
  obtain⟨σ',H',I',q⟩:=q;exact h2 pins s1 σ' H' D I' q
 |ret v=>exact q
 |brk=>exact q
 |cont=>exact q
theorem WD (h1:PS X st t):PSs X [st] t:=by
 intro pins s σ H D I h;refine LD (thn (h1 pins s σ H D I h) λf s1 q=>?_);cases f with
 |next=>exact EZ q
 |ret v=>exact q
 |brk=>exact q
 |cont=>exact q
theorem Inv.quiet {pins:Aa (Ad × AL)}{σ:St}{H:Hp}{s:Af}(I:Inv X pins σ H s):interactive X.env=false:=by simp[interactive,I.ok.kind]
end
abbrev TG:=V->St->Hp->(St->Hp->Prop)->Prop
abbrev TGs:=Aa V->St->Hp->(St->Hp->Prop)->Prop
def PG (X:Cx)(target:AE)(t:TG):Prop:=
 ∀ (pins:Aa (Ad × AL)) (s:Af) (σ : St) (H:Hp) (v:V) (u:Ac) (Q:St->Hp->Prop),Inv X pins σ H s->qJ v u->t v σ H Q ->
  Ao (Aq X.prog X.w) X.A (assign target X.env u) (λ_ s'=>∃ σ' H',Inv X pins σ' H' s'/\Q σ' H') X.xe s
def PGs (X:Cx)(ts:Aa AE)(t:TGs):Prop:=
 ∀ (pins:Aa (Ad × AL)) (s:Af) (σ : St) (H:Hp) (vs:Aa V) (us:Aa Ac) (Q:St->Hp->Prop),Inv X pins σ H s->qK vs us->t vs σ H Q ->
  Ao (Aq X.prog X.w) X.A (assignInOrder ((Di ts X.env).map (·.2)) us) (λ_ s'=>∃ σ' H',Inv X pins σ' H' s'/\Q σ' H') X.xe s
abbrev YH:=V->V->V->Hp->(Hp->Prop)->Prop
def fZ (X:Cx)(t:YH):Prop:=
 ∀ (pins:Aa (Ad × AL)) (s:Af) (σ : St) (H:Hp) (o i v:V) (ov iv u:Ac) (Q:Hp->Prop),Inv X pins σ H s->qJ o ov->qJ i iv->qJ v u->t o i v H Q ->
  Ao (Aq X.prog X.w) X.A (Nm ov iv u) (λ_ s'=>∃ H',Inv X pins σ H' s'/\Q H') X.xe s
abbrev TIp:=V->V->Hp->VK->Prop
def PIp (X:Cx)(op:Fz)(t:TIp):Prop:=
 ∀ (pins:Aa (Ad × AL)) (s:Af) (σ : St) (H:Hp) (x y:V) (v u:Ac) (Q:VK),Inv X pins σ H s->qJ x v->qJ y u->t x y H Q ->
  Ao (Aq X.prog X.w) X.A (inplaceOp op v u) (EP X pins σ Q) X.xe s
section
variable {X:Cx}{pos:CD}
def GX (i:Aj):TG:=λv σ H Q=>Q (σ.set i (Ab v)) H
theorem W6 {i:Aj}{x:An}(hN:X.N.Nodup)(hi:X.N[i]? = Ab x)(hx:Loc X.env.scope x)(hf:X.fn x=true\/X.env.scope.names.lookup x=Ab .local:=by first|exact .inl rfl|exact .inr rfl|assumption):PG X (.Name x pos) (GX i):=by
 intro pins s σ H v u Q I r h;exact Lr (jH I hN hi hx r (λs' I'=>⟨_,H,I',h⟩) hf)
def FM:TGs:=λvs σ H Q=>vs=[]/\Q σ H
def GW (t:TG)(u:TGs):TGs:=λvs σ H Q=>∃ v r,vs=v::r/\t v σ H λσ' H'=>u r σ' H' Q
theorem W7:PGs X [] FM:=by
 intro pins s σ H vs us Q I r h;obtain⟨e,h⟩:=h;subst e;cases r;exact assignInOrder_nil ⟨σ,H,I,h⟩
theorem o3 {e:AE}{t:TG}{u:TGs}(h1:PG X e t)(h2:PGs X es u)
  (hs:(Di (e::es) X.env).map (·.2)=assign e X.env::(Di es X.env).map (·.2):=by rfl):PGs X (e::es) (GW t u):=by
 intro pins s σ H vs us Q I r h;obtain⟨v,vr,e1,h⟩:=h;subst e1;cases r with
 |cons r rr =>
  rw[hs];refine assignInOrder_cons (thn (h1 pins s σ H _ _ _ I r h) λ_ s1 ⟨σ1,H1,I1,q1⟩=>?_);exact h2 pins s1 σ1 H1 _ _ Q I1 rr q1
def FN (K:Ah)(n:Aj)(t:TGs):TG:=λv σ H Q=>∃ a xs,v=.ref a/\SqT K H a xs/\xs.length=n/\t xs σ H Q
theorem JI {k:Aj}{t:TGs}{n:Aj}(hc:X.calm=true)(h:PGs X es t)
  (hn:(Di es X.env).length=n:=by rfl) (hst:(Di es X.env).findIdx? (·.1)=none:=by rfl):PG X (.Tuple es k pos) (FN X.K n t):=by
 intro pins s σ H v u Q I r hw;obtain⟨a,xs,e1,hq,hl,hw⟩:=hw;subst e1;cases r;obtain⟨its,rv,ht,hz⟩:=I.tuple hq;refine assign_Tuple_tuple (I.ok.hd hc) ht (by simp[hn,<- hl,rv.length]) hst λh' hx=>?_
 have I1:Inv X pins σ H { s with heap:=h' }:=I.kept (t':=s.toks) λb o e=>hx b o (AV (Ay e)) e
 exact h pins _ σ H xs _ Q I1 (by simpa using rv) hw
def MG (i:Aj)(te:TE)(ti:TIp):TS:=λD σ H=>∃ x,σ[i]? = Ab (Ab x)/\te σ H λy H1=>ti x y H1 λz H2=>D.nx (σ.set i (Ab z)) H2
theorem JK {i:Aj}{x:An}{e:AE}{te:TE}{op:Fz}{ti:TIp}{pos':CD}(hN:X.N.Nodup)(hi:X.N[i]? = Ab x)(hx:Loc X.env.scope x)(he:PE X e te)(ho:PIp X op ti)(hf:X.fn x=true\/X.env.scope.names.lookup x=Ab .local:=by first|exact .inl rfl|exact .inr rfl|assumption) :
  PS X (.AugAssign (.Name x pos') op e pos) (MG i te ti):=by
 intro pins s σ H D I h;obtain⟨v,e1,h⟩:=h;obtain⟨m,hn,hl⟩:=I.loc;have vis:Vis X.env.scope x:=by rcases hx with k|k;exact .inl k;exact .inr (.inl k)
 obtain⟨u,r,l⟩:=hl i x v hi e1 vis;refine wpAny_AugAssign_Name ?_;have go:Ao (Aq X.prog X.w) X.A (eval e X.env) (λw s₂=>Ao (Aq X.prog X.w) X.A (inplaceOp op u w) (λr s₃=>Ao (Aq X.prog X.w) X.A (Nl X.env x r) (λ_=>SP X pins D .next) X.xe s₃) X.xe s₂) X.xe s:=by
  refine thn (he pins s σ H _ I h) λw s1 ⟨y,H1,I1,r1,q1⟩=>?_;refine thn (ho pins s1 σ H1 v y u w _ I1 r r1 q1) λz s2 ⟨zv,H2,I2,r2,q2⟩=>?_;exact jH I2 hN hi hx r2 (λs3 I3=>⟨_,H2,I3,q2⟩) hf
 rcases l with⟨hk,hm⟩|⟨hk,c,hc,hcell⟩
 .exact Jl I.ok.kind hk hn hm go
 .rcases hk with hk|hk
  .exact Ju I.ok.kind hk hc hcell go
  .rcases hx with k|k
   .have:X.env.scope.names.lookup x=Ab .free:=hk
    rw[k] at this;cases this
   .have:X.env.scope.names.lookup x=Ab .free:=hk
    rw[k] at this;cases this
def ipI (f:Am->Am->Am):TIp:=λx y H Q=>∃ i j,x=.int i/\y=.int j/\Q (.int (f i j)) H
theorem U1:PIp X .Add (ipI λi j=>i+j):=by
 intro pins s σ H x y v u Q I r1 r2 h;obtain⟨i,j,e1,e2,q⟩:=h;subst e1;subst e2;obtain⟨t,rfl⟩:=r1;obtain⟨t',rfl⟩:=r2;exact iadd_int ⟨.int _,H,I.tok _,⟨_,rfl⟩,q⟩
end
section
variable {X:Cx}{pos:CD}
def KH (c:TT)(tb:TS):TS:=λD σ H=>∃ W:Aj->St->Hp->Prop,(∃ m,W m σ H)/\∀ m σ H,W m σ H ->
 c σ H λb H1=>if b=true then ∃ N:St->Hp->Prop,(∀ σ' H',N σ' H'->∃ m',m'<m/\W m' σ' H')/\tb { D with nx:=N,ct:=N,bk:=D.nx } σ H1 else D.nx σ H1
theorem o6 {c:AE}{body:Aa Ca}{tc:TT}{tb:TS}(hp:Gy (Aq X.prog X.w) X.A X.env X.xe)(hc:PT X c tc)(hb:PSs X body tb):PS X (.While c body [] pos) (KH tc tb):=by
 intro pins s σ H D I h;obtain⟨W,⟨m0,w0⟩,turn⟩:=h;refine wpAny_While (codeAny_whileLoop (λn s'=>∃ σ' H',Inv X pins σ' H' s'/\W n σ' H') ?_ m0 ⟨σ,H,I,w0⟩);rintro n s1 ⟨σ1,H1,I1,w1⟩;refine DX hp (thn (hc pins s1 σ1 H1 _ I1 (turn n σ1 H1 w1)) λb s2 ⟨H2,I2,q2⟩=>?_);cases b with
 |true =>
  obtain⟨N,hN,q2⟩:=q2;rw[AA rfl];refine DX hp (thn (hb pins s2 σ1 H2 _ I2 q2) λf s3 q3=>?_);cases f with
  |next =>
   obtain⟨σ3,H3,I3,n3⟩:=q3;obtain⟨m',hm,w3⟩:=hN σ3 H3 n3;exact⟨m',hm,σ3,H3,I3,w3⟩
  |cont =>
   obtain⟨σ3,H3,I3,n3⟩:=q3;obtain⟨m',hm,w3⟩:=hN σ3 H3 n3;exact⟨m',hm,σ3,H3,I3,w3⟩
  |brk=>exact q3
  |ret v=>exact q3
 |false =>
  rw[AD DL];exact EZ ⟨σ1,H2,I2,q2⟩
end
structure It where
 go:Aj->Hp->Prop
 yld:Aj->Hp->V->Hp->Prop
 stop:Aj->Hp->Prop
def zS (X:Cx)(pins:Aa (Ad × AL))(H:Hp)(b:Ad):Prop:=
 H b=none/\b≠X.env.locals/\b ∉ X.fs/\(b∈X.ex\/X.s₀.heap.objs.size<=b)/\(∀ x c,X.env.cells.lookup x=Ab c->c≠b)/\∀ p∈X.pn++pins,p.1≠b
theorem Inv.fpOk {X:Cx}{pins:Aa (Ad × AL)}{σ:St}{H H':Hp}{s:Af}{b:Ad}(I:Inv X pins σ H s)(hb:s.heap.objs.size<=b)(hn:H' b=none):zS X pins H' b:=by
 refine⟨hn,En (Aw I.lt hb),I.nofs hb,.inr (Bh I.sz hb),λx c e z=>?_,λp hp z=>?_⟩
 .obtain⟨v,q⟩:=I.cell x c e
  exact absurd (Aw q.lt (by rw[z];exact hb)) (Bn _)
 .exact absurd (Aw (Ay (I.pin p hp).1) (by rw[z];exact hb)) (Bn _)
structure Turn (P:A0)(w:AH)(K:Ah)(tg:AE)(J:It)(fp:Aa Ad)(it:Ad)(tn:Aj->A8->Prop):Prop where
 mem:it∈fp
 obj:∀ i h,tn i h->∀ b∈fp,∃ o,h.get? b=Ab o/\∀ v,o.data≠.cell v
 keep:∀ i h h',tn i h->(∀ b∈fp,∀ o,h.get? b=Ab o->h'.get? b=Ab o)->tn i h'
 item:∀ (X:Cx),X.prog=P->X.w=w->X.K=K->X.calm=true->∀ (i:Aj) (pins:Aa (Ad × AL)) (s:Af) (σ : St) (H:Hp) (E:Ac->Af->Prop),Inv X pins σ H s->(∀ b∈fp,zS X pins H b)->tn i s.heap->J.go i H ->
  Ao (Aq P w) X.A (HW (.ref it)) (λr s1=>∃ u,r=Ab u /\
   Ao (Aq P w) X.A (Ew tg (.ref it) u) (λ_ s2=>∃ x H',Inv X pins σ H' s2/\qJ x u/\J.yld i H x H'/\tn (i+1) s2.heap/\∀ b∈fp,H' b=none) E s1) E s
 done:∀ (X:Cx),X.prog=P->X.w=w->X.K=K->X.calm=true->∀ (i:Aj) (pins:Aa (Ad × AL)) (s:Af) (σ : St) (H:Hp) (E:Ac->Af->Prop),Inv X pins σ H s->(∀ b∈fp,zS X pins H b)->tn i s.heap->J.stop i H ->
  Ao (Aq P w) X.A (HW (.ref it)) (λr s1=>r=none/\Inv X pins σ H s1) E s
 self:∀ (A:AF) (i:Aj) (s:Af) (Q:Ac->Af->Prop) (E:Ac->Af->Prop),tn i s.heap->Q (.ref it) s->Ao (Aq P w) A (HX (.ref it)) Q E s
abbrev TI:=St->Hp->(It->Hp->Prop)->Prop
inductive PIE (X:Cx)(pins:Aa (Ad × AL))(σ : St)(tg:AE)(R:It->Hp->Prop)(itv:Ac)(s2:Af):Prop
 |mk (it:Ad) (fp:Aa Ad) (tn:Aj->A8->Prop) (J:It) (H':Hp) (e:itv=.ref it) (I:Inv X pins σ H' s2) (t:Turn X.prog X.w X.K tg J fp it tn) (z:tn 0 s2.heap) (f:∀ b∈fp,zS X pins H' b) (q:R J H'):PIE X pins σ tg R itv s2
def PI (X:Cx)(tg iter:AE)(wi:TI):Prop:=
 ∀ (pins:Aa (Ad × AL)) (s:Af) (σ : St) (H:Hp) (R:It->Hp->Prop),Inv X pins σ H s->wi σ H R ->
  Ao (Aq X.prog X.w) X.A (eval iter X.env) (λv s1=>Ao (Aq X.prog X.w) X.A (HX v) (PIE X pins σ tg R) X.xe s1) X.xe s
theorem dN {M:EM}{A:AF}{E:Ac->Af->Prop}{s:Af}{it:Ad}{u:Ac}{o:AL}{n:Bg}{vs:A6 Ac}{Q:Ho->Af->Prop}(ho:s.heap.get? it=Ab o)(hc:o.cls=.type n)(hd:o.data=.fields vs)
    (hn:["enumerate","zip","dict_itemiterator","dict_reverseitemiterator","odict_iterator","itertools.zip_longest","itertools.pairwise"].contains n=false) (hQ:Q () s):Ao M A (Ew tg (.ref it) u) Q E s:=by
  unfold Ew;cases tg <;> first
    |exact As hQ
    |(cases u <;> first
        |exact As hQ
        | (refine Ag (wpAny_load ho ?_)
           rw[hc,hd];show Ao M A (if (["enumerate","zip","dict_itemiterator","dict_reverseitemiterator","odict_iterator","itertools.zip_longest","itertools.pairwise"].contains n&&vs[0]? == Ab (Dj _))=true then _ else _) Q E s
           rw[AD (by intro h;rw[hn,Mz] at h;cases h)]
           exact As hQ))
noncomputable def Itl (K:Ah)(a:Ad):It:=
 ⟨λi H=>∃ xs x,SqL K H a xs/\xs[i]? = Ab x,λi H x H'=>H'=H/\∀ xs,SqL K H a xs->xs[i]? = Ab x,λi H=>∃ xs,SqL K H a xs/\xs.length<=i⟩
noncomputable def Itt (K:Ah)(a:Ad):It:=
 ⟨λi H=>∃ xs x,SqT K H a xs/\xs[i]? = Ab x,λi H x H'=>H'=H/\∀ xs,SqT K H a xs->xs[i]? = Ab x,λi H=>∃ xs,SqT K H a xs/\xs.length<=i⟩
noncomputable def Itr (lo:Am)(n:Aj):It:=⟨λi _=>i<n,λi H x H'=>H'=H/\x=.int (lo+i),λi _=>n<=i⟩
theorem fK (a it:Ad):Turn P w K tg (Itl K a) [it] it (λi h=>h.IsListIter it a i) where
 mem:=by simp
 obj:=λi h st b hb=>by
  have e:b=it:=by simpa using hb
  subst e;obtain⟨o,e,c,d⟩:=st;exact⟨o,e,λv z=>by rw[d] at z;cases z⟩
 keep:=λi h h' st k=>st.at λo e=>k it (by simp) o e
 item:=by
  intro X hP hw hK hc i pins s σ H E I hf st hg;subst hP hw hK;obtain⟨xs,x,hq,hx⟩:=hg;obtain⟨its,rv,p,hz⟩:=I.list hq;obtain⟨u,hu,ru⟩:=rv.get hx;obtain⟨f0,f1,f2,f3,f4,f5⟩:=hf it (by simp)
  refine wpAny_pyNext_list_item st p.isList (x:=u) (by simpa using hu) λh' st' sb=>?_
  have I1:Inv X pins σ H { s with heap:=h' }:=I.turned (t':=s.toks) (λb o hb e=>(sb.2 b hb).trans e) f0 f1 f3 f4 f5
  obtain⟨o,e,c,d⟩:=id st';exact⟨u,rfl,dN (s:={ s with heap:=h' }) e c d (by decide) ⟨x,H,I1,ru,⟨rfl,λys hy=>by rw[I.list_inj hy hq];exact hx⟩,st',λb hb=>(hf b hb).1⟩⟩
 done:=by
  intro X hP hw hK hc i pins s σ H E I hf st hg;subst hP hw hK;obtain⟨xs,hq,hx⟩:=hg;obtain⟨its,rv,p,hz⟩:=I.list hq;obtain⟨f0,f1,f2,f3,f4,f5⟩:=hf it (by simp)
  have hl:=rv.length;exact wpAny_pyNext_list_end (I.ok.hd hc) st p.isList (by simp;lia) λh' eb=>⟨rfl,I.turned (t':=s.toks) (λb o hb e=>eb b o hb e) f0 f1 f3 f4 f5⟩
 self:=λ_ _ _ _ _ st h=>wpAny_pyIter_listiter st h
theorem sR (a it:Ad):Turn P w K tg (Itt K a) [it] it (λi h=>h.IsTupleIter it a i) where
 mem:=by simp
 obj:=λi h st b hb=>by
  have e:b=it:=by simpa using hb
  subst e;obtain⟨o,e,c,d⟩:=st;exact⟨o,e,λv z=>by rw[d] at z;cases z⟩
 keep:=λi h h' st k=>st.at λo e=>k it (by simp) o e
 item:=by
  intro X hP hw hK hc i pins s σ H E I hf st hg;subst hP hw hK;obtain⟨xs,x,hq,hx⟩:=hg;obtain⟨its,rv,p,hz⟩:=I.tuple hq;obtain⟨u,hu,ru⟩:=rv.get hx;obtain⟨f0,f1,f2,f3,f4,f5⟩:=hf it (by simp)
  refine wpAny_pyNext_tuple_item st (show s.heap.IsTuple a its.toArray from p) (x:=u) (by simpa using hu) λh' st' sb=>?_
  have I1:Inv X pins σ H { s with heap:=h' }:=I.turned (t':=s.toks) (λb o hb e=>(sb.2 b hb).trans e) f0 f1 f3 f4 f5
  obtain⟨o,e,c,d⟩:=id st';exact⟨u,rfl,dN (s:={ s with heap:=h' }) e c d (by decide) ⟨x,H,I1,ru,⟨rfl,λys hy=>by rw[I.tuple_inj hy hq];exact hx⟩,st',λb hb=>(hf b hb).1⟩⟩
 done:=by
  intro X hP hw hK hc i pins s σ H E I hf st hg;subst hP hw hK;obtain⟨xs,hq,hx⟩:=hg;obtain⟨its,rv,p,hz⟩:=I.tuple hq;obtain⟨f0,f1,f2,f3,f4,f5⟩:=hf it (by simp)
  have hl:=rv.length;exact wpAny_pyNext_tuple_end (I.ok.hd hc) st (show s.heap.IsTuple a its.toArray from p) (by simp;lia) λh' eb=>⟨rfl,I.turned (t':=s.toks) (λb o hb e=>eb b o hb e) f0 f1 f3 f4 f5⟩
 self:=λ_ _ _ _ _ st h=>wpAny_pyIter_tupleiter st h
theorem sQ (it:Ad)(lo:Am)(n:Aj):Turn P w K tg (Itr lo n) [it] it (λi h=>IsRangeIter h it (lo+(i:Aj)*1) ((n:Am)-(i:Aj)) 1) where
 mem:=by simp
 obj:=λi h st b hb=>by
  have e:b=it:=by simpa using hb
  subst e;exact⟨_,st,λv z=>by
   have z':Data.fields _=Data.cell v:=z;cases z'⟩
 keep:=λi h h' st k=>k it (by simp) _ st
 item:=by
  intro X hP hw hK hc i pins s σ H E I hf st hg;subst hP hw hK;obtain⟨f0,f1,f2,f3,f4,f5⟩:=hf it (by simp)
  have W:=Walks.range (prog:=X.prog) (w:=X.w) (I.ok.hd hc) it lo 1 n;refine W.item i s _ _ hg st λv h' tk hv st' kk=>?_;obtain⟨t,rfl⟩:=hv;have I1:Inv X pins σ H { s with heap:=h',toks:=tk }:=I.turned (λb o hb e=>kk b o (by simpa using hb) e) f0 f1 f3 f4 f5
  refine⟨_,rfl,dN (s:={ s with heap:=h',toks:=tk }) (n:="range_iterator") st' rfl rfl (by decide) ⟨.int (lo+i),H,I1,⟨t,?_⟩,⟨rfl,rfl⟩,st',λb hb=>(hf b hb).1⟩⟩
  rw[NT]
 done:=by
  intro X hP hw hK hc i pins s σ H E I hf st hg;subst hP hw hK;obtain⟨f0,f1,f2,f3,f4,f5⟩:=hf it (by simp)
  exact wpAny_pyNext_range_end (I.ok.hd hc) st (by have:n<=i:=hg;lia) λh' eb=>⟨rfl,I.turned (t':=s.toks) (λb o hb e=>eb b o hb e) f0 f1 f3 f4 f5⟩
 self:=λ_ _ _ _ _ st h=>wpAny_pyIter_rangeiter st h
end _L
namespace _L
open PySem PySem.Spec PyProof.Rows
variable {pins:Aa (Ad × AL)}{fp:Aa Ad}{s:Af}{H:Hp}{σ:St}
section
variable {X:Cx}{tg:AE}
theorem tK {R:It->Hp->Prop}{E:Ac->Af->Prop}{lo hi:Am}{t u v:IS}{tk:Aj}(I:Inv X pins σ H s)(h1 : -(2 ^ 62)<=lo)(h2:lo<2 ^ 62)(h3 : -(2 ^ 62)<=hi)(h4:hi<2 ^ 62)
  (q:R (Itr lo (hi-lo).toNat) H):Ao (Aq X.prog X.w) X.A (HX (.ref s.heap.objs.size)) (PIE X pins σ tg R) E { s with heap:=s.heap.push { cls:=.type "range",data:=.fields #[.int lo t,.int hi u,.int 1 v] },toks:=tk }:=by
 refine wpAny_pyIter_range (LG ..) (Nn h1 h2 h3 h4) ?_;have I1:Inv X pins σ H { s with heap:=s.heap.push { cls:=.type "range",data:=.fields #[.int lo t,.int hi u,.int 1 v] },toks:=tk }:=I.kept λb o e=>Ai _ e
 refine⟨(s.heap.push { cls:=.type "range",data:=.fields #[.int lo t,.int hi u,.int 1 v] }).objs.size,[(s.heap.push { cls:=.type "range",data:=.fields #[.int lo t,.int hi u,.int 1 v] }).objs.size],_,_,H,rfl,
  I1.kept (t':=tk) λb o e=>Ai _ e,sQ _ lo (hi-lo).toNat,?_,λb hb=>?_,q⟩
 .have e1:lo+((0:Aj):Am)*1=lo:=by simp
  have e2:(((hi-lo).toNat:Aj):Am)-((0:Aj):Am)=D4 lo hi 1:=by rw[rangeSize_one];split <;> lia
  show IsRangeIter _ _ (lo+((0:Aj):Am)*1) ((((hi-lo).toNat:Aj):Am)-((0:Aj):Am)) 1;rw[e1,e2];exact AB _ rfl
 .have e:b=(s.heap.push { cls:=.type "range",data:=.fields #[.int lo t,.int hi u,.int 1 v] }).objs.size:=by simpa using hb
  subst e;exact I1.fpOk (Ar _) (I1.hok.fresh (Ar _))
def MH (wi:TI)(g:TG)(tb:TS):TS:=λD σ H=>wi σ H λJ H1=>∃ W:Aj->Aj->St->Hp->Prop,(∃ m,W 0 m σ H1)/\∀ i m σ H,W i m σ H ->
 (J.stop i H/\D.nx σ H)\/(J.go i H/\∃ N:St->Hp->Prop,(∀ σ' H',N σ' H'->∃ m',m'<m/\W (i+1) m' σ' H')/\∀ x H',J.yld i H x H'->g x σ H' λσ2 H2=>tb { D with nx:=N,ct:=N,bk:=D.nx } σ2 H2)
noncomputable def wI (fp:Aa Ad)(h:A8):Aa (Ad × AL):=fp.filterMap λb=>(h.get? b).map λo=>(b,o)
theorem yL {h:A8}{b:Ad}{o:AL}(hb:b∈fp)(e:h.get? b=Ab o):(b,o)∈wI fp h:=Et.mpr ⟨b,hb,by rw[e];rfl⟩
theorem fE {h:A8}{p:Ad × AL}(hp:p∈wI fp h):p.1∈fp/\h.get? p.1=Ab p.2:=by
 obtain⟨b,hb,e⟩:=Et.mp hp;cases q:h.get? b with
 |none=>rw[q] at e;cases e
 |some o =>
  rw[q] at e;have e':(b,o)=p:=AQ e;subst e';exact⟨hb,q⟩
theorem Inv.pinned (I:Inv X pins σ H s)(hf:∀ b∈fp,zS X pins H b)(ho:∀ b∈fp,∃ o,s.heap.get? b=Ab o/\∀ v,o.data≠.cell v):Inv X (pins++wI fp s.heap) σ H s:=
 I.pins_of λp hp=>(AX.mp hp).elim (λz=>I.pin p (AC _ z)) λz=>by
  obtain⟨hb,e⟩:=fE z;obtain⟨f0,f1,f2,_⟩:=hf p.1 hb;obtain⟨o,e',d⟩:=ho p.1 hb;rw[e] at e';cases e';exact⟨e,f0,f1,f2,d⟩
theorem Inv.unpinned {pl:Aa (Ad × AL)}(I:Inv X (pins++pl) σ H s):Inv X pins σ H s:=I.pins_of λp hp=>I.pin p (AC _ (Bd _ hp))
inductive ForI (X:Cx)(pins:Aa (Ad × AL))(fp:Aa Ad)(tn:Aj->A8->Prop)(W:Aj->Aj->St->Hp->Prop)(n:Aj)(s':Af):Prop
 |mk (i:Aj) (σ' : St) (H':Hp) (I:Inv X pins σ' H' s') (t:tn i s'.heap) (f:∀ b∈fp,H' b=none) (w:W i n σ' H'):ForI X pins fp tn W n s'
theorem JL {iter:AE}{body:Aa Ca}{wi:TI}{g:TG}{tb:TS}{pos:CD}(hp:Gy (Aq X.prog X.w) X.A X.env X.xe)(hc:X.calm=true)(hi:PI X tg iter wi)(hg:PG X tg g)(hb:PSs X body tb)
  (hs:∀ x,Cc iter X.env x=pure x:=by intro _;rfl):PS X (.For tg iter body [] pos) (MH wi g tb):=by
 intro pins s σ H D I h;refine wpAny_For (thn (hi pins s σ H _ I h) λv s1 h1=>thn h1 λitv s2 h2=>?_) hs;obtain⟨it,fp,tn,J,H2,e,I2,T,st2,f2,W,⟨m0,w0⟩,turn⟩:=h2;subst e;have stat:∀ {H':Hp},(∀ b∈fp,H' b=none)->∀ b∈fp,zS X pins H' b:=λhn b hb=>⟨hn b hb,(f2 b hb).2⟩;refine codeAny_forLoop_any (ForI X pins fp tn W) ?_ m0 ⟨0,σ,H2,I2,st2,λb hb=>(f2 b hb).1,w0⟩;rintro n s3 ⟨i,σ3,H3,I3,st3,fr3,w3⟩;rcases turn i n σ3 H3 w3 with⟨stop,qn⟩|⟨go,N,hN,step⟩
 .refine DX hp (thn (T.done X rfl rfl rfl hc i pins s3 σ3 H3 X.xe I3 (stat fr3) st3 stop) λr s4 ⟨hr,I4⟩=>?_)
  subst hr;exact EZ ⟨σ3,H3,I4,qn⟩
 .refine DX hp (thn (T.item X rfl rfl rfl hc i pins s3 σ3 H3 X.xe I3 (stat fr3) st3 go) λr s4 ⟨u,hr,h4⟩=>?_)
  subst hr;refine DX hp (thn h4 λ_ s5 ⟨x,H5,I5,r5,y5,st5,fr5⟩=>?_);have I5':=I5.pinned (stat fr5) (T.obj _ _ st5);refine DX hp (thn (hg _ s5 σ3 H5 x u _ I5' r5 (step x H5 y5)) λ_ s6 ⟨σ6,H6,I6,q6⟩=>?_);refine DX hp (thn (hb _ s6 σ6 H6 _ I6 q6) λf s7 q7=>?_);have again:∀ {σ7:St} {H7:Hp},Inv X (pins++wI fp s5.heap) σ7 H7 s7->N σ7 H7->∃ m,m<n/\ForI X pins fp tn W m s7:=λ{σ7 H7} I7 n7=>by
   obtain⟨m',hm,w7⟩:=hN σ7 H7 n7;refine⟨m',hm,i+1,σ7,H7,I7.unpinned,T.keep _ _ _ st5 λb hb o e=>(I7.pin (b,o) (AC _ (AC _ (yL hb e)))).1,λb hb=>?_,w7⟩;obtain⟨o,e,d⟩:=T.obj _ _ st5 b hb;exact(I7.pin (b,o) (AC _ (AC _ (yL hb e)))).2.1
  cases f with
  |next=>obtain⟨σ7,H7,I7,n7⟩:=q7;exact again I7 n7
  |cont=>obtain⟨σ7,H7,I7,n7⟩:=q7;exact again I7 n7
  |brk=>obtain⟨σ7,H7,I7,q7⟩:=q7;exact⟨σ7,H7,I7.unpinned,q7⟩
  |ret v=>obtain⟨x7,σ7,H7,I7,r7,q7⟩:=q7;exact⟨x7,σ7,H7,I7.unpinned,r7,q7⟩
end
end _L
namespace _L
open PySem PySem.Spec PyProof.Rows
variable {us:Aa Ac}{f:Ac->Ac->EE Ac}{g:Am->Am->Am}
abbrev R2:=V->V->Hp->VK->Prop
def OpR (X:Cx)(f:Ac->Ac->EE Ac)(r:R2):Prop:=
 ∀ (pins:Aa (Ad × AL)) (s:Af) (σ : St) (H:Hp) (x y:V) (v u:Ac) (Q:VK),Inv X pins σ H s->qJ x v->qJ y u->r x y H Q ->
  Ao (Aq X.prog X.w) X.A (f v u) (EP X pins σ Q) X.xe s
def UnR (X:Cx)(f:Ac->EE Ac)(r:V->Hp->VK->Prop):Prop:=
 ∀ (pins:Aa (Ad × AL)) (s:Af) (σ : St) (H:Hp) (x:V) (v:Ac) (Q:VK),Inv X pins σ H s->qJ x v->r x H Q ->
  Ao (Aq X.prog X.w) X.A (f v) (EP X pins σ Q) X.xe s
def kG (X:Cx)(f:Ac)(r:Aa V->Hp->VK->Prop):Prop:=
 ∀ (pins:Aa (Ad × AL)) (s:Af) (σ : St) (H:Hp) (xs:Aa V) (us:Aa Ac) (Q:VK),Inv X pins σ H s->qK xs us->r xs H Q ->
  Ao (Aq X.prog X.w) X.A (call f us) (EP X pins σ Q) X.xe s
def F9 (X:Cx)(r:V->Hp->(Ap->Hp->Prop)->Prop):Prop:=
 ∀ (pins:Aa (Ad × AL)) (s:Af) (σ : St) (H:Hp) (x:V) (v:Ac) (Q:Ap->Hp->Prop),Inv X pins σ H s->qJ x v->r x H Q ->
  Ao (Aq X.prog X.w) X.A (truthy v) (TP X pins σ Q) X.xe s
def tOp (r:R2)(ta tb:TE):TE:=λσ H Q=>ta σ H λx H1=>tb σ H1 λy H2=>r x y H2 Q
def rI (C:Am->Am->Prop)(g:Am->Am->V):R2:=λx y H Q=>∃ i j,x=.int i/\y=.int j/\C i j/\Q (g i j) H
def rI0 (g:Am->Am->V):R2:=λx y H Q=>∃ i j,x=.int i/\y=.int j/\Q (g i j) H
def rU (g:Am->V):V->Hp->VK->Prop:=λx H Q=>∃ i,x=.int i/\Q (g i) H
section
variable {X:Cx}{a b c:AE}{ta tb tc:TE}{pos:CD}
theorem FD (ha:PE X a ta)(hb:PE X b tb){pins:Aa (Ad × AL)}{s:Af}{σ : St}{H:Hp}{R:V->V->Hp->Prop}(I:Inv X pins σ H s)
  (h:ta σ H λx H1=>tb σ H1 λy H2=>R x y H2) {Q:Ac->Af->Prop} {f:Ac->Ac->EE Ac}
  (hf:∀ v u s2 x y H2,Inv X pins σ H2 s2->qJ x v->qJ y u->R x y H2->Ao (Aq X.prog X.w) X.A (f v u) Q X.xe s2) :
  Ao (Aq X.prog X.w) X.A (eval a X.env) (λv s₁=>Ao (Aq X.prog X.w) X.A (eval b X.env) (λu s₂=>Ao (Aq X.prog X.w) X.A (f v u) Q X.xe s₂) X.xe s₁) X.xe s:=by
 refine thn (ha pins s σ H _ I h) λv s1 ⟨x,H1,I1,r1,q1⟩=>?_;refine thn (hb pins s1 σ H1 _ I1 q1) λu s2 ⟨y,H2,I2,r2,q2⟩=>?_;exact hf v u s2 x y H2 I2 r1 r2 q2
theorem opI {f:Ac->Ac->EE Ac}{C:Am->Am->Prop}
  (rule:∀ (i j:Am) (t u:IS) (s:Af) (Q:Ac->Af->Prop) (E:Ac->Af->Prop),C i j->Q (.int (g i j) s.toks) { s with toks:=s.toks+1 } -> Ao (Aq X.prog X.w) X.A (f (.int i t) (.int j u)) Q E s) :
  OpR X f (rI C λi j=>.int (g i j)):=by
 intro pins s σ H x y v u Q I rx ry h;obtain⟨i,j,rfl,rfl,hc,q⟩:=h;obtain⟨t,rfl⟩:=rx;obtain⟨t',rfl⟩:=ry;exact rule i j t t' s _ _ hc ⟨.int (g i j),H,I.tok _,⟨_,rfl⟩,q⟩
theorem UZ {f:Ac->Ac->EE Ac}
  (rule:∀ (i j:Am) (t u:IS) (s:Af) (Q:Ac->Af->Prop) (E:Ac->Af->Prop),Q (.int (g i j) s.toks) { s with toks:=s.toks+1 } -> Ao (Aq X.prog X.w) X.A (f (.int i t) (.int j u)) Q E s) :
  OpR X f (rI0 λi j=>.int (g i j)):=by
 intro pins s σ H x y v u Q I rx ry h;obtain⟨i,j,rfl,rfl,q⟩:=h;obtain⟨t,rfl⟩:=rx;obtain⟨t',rfl⟩:=ry;exact rule i j t t' s _ _ ⟨.int (g i j),H,I.tok _,⟨_,rfl⟩,q⟩
theorem iW {g:Am->Am->Ap}
  (rule:∀ (i j:Am) (t u:IS) (s:Af) (Q:Ac->Af->Prop) (E:Ac->Af->Prop),Q (.bool (g i j)) s->Ao (Aq X.prog X.w) X.A (f (.int i t) (.int j u)) Q E s) :
  OpR X f (rI0 λi j=>.bl (g i j)):=by
 intro pins s σ H x y v u Q I rx ry h;obtain⟨i,j,rfl,rfl,q⟩:=h;obtain⟨t,rfl⟩:=rx;obtain⟨t',rfl⟩:=ry;exact rule i j t t' s _ _ ⟨.bl (g i j),H,I,rfl,q⟩
def F6 (i j:Am):Prop:=0<j/\j<1073741824
def F7 (i j:Am):Prop:=0<=j/\j<=1000000/\i.natAbs<2 ^ 64
def cP (i j:Am):Prop:=(-(2 ^ 64)<i/\i<2 ^ 64)\/(-(2 ^ 64)<j/\j<2 ^ 64)
theorem cP.ok {i j:Am}(h:cP i j):IntMulOk i j:=by
 rcases h with⟨h1,h2⟩|⟨h1,h2⟩
 .exact .of_left (intBits_le_64 h1 h2)
 .exact .of_right (intBits_le_64 h1 h2)
theorem J2:OpR X (CC .Add) (rI0 λi j=>.int (i+j)):=UZ λ_ _ _ _ _ _ _ q=>add_int q
theorem JA:OpR X (CC .Sub) (rI0 λi j=>.int (i-j)):=UZ λ_ _ _ _ _ _ _ q=>sub_int q
theorem J8:OpR X (CC .Mult) (rI cP λi j=>.int (i*j)):=opI λ_ _ _ _ _ _ _ hc q=>mul_int q hc.ok
theorem W3:OpR X (CC .FloorDiv) (rI F6 λi j=>.int (i/j)):=opI λi j _ _ _ _ _ hc q=>by
 have h1:(0:Am)<j:=hc.1;have h2:j<1073741824:=hc.2;exact floordiv_int li (by rw[Int.fdiv_eq_ediv_of_nonneg i li];exact q) (.inl (PyProof.noPylong_small li))
theorem J7:OpR X (CC .Mod) (rI (λ_ j=>0<j) λi j=>.int (i % j)):=opI λi j _ _ _ _ _ hc q=>by
 have h1:(0:Am)<j:=hc;exact mod_int' li (by rw[Int.fmod_eq_emod_of_nonneg i li];exact q)
theorem J9:OpR X (CC .Pow) (rI F7 λi j=>.int (i ^ j.toNat)):=opI λ_ _ _ _ _ _ _ hc q=>pow_int_small hc.1 hc.2.1 hc.2.2 q
theorem unI {f:Ac->EE Ac}{g:Am->Am}
  (rule:∀ (i:Am) (t:IS) (s:Af) (Q:Ac->Af->Prop) (E:Ac->Af->Prop),Q (.int (g i) s.toks) { s with toks:=s.toks+1 } -> Ao (Aq X.prog X.w) X.A (f (.int i t)) Q E s) :
  UnR X f (rU λi=>.int (g i)):=by
 intro pins s σ H x v Q I rx h;obtain⟨i,rfl,q⟩:=h;obtain⟨t,rfl⟩:=rx;exact rule i t s _ _ ⟨.int (g i),H,I.tok _,⟨_,rfl⟩,q⟩
theorem KP:UnR X (LH .USub) (rU λi=>.int (-i)):=unI λ_ _ _ _ _ q=>neg_int q
end
section
variable {X:Cx}{a b c:AE}{ta tb tc:TE}{pos:CD}
theorem VW {pins:Aa (Ad × AL)}{σ:St}{H:Hp}{s:Af}{Q:VK}{k k':Ap}(I:Inv X pins σ H s)(q:Q (.bl k) H)(e:k=k'):EP X pins σ Q (.bool k') s:=by
 subst e;exact⟨.bl k,H,I,rfl,q⟩
theorem B5:OpR X (Cd .Lt) (rI0 λi j=>.bl (decide (i<j))):=iW λ_ _ _ _ _ _ _ q=>lt_int q
theorem B4:OpR X (Cd .LtE) (rI0 λi j=>.bl (decide (i<=j))):=iW λ_ _ _ _ _ _ _ q=>le_int q
theorem B3:OpR X (Cd .GtE) (rI0 λi j=>.bl (decide (j<=i))):=iW λ_ _ _ _ _ _ _ q=>ge_int q
theorem J3:OpR X (Cd .Is) (λx y H Q=>y=.non/\Q (.bl (decide (x=.non))) H):=by
 intro pins s σ H x y v u Q I rx ry h;obtain⟨rfl,q⟩:=h;cases ry;refine is_none_gen (VW I q ?_);cases x <;> first
  |(cases rx;rfl)
  |(obtain⟨t,rfl⟩:=rx;rfl)
theorem OpR.or {r r':R2}(h:OpR X f r)(h':OpR X f r'):OpR X f (λx y H Q=>r x y H Q\/r' x y H Q):=by
 intro pins s σ H x y v u Q I rx ry q;rcases q with q|q
 .exact h pins s σ H x y v u Q I rx ry q
 .exact h' pins s σ H x y v u Q I rx ry q
theorem uF (b:AE){op:Mj}(h:op≠.In:=by decide)(h2:op≠.NotIn:=by decide):ER op b=false:=by
 have e1:(op == CmpOp.In)=false:=by cases op <;> first|rfl|exact absurd rfl h
 have e2:(op == CmpOp.NotIn)=false:=by cases op <;> first|rfl|exact absurd rfl h2
 cases b <;> simp[ER,e1,e2]
def dA (K:Ah)(x:V)(H:Hp)(k:Ap):Prop:=
 match x with
 |.non=>k=false
 |.bl b=>k=b
 |.int i=>k=(i != 0)
 |.str y=>y.length<=sizeLine/\k=((y.length:Am) != 0)
 |.byt y=>y.size<=sizeLine/\k=((y.size:Am) != 0)
 |.ref p=>(∃ xs,SqL K H p xs/\k=!xs.isEmpty)\/(∃ xs,SqT K H p xs/\k=!xs.isEmpty)\/∃ kvs,H p=Ab (.dK kvs)/\k=!kvs.isEmpty
 |_=>Cp
theorem dQ {κ:Type}{kvs:Aa (κ × V)}{vs:Aa (κ × Ac)}(r:KV kvs vs):(!vs.isEmpty)=!kvs.isEmpty:=by
 cases r <;> rfl
theorem gZ {xs:Aa V}{its:Aa Ac}(r:qK xs its):(!its.toArray.isEmpty)=!xs.isEmpty:=by
 cases r <;> simp
theorem kA:(sizeLine:Aj)<2 ^ 63:=by rw[Ch];decide
theorem pG:F9 X (λx H Q=>∃ k,dA X.K x H k/\Q k H):=by
 intro pins s σ H x v Q I rx h;obtain⟨k,e,q⟩:=h;have hl:=kA;have hs:sizeLine=16777216:=Ch;cases x with
 |non =>
  cases rx;have e':k=false:=e;subst e';exact truthy_none ⟨H,I,q⟩
 |bl b =>
  cases rx;have e':k=b:=e;subst e';exact Ls ⟨H,I,q⟩
 |int i =>
  obtain⟨t,rfl⟩:=rx;have e':k=(i != 0):=e;subst e';exact PySem.P.truthy_int ⟨H,I,q⟩
 |str y =>
  obtain⟨t,rfl⟩:=rx;obtain⟨hy,e'⟩:y.length<=sizeLine/\k=((y.length:Am) != 0):=e;subst e';exact PySem.P.truthy_str li ⟨H,I.tok _,q⟩
 |byt y =>
  obtain⟨t,rfl⟩:=rx;obtain⟨hy,e'⟩:y.size<=sizeLine/\k=((y.size:Am) != 0):=e;subst e';exact PySem.W.truthy_bytes li ⟨H,I.tok _,q⟩
 |ref p =>
  cases rx;have e':(∃ xs,SqL X.K H p xs/\k=!xs.isEmpty)\/(∃ xs,SqT X.K H p xs/\k=!xs.isEmpty)\/∃ kvs,H p=Ab (.dK kvs)/\k=!kvs.isEmpty:=e;rcases e' with⟨xs,hx,e'⟩|⟨xs,hx,e'⟩|⟨kvs,hx,e'⟩
  .subst e'
   obtain⟨its,r,pl,hz⟩:=I.list hx;have hlen:=r.length;exact wpAny_truthy_list pl.isList (by simp only[A9];lia) ⟨H,I.tok _,by rw[gZ r];exact q⟩
  .subst e'
   obtain⟨its,r,pl,hz⟩:=I.tuple hx;have hlen:=r.length;exact truthy_tuple pl (by simp only[A9];lia) ⟨H,I.tok _,by rw[gZ r];exact q⟩
  .subst e'
   obtain⟨hz,hS,vs,r,m⟩:kvs.length<=sizeLine/\(p == Ei)=false/\∃ vs,KV kvs vs/\s.heap.DictOf (zQ X.prog X.w) p vs:=I.hok p _ hx;have hlen:kvs.length=vs.length:=Paired.length r;exact wpAny_truthy_dict hS m li ⟨H,I.tok _,by rw[dQ r];exact q⟩
 |_=>exact(show Cp from e).elim
theorem sD:OpR X (CC .Add) (λx y H Q=>∃ i j,x=.str i/\y=.str j/\i.length+j.length<=sizeLine/\Q (.str (i++j)) H):=by
 intro pins s σ H x y v u Q I rx ry h;obtain⟨i,j,rfl,rfl,hz,q⟩:=h;obtain⟨t,rfl⟩:=rx;obtain⟨t',rfl⟩:=ry;exact add_str (λt' tk=>⟨.str (i++j),H,I.tok _,⟨_,rfl⟩,q⟩) hz
theorem vV {x:V}(r:qK [x] us):∃ u,us=[u]/\qJ x u:=by
 cases r with
 |cons r1 r2=>cases r2;exact⟨_,rfl,r1⟩
theorem pH {x y:V}(r:qK [x,y] us):∃ u w',us=[u,w']/\qJ x u/\qJ y w':=by
 cases r with
 |cons r1 r2 =>
  cases r2 with
  |cons r3 r4=>cases r4;exact⟨_,_,rfl,r1,r3⟩
theorem bW:kG X (.type "int") (λxs H Q=>(∃ i,xs=[.int i]/\Q (.int i) H)\/∃ k,xs=[.bl k]/\Q (.int (if k then 1 else 0)) H):=by
 intro pins s σ H xs us Q I r h;rcases h with⟨i,rfl,q⟩|⟨k,rfl,q⟩
 .obtain⟨u,rfl,t,rfl⟩:=vV r
  exact call_int_int ⟨.int i,H,I,⟨_,rfl⟩,q⟩
 .obtain⟨u,rfl,r1⟩:=vV r
  cases r1;exact call_int_bool ⟨.int (if k then 1 else 0),H,I.tok _,⟨_,rfl⟩,q⟩
def YF (K:Ah)(x:V)(H:Hp)(n:Aj):Prop:=
 match x with
 |.str y=>y.length<=sizeLine/\n=y.length
 |.byt y=>y.size<=sizeLine/\n=y.size
 |.ref p=>(∃ xs,SqL K H p xs/\n=xs.length)\/∃ xs,SqT K H p xs/\n=xs.length
 |_=>Cp
theorem cV:kG X (.builtin "len") (λxs H Q=>∃ x n,xs=[x]/\YF X.K x H n/\Q (.int n) H):=by
 intro pins s σ H xs us Q I r h;obtain⟨x,n,rfl,e,q⟩:=h;obtain⟨u,rfl,rx⟩:=vV r;have hl:=kA;have hs:sizeLine=16777216:=Ch;cases x with
 |str y =>
  obtain⟨t,rfl⟩:=rx;obtain⟨hy,e'⟩:y.length<=sizeLine/\n=y.length:=e;subst e';exact len_str li ⟨.int _,H,I.tok _,⟨_,rfl⟩,q⟩
 |byt y =>
  obtain⟨t,rfl⟩:=rx;obtain⟨hy,e'⟩:y.size<=sizeLine/\n=y.size:=e;subst e';exact PySem.W.len_bytes li ⟨.int _,H,I.tok _,⟨_,rfl⟩,q⟩
 |ref p =>
  cases rx;have e':(∃ xs,SqL X.K H p xs/\n=xs.length)\/∃ xs,SqT X.K H p xs/\n=xs.length:=e;rcases e' with⟨xs,hx,e'⟩|⟨xs,hx,e'⟩
  .subst e'
   obtain⟨its,r',pl,hz⟩:=I.list hx;have hlen:=r'.length;exact Calls.call_len_list pl.isList (by simp only[A9];lia) ⟨.int xs.length,H,I.tok _,⟨_,by simp only[A9];rw[hlen]⟩,q⟩
  .subst e'
   obtain⟨its,r',pl,hz⟩:=I.tuple hx;have hlen:=r'.length;exact len_tuple pl (by simp only[A9];lia) ⟨.int xs.length,H,I.tok _,⟨_,by simp only[A9];rw[hlen]⟩,q⟩
 |_=>exact(show Cp from e).elim
end
end _L
namespace _L
open PySem PySem.Spec PyProof.Rows
variable {mA:An->Ak Ac}
structure ObjM (h:A8)(x dx C:Ad)(mA:An->Ak Ac):Prop where
 obj:h.get? x=Ab (IF C dx)
 ns:h.Ns1 dx mA
 ne:dx≠x
set_option tactic.hygienic true in
theorem eD {h:A8}{dx:Ad}(n:h.Ns1 dx mA):∃ od,h.get? dx=Ab od/\∀ name,Jf name od=Ab (mA name):=by
 obtain⟨o,es,ep,ho,hd,hk,_,hm⟩:=n;refine⟨o,ho,λname=>?_⟩;have e:=hm name;unfold nsFind findBy at e;rw[<- Array.find?_toList] at e;unfold Jf;rw[hd];dsimp only
 split
 .rename_i y q
  rw[q] at e;exact congrArg Ab e
 .rename_i q
  rw[q] at e;have a:es.toList.any (·.refKey)=false:=by
   rw[List.any_eq_false];intro y hy;obtain⟨z,t,hkey⟩:=hk y (Array.mem_toList_iff.mp hy);simp[DictEntry.refKey,hkey]
  have a':¬ es.toList.any (·.refKey)=true:=by rw[a];exact DL
  rw[AD a'];exact congrArg Ab e
theorem ObjM.look {h:A8}{x dx C:Ad}(I:ObjM h x dx C mA):∃ od,PySem.W.InstAt h x (IF C dx) C (Ab od)/\∀ name,Jf name od=Ab (mA name):=
 let ⟨od,ho,hl⟩:=eD I.ns
 ⟨od,⟨I.obj,rfl,rfl,ho⟩,hl⟩
section
variable {P:A0}{w:AH}{H H':Hp}{h h':A8}{a C dx:Ad}{fs fs':Aa (An × V)}
theorem X7 (hok:HOk P w H h)(e:H a=Ab (.ins C dx fs)):∃ mA,ObjM h a dx C mA/\(∀ f,jR (fs.lookup f) (mA f))/\NE mA (fs.map (·.1))/\fs.length<=1000/\H dx=Ab (.own a):=by
 obtain⟨d,z,ne,ob,mA,n,r,q⟩:=(show qY P w H h a (.ins C dx fs) from hok a _ e)
 exact⟨mA,⟨ob,n,ne⟩,r,q,z,d⟩
end
structure Cls (K:Ah)(C:Ad):Prop where
 pg:LI K C ES=true
 hd:PySem.W.hasDictIn K C=true
 po:PySem.W.plainOver K C=true
 sa:Fq K (.ref C) "__setattr__" = Ab (Ab (.builtin "object.__setattr__"))
theorem Cls.get {K:Ah}{C:Ad}(c:Cls K C)(f:An):LI K C f=true:=c.pg
section
variable {X:Cx}{pins:Aa (Ad × AL)}{σ : St}{H:Hp}{s:Af}{A:AF}{E:Ac->Af->Prop}{Q:Ac->Af->Prop}{c:Ac}{b:Ap}
inductive TyOf (K:Ah)(H:Hp):V->Ac->Prop where
 |non:TyOf K H .non (.type "NoneType")
 |bl (x:Ap):TyOf K H (.bl x) (.type "bool")
 |int (i:Am):TyOf K H (.int i) (.type "int")
 |str (x:An):TyOf K H (.str x) (.type "str")
 |flt (x:UInt64):TyOf K H (.flt x) (.type "float")
 |lst {a:Ad} {xs:Aa V} (e:H a=Ab (.lst xs)):TyOf K H (.ref a) (.type "list")
 |frz {a:Ad} {o:AL} {xs:Aa V} (e:H a=Ab (.frz o (.lst xs))):TyOf K H (.ref a) (.type "list")
 |tup {a:Ad} {xs:Aa V} (e:H a=Ab (.tup xs)):TyOf K H (.ref a) (.type "tuple")
 |dK {a:Ad} {kvs:Aa (Key × V)} (e:H a=Ab (.dK kvs)):TyOf K H (.ref a) (.type "dict")
 |dT {a:Ad} {kvs:Aa (Aa Key × V)} (e:H a=Ab (.dT kvs)):TyOf K H (.ref a) (.type "dict")
 |ins {a C dx:Ad} {fs:Aa (An × V)} (e:H a=Ab (.ins C dx fs)) (cl:Cls K C) (ha:Fq K (.ref C) "__class__" = Ab (Ab (.builtin "object.__class__")))
   (hn:Lu K (.builtin "object.__class__") "__get__" = Ab (Ab (.builtin "getset_descriptor.__get__"))) (htk:Mk K (.builtin "object.__class__")=Ab true)
   (hm:Jv K C (.type "object")=Ab true):TyOf K H (.ref a) (.ref C)
theorem rW {x:V}{u t:Ac}(I:Inv X pins σ H s)(rx:qJ x u)(ty:TyOf X.K H x t)(e:EF X.K t c=Ab b)(h:∀ tk,Q (.bool b) { s with toks:=tk }) :
  Ao (Aq X.prog X.w) A (call (.builtin "isinstance") [u,c]) Q E s:=by
 cases ty with
 |non=>cases (show u=Bk from rx);exact Bp Lv I.kIn D5 e (λz=>nomatch z) h
 |bl y=>cases (show u=CP y from rx);exact Bp Lx I.kIn D5 e (λz=>nomatch z) h
 |int i=>obtain⟨t,q⟩:=(show ∃ t,u=DZ i t from rx);cases q;exact Bp LJ I.kIn D5 e (λz=>nomatch z) h
 |str y=>obtain⟨t,q⟩:=(show ∃ t,u=IR y t from rx);cases q;exact Bp LK I.kIn D5 e (λz=>nomatch z) h
 |flt y=>obtain⟨t,q⟩:=(show ∃ t,u=NS y t from rx);cases q;exact Bp PySem.W.kitx_float I.kIn D5 e (λz=>nomatch z) h
 |@lst a xs ea =>
  cases (show u=AN a from rx)
  obtain⟨_,_,n,_,h1⟩:=(show qY X.prog X.w H s.heap a (.lst xs) from I.hok a _ ea)
  exact Bp Ea I.kIn ⟨_,h1,rfl⟩ e (λz=>nomatch z) h
 |@frz a ob xs ea =>
  cases (show u=AN a from rx)
  obtain⟨_,_,_,n,_,h1⟩:=(show qY X.prog X.w H s.heap a (.frz ob (.lst xs)) from I.hok a _ ea)
  exact Bp Ea I.kIn ⟨_,h1,rfl⟩ e (λz=>nomatch z) h
 |@tup a xs ea =>
  cases (show u=AN a from rx)
  obtain⟨_,_,_,p⟩:=(show qY X.prog X.w H s.heap a (.tup xs) from I.hok a _ ea)
  obtain⟨o,h1,h2,_⟩:=p;exact Bp Fh I.kIn ⟨o,h1,h2⟩ e (λz=>nomatch z) h
 |@dK a kvs ea =>
  cases (show u=AN a from rx)
  obtain⟨_,_,vs,_,p⟩:=(show qY X.prog X.w H s.heap a (.dK kvs) from I.hok a _ ea)
  obtain⟨o,es,ep,h1,h2,_⟩:=p;exact Bp Fu I.kIn ⟨o,h1,h2.1⟩ e (λz=>nomatch z) h
 |@dT a kvs ea =>
  cases (show u=AN a from rx)
  obtain⟨_,_,xs,_,o,es,ep,h1,h2,_⟩:=(show qY X.prog X.w H s.heap a (.dT kvs) from I.hok a _ ea)
  exact Bp Fu I.kIn ⟨o,h1,h2.1⟩ e (λz=>nomatch z) h
 |@ins a C dx fs ea cl ha hn htk hm =>
  cases (show u=AN a from rx)
  obtain⟨mA,O,_⟩:=X7 I.hok ea;obtain⟨od,J,_⟩:=O.look;exact Bp (PySem.W.kitx_own (cl.get _) cl.hd ha hn htk hm) I.kIn J e (λz=>nomatch z) h
end
end _L
namespace _L
open PySem PySem.Spec PyProof.Rows
variable {A:AF}{ps:Aa An}{K:Ah}{mg:An->Ak Ac}{kindOf:An->Ak Dz}{scope:Bu}
structure Room (k:Aj)(A:AF):Prop where
 hd:A.handled=none
 dp:A.depth+3*k+5<Hs
 un:A.units+16*k+200<D3
 gd:A.guards=Ab []
theorem Room.deeper {k:Aj}(r:Room (k+1) A)(env:DD):Room k (A.deeper env):=
 ⟨r.hd,by have:=r.dp;show A.depth+1+3*k+5<_;lia,by have:=r.un;show A.units+3+16*k+200<_;lia,r.gd⟩
theorem Room.depth {k:Aj}(r:Room k A):A.depth<Hs:=by have:=r.dp;lia
theorem Room.units {k:Aj}(r:Room k A):A.units+64<D3:=by have:=r.un;lia
def MK:TA:=λ_ H Q=>Q [] H
section
variable {X:Cx}{e:AE}{es:Aa AE}{te:TE}{t:TA}{pos:CD}
theorem JB:PA X [] MK:=λ_ _ _ _ H Q I h=>E5 ⟨[],H,I,.nil,h⟩
def MM (t:TA):TE:=λσ H Q=>t σ H λxs H1=>xs.length<=sizeLine/\∀ p,H1 p=none->Q (.ref p) (upd H1 p (.tup xs))
def MJ (t:TA):TE:=λσ H Q=>t σ H λxs H1=>xs.length<=sizeLine/\∀ p,H1 p=none->Q (.ref p) (upd H1 p (.lst xs))
theorem JG  (h:PA X es t):PE X (.Tuple es x1 pos) (MM t):=by
 intro pins s σ H Q I hq;refine wpAny_Tuple_spliced (thn (h pos pins s σ H _ I hq) λus s1 ⟨xs,H1,I1,r,z,q⟩=>⟨by rw[<- r.length];exact z,?_⟩)
 have hf:H1 s1.heap.objs.size=none:=I1.hok.fresh (Ar _);refine⟨.ref s1.heap.objs.size,upd H1 s1.heap.objs.size (.tup xs),I1.laid (t':=s1.toks) (λb u e=>Ai _ e) (Ar _) ?_,rfl,q _ hf⟩;exact⟨z,us,r,⟨_,AB _ rfl,rfl,_,rfl⟩⟩
theorem eP (h:PA X es t):PE X (.List es pos) (MJ t):=by
 intro pins s σ H Q I hq;refine wpAny_List_spliced (thn (h pos pins s σ H _ I hq) λus s1 ⟨xs,H1,I1,r,z,q⟩=>⟨by rw[<- r.length];exact z,?_⟩)
 have hf:H1 s1.heap.objs.size=none:=I1.hok.fresh (Ar _);refine⟨.ref s1.heap.objs.size,upd H1 s1.heap.objs.size (.lst xs),I1.laid (t':=s1.toks) (λb u e=>Ai _ e) (Ar _) ?_,rfl,q _ hf⟩;exact⟨z,us,0,r,AB _ rfl⟩
end
abbrev Sp:=Aa V->Hp->VK->XK->Prop
abbrev CXT:=Aa DD->Hp->Af->XK->Ac->Af->Prop
structure Env0 (P:A0)(w:AH)(K:Ah)(mg:An->Ak Ac)(base:A8)(A:AF)(outer:Aa DD)(s:Af)(H:Hp):Prop where
 frames:A.frames=Ab outer
 mod:Mod K mg base
 bs:∀ b o,base.get? b=Ab o->s.heap.get? b=Ab o/\H b=none
 bsz:base.objs.size<=s.heap.objs.size
 funs:s.heap.FunFrames base outer
 frf:∀ b∈frs outer,H b=none
 hok:HOk P w H s.heap
 bare:Ge s.gens
def CE (outer:Aa DD)(P:A0)(w:AH)(H:Hp)(s:Af)(Q:VK)(u:Ac)(s':Af):Prop:=
 ∃ v H',s'.os=s.os/\Ge s'.gens/\Un (frs outer) [] H H' s.heap s'.heap/\HOk P w H' s'.heap/\qJ v u/\Q v H'
def CR (CX:CXT)(outer:Aa DD)(P:A0)(w:AH)(H:Hp)(s:Af)(Q:VK)(E:XK)(r:LL)(s':Af):Prop:=
 match r with
 |.ok (.ret u)=>CE outer P w H s Q u s'
 |.ok _=>Cp
 |.error e=>CX outer H s E e s'
structure FnOk (P:A0)(w:AH)(K:Ah)(mg:An->Ak Ac)(base:A8)(CX:CXT)(k:Aj)(f:Ad)(fd:CF)(ps:Aa An)(sp:Sp):Prop where
 len:∀ vs H Q E,sp vs H Q E->vs.length=ps.length
 run:∀ (A:AF) (outer:Aa DD) (s:Af) (H:Hp) (args:Args) (us:Aa Ac) (vs:Aa V) (Q:VK) (E:XK),Room k A->Env0 P w K mg base A outer s H->Gf s fd args (ps.zip us)->qK vs us->sp vs H Q E ->
  D6 (Aq P w) A (.call (.ref f) args) (CR CX outer P w H s Q E) s
section
variable {X:Cx}{pins:Aa (Ad × AL)}{σ : St}{H:Hp}{s s':Af}
theorem Inv.env0 (I:Inv X pins σ H s):Env0 X.prog X.w X.K X.mg X.base X.A X.stack s H:=
 ⟨I.ok.frames,I.ok.mod,I.bs,Bh I.ok.bsz I.sz,I.stack,I.stkFree,I.hok,I.bare⟩
theorem Inv.after {Q:VK}{u:Ac}(I:Inv X pins σ H s)(h:CE X.stack X.prog X.w H s Q u s'):EP X pins σ Q u s':=by
 obtain⟨v,H',os,bare,un,hok,r,q⟩:=h;obtain⟨hh,g,d,t,os'⟩:=s';obtain rfl:os'=s.os:=os;exact⟨v,H',I.call (h':=hh) (g':=g) (d':=d) (t':=t) (ch:=[]) un hok bare (λb z=>absurd z (by simp)),r,q⟩
end
def wC (K:Ah)(fd:CF)(ps:Aa An)(ds:Aa Ac):Prop:=
 ∀ (s:Af) (us:Aa Ac),K.In s.heap->(us++ds).length=ps.length->Gf s fd ⟨us,[]⟩ (ps.zip (us++ds))
theorem wC.all {fd:CF}(h:∀ us:Aa Ac,us.length=ps.length->IG fd ⟨us,[]⟩=pure (ps.zip us)):wC K fd ps []:=λs us _ hl=>by
 rw[CG] at hl ⊢;exact .of_eq (h us hl)
structure FnScope (N P:Aa An)(sc:Bu):Prop where
 kind:sc.kind=.function
 co:sc.isCoroutine=false
 gen:sc.isGenerator=false
 nd:N.Nodup
 pre:N.take P.length=P
 par:∀ x∈P,sc.names.lookup x=Ab .local \/ sc.names.lookup x=Ab .cell
 nofree:∀ y∈sc.names,y.2≠.free
theorem bU {x:An}:∀ {binds:Aa (An × Ac)} {m:An->Ak Ac},(∀ v,(x,v) ∉ binds)->Jw kindOf binds m x=m x
 |[],_,_=>rfl
 |(n,v)::r,m,h=>by
  unfold Jw;rw[bU λw hw=>h w (Ba _ hw)]
  split
  .have:x≠n:=by rintro rfl;exact h v CQ
   simp[this]
  .rfl
theorem bS {x:An}:∀ {binds:Aa (An × Ac)} {m:An->Ak Ac},(∀ v,(x,v) ∉ binds)->Jx kindOf binds m x=m x
 |[],_,_=>rfl
 |(n,v)::r,m,h=>by
  unfold Jx;rw[bS λw hw=>h w (Ba _ hw)]
  split
  .rfl
  .have:x≠n:=by rintro rfl;exact h v CQ
   simp[this]
theorem bT {x:An}{v:Ac}:∀ {P:Aa An} {vs:Aa Ac} {i:Aj} {m:An->Ak Ac},P.Nodup->P[i]? = Ab x->vs[i]? = Ab v->kindOf x=Ab .local ->
  Jw kindOf (P.zip vs) m x=Ab v
 |[],_,_,_,_,h,_,_=>by simp at h
 |_::_,[],_,_,_,_,h,_=>by simp at h
 |p::P,w::vs,0,m,nd,h1,h2,hk=>by
  simp at h1 h2;subst h1;subst h2;show Jw kindOf ((p,w)::P.zip vs) m p=_;unfold Jw;rw[bU λv hv=>(Gz.mp nd).1 (Fa hv).1,AA hk];simp
 |p::P,w::vs,i+1,m,nd,h1,h2,hk=>by
  show Jw kindOf ((p,w)::P.zip vs) m x=_;unfold Jw;exact bT (i:=i) (Gz.mp nd).2 (by simpa using h1) (by simpa using h2) hk
theorem bR {x:An}{v:Ac}:∀ {P:Aa An} {vs:Aa Ac} {i:Aj} {m:An->Ak Ac},P.Nodup->P[i]? = Ab x->vs[i]? = Ab v->kindOf x≠Ab .local ->
  Jx kindOf (P.zip vs) m x=Ab v
 |[],_,_,_,_,h,_,_=>by simp at h
 |_::_,[],_,_,_,_,h,_=>by simp at h
 |p::P,w::vs,0,m,nd,h1,h2,hk=>by
  simp at h1 h2;subst h1;subst h2;show Jx kindOf ((p,w)::P.zip vs) m p=_;unfold Jx;rw[bS λv hv=>(Gz.mp nd).1 (Fa hv).1,AD hk];simp
 |p::P,w::vs,i+1,m,nd,h1,h2,hk=>by
  show Jx kindOf ((p,w)::P.zip vs) m x=_;unfold Jx;exact bR (i:=i) (Gz.mp nd).2 (by simpa using h1) (by simpa using h2) hk
noncomputable def x6 (N:Aa An)(vs:Aa V):St:=vs.map Ab++DH (N.length-vs.length) none
noncomputable def pW (CX:CXT)(P:A0)(w:AH)(K:Ah)(mg:An->Ak Ac)(base:A8)(N:Aa An)(qual:An)(scope:Bu)(f:Ad)(cd:Ac)(A:AF)(outer:Aa DD)(s:Af)(H:Hp)(E:XK):Cx where
 prog:=P
 w:=w
 K:=K
 mg:=mg
 base:=base
 A:=A.deeper (CY qual scope s.heap.objs.size f cd)
 N:=N
 s₀:=s
 H₀:=H
 env:=CY qual scope s.heap.objs.size f cd
 outer:=outer
 stack:=CY qual scope s.heap.objs.size f cd::outer
 ex:=[]
 calm:=true
 fn:=λ_=>true
 pn:=[]
 xe:=λe s'=>Ao (Aq P w) (A.deeper (CY qual scope s.heap.objs.size f cd)) (leaving (CY qual scope s.heap.objs.size f cd) e) (λ_ s''=>CX outer H s E e s'') (λe' s''=>CX outer H s E e' s'') s'
theorem mF {sc:Bu}{n:Aj}{x:An}(h:sc.names.lookup x=Ab .cell):∃ c,(Dt n sc.names []).lookup x=Ab c:=by
 have q:=Ex sc.names n [] (.inl h);exact Ef.mp q
theorem f7 {CX:CXT}{P:A0}{w:AH}{base:A8}{N:Aa An}{qual:An}{f:Ad}{cd:Ac}{outer:Aa DD}{s s1:Af}{H:Hp}{E:XK}{us:Aa Ac}{vs:Aa V}
  (S:FnScope N ps scope) (hd:A.handled=none) (e0:Env0 P w K mg base A outer s H) (hl:vs.length=ps.length) (r:qK vs us)
  (x:InCallC s s.heap.objs.size (Jw (CY qual scope s.heap.objs.size f cd).kindOf (ps.zip us) λ_=>none) (Dt (s.heap.objs.size+1) scope.names []) (Jx (CY qual scope s.heap.objs.size f cd).kindOf (ps.zip us) λ_=>none) s1) :
  Inv (pW CX P w K mg base N qual scope f cd A outer s H E) [] (x6 N vs) H s1:=by
 have hpl:ps.length<=N.length:=by have:=congrArg IU S.pre;rw[Du] at this;lia
 obtain⟨h1,tk,rfl,hk⟩:=x.done;have noA:∀ b:Ad,b ∉ (pW CX P w K mg base N qual scope f cd A outer s H E).ex:=λb z=>absurd (show b∈([]:Aa Ad) from z) (by simp)
 refine⟨⟨e0.mod,S.kind,rfl,rfl,Ar _,λy z c h1 h2=>?_,λy hy=>?_,λy c _ h=>?_,λ_=>hd,Gs e0.frames,.inr ⟨rfl,rfl⟩,λb z=>absurd z (noA b),e0.bs,e0.bsz,λb _ _=>noA b,λb z=>absurd z (noA b),e0.funs,e0.frf⟩,
  rfl,e0.bare,Un.kept hk,⟨_,x.toInCall.ns,λi y v h1 h2 h3=>?_⟩,λy c h=>⟨_,x.cell y c h⟩,e0.hok.fresh (Ar _),λy c h=>?_,λp hp=>absurd (show p∈([]:Aa (Ad × AL)) from hp) (by simp),e0.hok.kept hk,?_⟩
 .exact name_of_addr x.apart (Cq h1) (Cq h2)
 .have hy:scope.names.lookup y=Ab .cell\/scope.names.lookup y=Ab .free:=hy
  rcases hy with hy|hy
  .exact mF hy
  .exact absurd rfl (S.nofree _ (Cq hy))
 .exact CM (x.above y c (Cq h))
 .have hi:i<vs.length:=by
   unfold x6 at h2;by_cases hi:i<vs.length
   .exact hi
   .rw[Bc (by simpa using hi)] at h2
    rw[Fm] at h2
    split at h2 <;> cases h2
  have ha:vs[i]? = Ab v:=by
   unfold x6 at h2;rw[AY (by simpa using hi),Ce] at h2
   cases e:vs[i]? with
   |none=>rw[e] at h2;cases h2
   |some a=>rw[e] at h2;cases h2;rfl
  obtain⟨u,hu,rv⟩:=r.get ha;have hp:ps[i]? = Ab y:=by
   rw[<- S.pre,HR li];exact h1
  have ndP:ps.Nodup:=by rw[<- S.pre];exact S.nd.sublist (List.take_sublist _ _)
  refine⟨u,rv,?_⟩;rcases S.par y (Be hp) with k|k
  .exact .inl ⟨k,bT ndP hp hu k⟩
  .obtain⟨c,e⟩:=mF (n:=s.heap.objs.size+1) k
   refine .inr ⟨.inl k,c,e,?_⟩;have q:=x.cell y c e;rw[bR ndP hp hu (by show scope.names.lookup y≠_;rw[k];decide)] at q
   exact q
 .exact e0.hok.fresh (CM (x.above y c (Cq h)))
 .unfold x6
  show _=N.length;rw[AT,Az,List.length_replicate]
  lia
theorem GV {CX:CXT}{P:A0}{w:AH}{base:A8}{k:Aj}{f:Ad}{name qual:An}{params:Ha}{body:Aa Ca}{dV kV doc pm cdv ct oc:Ac}{an od:Ak Ad}
  {osl:A6 (Ak Ac)} {N ps:Aa An} {sp:Sp} (lk:K.lookup f=Ab ⟨oc,od,.func (Dd name qual params body scope dV kV doc pm an cdv ct),osl⟩) (hcd:EG K cdv qual=true) (S:FnScope N ps scope)
  (len:∀ vs H Q E,sp vs H Q E->vs.length=ps.length)
  (hbody:∀ (A:AF) (outer:Aa DD) (s:Af) (H:Hp) (vs:Aa V) (Q:VK) (E:XK),Room k (A.deeper (CY qual scope s.heap.objs.size f cdv))->sp vs H Q E ->
   ∃ t,PSs (pW CX P w K mg base N qual scope f cdv A outer s H E) body t/\t { nx:=λ_ H'=>Q .non H',rt:=Q } (x6 N vs) H) :
  FnOk P w K mg base CX (k+1) f (Dd name qual params body scope dV kV doc pm an cdv ct) ps sp:=by
 refine⟨len,λA outer s H args us vs Q E hr e0 hb r hsp=>?_⟩;have hl:=len _ _ _ _ hsp;have KX:K.In s.heap:=e0.mod.kin.keeps λb o e=>(e0.bs b o e).1;have lim:s.heap.NoLimit:=e0.mod.nolimit.keeps λb o e=>(e0.bs b o e).1;have hkind:∀ y∈ps.zip us,scope.names.lookup y.1=Ab .local \/ (scope.names.lookup y.1=Ab .cell/\((Dt (s.heap.objs.size+1) scope.names []).lookup y.1).isSome=true):=λ⟨n,v⟩ hy=>by
  rcases S.par n (Fa hy).1 with q|q
  .exact .inl q
  .exact .inr ⟨q,Ex _ _ _ (.inl q)⟩
 refine IV hr.depth (KX _ _ lk) rfl S.co S.gen rfl (Kq KX hcd) (hb _ _ _ _ ?_);refine Hx S.kind hkind λenv he s1 x=>?_;subst he;refine⟨lim.keeps x.toInCall.keep,codeAny_func ?_⟩;obtain⟨t,ht,hq⟩:=hbody A outer s H vs Q E (hr.deeper _) hsp;have I:Inv (pW CX P w K mg base N qual scope f cdv A outer s H E) [] (x6 N vs) H s1:=f7 S hr.hd e0 hl r x;refine Dp (ht [] s1 (x6 N vs) H _ I hq) (λfl s' hs=>?_) λe s' hs=>hs;have fin:∀ {σ' : St} {H':Hp} {v:V} {u:Ac},Inv (pW CX P w K mg base N qual scope f cdv A outer s H E) [] σ' H' s'->qJ v u->Q v H'->CE outer P w H s Q u s':=
  λ{σ' H' v u} J rv q=>⟨v,H',J.os,J.bare,J.base,J.hok,rv,q⟩
 cases fl with
 |ret u =>
  obtain⟨v,σ',H',J,rv,q⟩:=hs;exact fin J rv q
 |next =>
  obtain⟨σ',H',J,q⟩:=hs;exact fin (v:=V.non) (u:=Bk) J rfl q
 |brk =>
  obtain⟨_,_,_,q⟩:=hs;exact Al q
 |cont =>
  obtain⟨_,_,_,q⟩:=hs;exact Al q
end _L
namespace _H
open PySem PyProof.Rows
variable {Q:Ac->Af->Prop}{lo hi:Ak Am}
noncomputable def lexLt:Aa Am->Aa Am->Ap
 |[],[]=>false
 |[],_::_=>true
 |_::_,[]=>false
 |x::xs,y::ys=>if x=y then lexLt xs ys else decide (x<y)
theorem lexLt_cons (x y:Am)(xs ys:Aa Am):lexLt (x::xs) (y::ys)=if x=y then lexLt xs ys else decide (x<y):=rfl
section
variable {prog:A0}{w:AH}{A:AF}{E:Ac->Af->Prop}{s:Af}
theorem cat_tup {t b:Ad}{vs ws:Aa Ac}(ht:Lq s.heap t vs.toArray)(hb:Lq s.heap b ws.toArray)(hv:vs≠[])
  (h1:ws=[]->Q (.ref t) s) (h2:ws≠[]->Q (.ref s.heap.objs.size) { s with heap:=s.heap.push { cls:=.type "tuple",data:=.seq (vs++ws).toArray } })
  (hsz:vs.length+ws.length<=sizeLine):Ao (Aq prog w) A (CC .Add (.ref t) (.ref b)) Q E s:=by
 obtain⟨⟨cls,dd,data,sl⟩,ho,hc,n,hd⟩:=id ht;obtain⟨⟨cls2,dd2,data2,sl2⟩,ho2,hc2,n2,hd2⟩:=id hb;simp only at hc hd hc2 hd2;subst hc hd hc2 hd2;have e:vs.toArray++ws.toArray=(vs++ws).toArray:=by simp
 by_cases hw:ws=[]
 .exact La ⟨_,ho,rfl⟩ ⟨_,ho2,rfl⟩ HY Jy Ga Fn (Fg _ _)
   (tuple_addW1 t b vs.toArray ws.toArray n n2 dd dd2 sl sl2 (by simpa using hv) (by simp[hw])) ⟨ho,ho2,h1 hw⟩
 .refine La ⟨_,ho,rfl⟩ ⟨_,ho2,rfl⟩ HY Jy Ga Fn (Fg _ _)
   (tuple_addW2 t b vs.toArray ws.toArray n n2 dd dd2 sl sl2 (by simpa using hv) (by simpa using hw) (by rw[A9,A9];exact hsz)) ⟨ho,ho2,?_⟩
  rw[e];exact h2 hw
noncomputable def sIx (n d:Aj):Ak Am->Aj
 |none=>d
 |some v=>if v<0 then (v+(n:Am)).toNat else min v.toNat n
theorem sIx_none (n d:Aj):sIx n d none=d:=rfl
theorem sIx_nat (n d k:Aj):sIx n d (Ab (k:Am))=min k n:=by
 show (if (k:Am)<0 then ((k:Am)+(n:Am)).toNat else min (k:Am).toNat n)=min k n
 rw[AD li,Fv]
theorem KA (n d:Aj)(hd:d<=n)(o:Ak Am):sIx n d o<=n:=by
 cases o with
 |none=>exact hd
 |some v =>
  show (if v<0 then (v+(n:Am)).toNat else min v.toNat n)<=n
  by_cases hv:v<0
  .rw[AA hv];lia
  .rw[AD hv];exact Nat.min_le_right _ _
theorem nQ (v:Am)(n d:Aj):(if v<0 then max (v+(n:Am)) 0 else min v (n:Am))=((sIx n d (Ab v):Aj):Am):=by
 show (if v<0 then max (v+(n:Am)) 0 else min v (n:Am))=(((if v<0 then (v+(n:Am)).toNat else min v.toNat n):Aj):Am)
 by_cases hv:v<0
 .simp only[AA hv];lia
 .simp only[AD hv];lia
theorem dD (lo hi:Ak Am)(n:Aj):ET lo hi 1 (n:Am)=(((sIx n 0 lo:Aj):Am),((sIx n n hi:Aj):Am)):=by
 have h1:¬ ((1:Am)<0):=by lia
 unfold ET;simp only[h1,D0];refine Prod.ext ?_ ?_
 .cases lo with
  |none=>rfl
  |some v=>exact nQ v n 0
 .cases hi with
  |none=>rfl
  |some v=>exact nQ v n n
theorem sE (i j:Aj):Eb (i:Am) (j:Am) 1=j-i:=by
 unfold Eb;have h1:(1:Am)>0:=by lia
 simp only[h1,Bq,Int.ediv_one]
 split <;> lia
theorem pF {v:Ac}{o:Ak Am}{Q:Ak Am->Af->Prop}(p:Hy v o)(h:Q o s):Ao (Aq prog w) A (Mu v) Q E s:=by
 cases p with
 |none=>exact slicePart_none h
 |int i t=>exact slicePart_int h
theorem vC {sl:Ad}{vl vu:Ac}{n:Aj}{Q:Am × Am × Aj->Af->Prop}(hs:s.heap.IsSliceOf sl vl vu .none)(pl:Hy vl lo)(pu:Hy vu hi)
  (h:Q (((sIx n 0 lo:Aj):Am),1,sIx n n hi-sIx n 0 lo) s):Ao (Aq prog w) A (Hz (.ref sl) (pure (n:Am))) Q E s:=by
 obtain⟨os,hos,hcs,hds⟩:=id hs;unfold Hz No;refine Ag (Ag (Bm hos hds (x:=vl) rfl (Ag (Bm hos hds (x:=vu) rfl (Ag (Bm hos hds (x:=.none) rfl (As ?_)))))));refine Ag (slicePart_none ?_);show Ao _ _ (if ((1:Am) == 0)=true then _ else _) _ _ s
 rw[AD (by decide)]
 refine Ag (pF pl (Ag (pF pu (Ag (As ?_)))));show Ao _ _ (match ET lo hi 1 (n:Am) with|(lo,hi)=>pure (lo,(1:Am),Eb lo hi 1)) _ _ s
 rw[dD lo hi n];show Ao _ _ (pure (((sIx n 0 lo:Aj):Am),(1:Am),Eb ((sIx n 0 lo:Aj):Am) ((sIx n n hi:Aj):Am) 1)) _ _ s;rw[sE];exact As h
theorem o4 (xs:A6 Ac)(i k:Aj):((CJ k).filterMap λ(m:Aj)=>xs[((i:Am)+(m:Am)*1).toNat]?).toArray=((xs.toList.drop i).take k).toArray:=by
 have e:(λ(m:Aj)=>xs[((i:Am)+(m:Am)*1).toNat]?)=λm=>xs[i+m]?:=by
  funext m
  have:((i:Am)+(m:Am)*1).toNat=i+m:=by lia
  rw[this]
 rw[e];have:=pick_run xs i k;rw[List.filterMap_map] at this;have e2:((λx=>xs[x]?)∘λx=>i+x)=λm=>xs[i+m]?:=rfl;rw[e2] at this;rw[this]
theorem getItem_tuple_cut {t sl:Ad}{items:A6 Ac}{vl vu:Ac}(ht:Lq s.heap t items)(hs:s.heap.IsSliceOf sl vl vu .none)(pl:Hy vl lo)(pu:Hy vu hi)
  (hw:¬ (sIx items.size 0 lo=0/\sIx items.size items.size hi=items.size))
  (h:Q (.ref s.heap.objs.size) { s with heap:=s.heap.push { cls:=.type "tuple",data:=.seq ((items.toList.drop (sIx items.size 0 lo)).take (sIx items.size items.size hi-sIx items.size 0 lo)).toArray } })
  (hsz:items.size<=sizeLine):Ao (Aq prog w) A (HC (.ref t) (.ref sl)) Q E s:=by
 have htake:sizeOk (.seq ((items.toList.drop (sIx items.size 0 lo)).take (sIx items.size items.size hi-sIx items.size 0 lo)).toArray):=by
  show ((items.toList.drop (sIx items.size 0 lo)).take (sIx items.size items.size hi-sIx items.size 0 lo)).toArray.size<=sizeLine;rw[A9,Du,Gg,AJ]
  lia
 have hj:sIx items.size items.size hi<=items.size:=KA _ _ (Ar _) hi;obtain⟨os,hos,hcs,hds⟩:=id hs;have hTs:s.TypeIs (.ref sl) "slice":=⟨os,hos,hcs⟩;unfold HC
 try with_reducible refine CZ ?_
 first|refine Ag (As ?_)|skip
 refine Ag (Ly ht.typeIs (by decide) ?_)
 refine Ag (Cy (name:=Eo "__getitem__") ht.typeIs Cs
  (CV Cs ht.typeIs Jz ?_ (Kr _ _)))
 show Ao _ _ (H0 (.ref t) >>= _) _ _ s;refine Ag (tupleItemsOf_ ht ?_);refine Ag (Lb hTs ?_);rw[AA (by decide)]
 refine Ag (vC hs pl pu ?_);have hno:¬ ((((sIx items.size 0 lo:Aj):Am) == 0&&(1:Am) == 1&&(sIx items.size items.size hi-sIx items.size 0 lo) == items.size)=true):=by
  intro q;rw[A5,A5] at q;have q1:((sIx items.size 0 lo:Aj):Am)=0:=eq_of_beq q.1.1;have q2:sIx items.size items.size hi-sIx items.size 0 lo=items.size:=eq_of_beq q.2;exact hw ⟨by lia,by lia⟩
 show Ao _ _ (if (((sIx items.size 0 lo:Aj):Am) == 0&&(1:Am) == 1&&(sIx items.size items.size hi-sIx items.size 0 lo) == items.size)=true then _ else _) _ _ s
 rw[AD hno,o4]
 first
  |exact Ag (m:=Eg _) (Dn (As ⟨_,rfl,As h⟩) htake)
  |exact Ag (m:=Eg _) (Dn (Ag (As (As ⟨_,rfl,As h⟩))) htake)
  |exact Ag (Ag (m:=Eg _) (Dn (As (As ⟨_,rfl,As h⟩)) htake))
  |exact Ag (Ag (m:=Eg _) (Dn (As ⟨_,rfl,As h⟩) htake))
end
end _H
namespace _L
open PySem PySem.Spec PyProof.Rows
abbrev TO:=St->Hp->(Ak Am->Hp->Prop)->Prop
def PO (X:Cx)(e:Ak AE)(t:TO):Prop:=
 ∀ (pins:Aa (Ad × AL)) (s:Af) (σ : St) (H:Hp) (Q:Ak Am->Hp->Prop),Inv X pins σ H s->t σ H Q ->
  Ao (Aq X.prog X.w) X.A (evalPart e X.env) (λu s'=>∃ o H',Inv X pins σ H' s'/\Hy u o/\Q o H') X.xe s
def Y0:TO:=λ_ H Q=>Q none H
def BM (t:TE):TO:=λσ H Q=>t σ H λx H1=>∃ i,x=.int i/\Q (Ab i) H1
theorem gX {ns:Aa Am}:∀ {us:Aa Ac},qK (ns.map V.int) us->HD us ns:=by
 induction ns with
 |nil=>intro us r;rw[Ip] at r;cases r;exact .nil
 |cons n ns ih =>
  intro us r;rw[Cf] at r;cases r with
  |cons r1 r2 =>
   obtain⟨t,e⟩:=r1;subst e;exact .cons n t (ih r2)
section
variable {X:Cx}{e:AE}{te:TE}{lo hi:Ak AE}{tl th:TO}{pos p2:CD}
theorem WA:PO X none Y0:=by
 intro pins s σ H Q I h;rw[evalPart_none];exact As ⟨none,H,I,.none,h⟩
theorem WB (h:PE X e te):PO X (Ab e) (BM te):=by
 intro pins s σ H Q I hw;rw[evalPart_some];refine thn (h pins s σ H _ I hw) λu s1 ⟨x,H1,I1,r1,q1⟩=>?_;obtain⟨i,rfl,q⟩:=q1;obtain⟨t,rfl⟩:=r1;exact⟨Ab i,H1,I1,.int i t,q⟩
def SlR (X:Cx)(r:V->Ak Am->Ak Am->Hp->VK->Prop):Prop:=
 ∀ (pins:Aa (Ad × AL)) (s:Af) (σ : St) (H:Hp) (x:V) (v vl vu:Ac) (lo hi:Ak Am) (sl:Ad) (Q:VK),Inv X pins σ H s->qJ x v->s.heap.IsSliceOf sl vl vu .none->Hy vl lo->Hy vu hi->r x lo hi H Q ->
  ∃ T id,typeLookup (.type T) "__getitem__" = pure (Ab (.builtin id))/\s.TypeIs v T/\Ao (Aq X.prog X.w) X.A (HC v (.ref sl)) (EP X pins σ Q) X.xe s
theorem SlR.or {r r':V->Ak Am->Ak Am->Hp->VK->Prop}(h:SlR X r)(h':SlR X r'):SlR X (λx lo hi H Q=>r x lo hi H Q\/r' x lo hi H Q):=by
 intro pins s σ H x v vl vu lo hi sl Q I rx hs pl pu q;rcases q with q|q
 .exact h pins s σ H x v vl vu lo hi sl Q I rx hs pl pu q
 .exact h' pins s σ H x v vl vu lo hi sl Q I rx hs pl pu q
def tSl (r:V->Ak Am->Ak Am->Hp->VK->Prop)(te:TE)(tl th:TO):TE:=λσ H Q=>te σ H λx H1=>tl σ H1 λl H2=>th σ H2 λu H3=>r x l u H3 Q
theorem iZ {r:V->Ak Am->Ak Am->Hp->VK->Prop}(hr:SlR X r)(he:PE X e te)(hl:PO X lo tl)(hu:PO X hi th):PE X (.Subscript e (.Slice lo hi none p2) pos) (tSl r te tl th):=by
 intro pins s σ H Q I h;refine Subscript_ (thn (he pins s σ H _ I h) λv s1 ⟨x,H1,I1,r1,q1⟩=>?_);refine wpAny_Slice (thn (hl pins s1 σ H1 _ I1 q1) λvl s2 ⟨l,H2,I2,pl,q2⟩=>thn (hu pins s2 σ H2 _ I2 q2) λvu s3 ⟨u,H3,I3,pu,q3⟩=>?_);rw[evalPart_none];refine As ?_;have I4:Inv X pins σ H3 { s3 with heap:=s3.heap.push { cls:=.type "slice",data:=.fields #[vl,vu,.none] } }:=I3.kept (t':=s3.toks) λb ob q=>Ai _ q
 obtain⟨T,id,hT,ht,hg⟩:=hr pins { s3 with heap:=s3.heap.push { cls:=.type "slice",data:=.fields #[vl,vu,.none] } } σ H3 x v vl vu l u s3.heap.objs.size Q I4 r1 (Ob ..) pl pu q3
 show Ao (Aq X.prog X.w) X.A (Ka e (.Slice lo hi none p2) v (.ref s3.heap.objs.size)) (EP X pins σ Q) X.xe { s3 with heap:=s3.heap.push { cls:=.type "slice",data:=.fields #[vl,vu,.none] } }
 exact tail_any (ops:=[.ref s3.heap.objs.size,v]) ht hT hg (by with_unfolding_all rfl)
noncomputable def jT (xs:Aa V)(lo hi:Ak Am):Aa V:=(xs.drop (_H.sIx xs.length 0 lo)).take (_H.sIx xs.length xs.length hi-_H.sIx xs.length 0 lo)
theorem kY (xs:Aa V)(lo hi:Ak Am):(jT xs lo hi).length<=xs.length:=by
 unfold jT;rw[Du,Gg]
 lia
def MD (K:Ah):V->Ak Am->Ak Am->Hp->VK->Prop:=λx lo hi H Q=>∃ a xs,x=.ref a/\SqT K H a xs /\
 ¬ (_H.sIx xs.length 0 lo=0/\_H.sIx xs.length xs.length hi=xs.length)/\∀ p,H p=none->Q (.ref p) (upd H p (.tup (jT xs lo hi)))
theorem KC:SlR X (MD X.K):=by
 intro pins s σ H x v vl vu lo hi sl Q I rx hs pl pu h;obtain⟨a,xs,rfl,hx,hw,q⟩:=h;cases rx;obtain⟨its,r,ht,hz⟩:=I.tuple hx;have hlen:its.toArray.size=xs.length:=by rw[A9];exact r.length.symm
 refine⟨"tuple",_,Cs.lookup,ht.typeIs,?_⟩;refine _H.getItem_tuple_cut ht hs pl pu (by rw[hlen];exact hw) ?_ (by rw[hlen];exact hz)
 rw[hlen];refine⟨.ref s.heap.objs.size,_,I.laid (t':=s.toks) (o:=.tup (jT xs lo hi)) (λb ob q=>Ai _ q) (Ar _) ?_,rfl,q _ (I.hok.fresh (Ar _))⟩;exact⟨Bh (kY xs lo hi) hz,_,(r.drop (_H.sIx xs.length 0 lo)).take (_H.sIx xs.length xs.length hi-_H.sIx xs.length 0 lo),Np _ _⟩
end
end _L
namespace _L
open PySem PySem.Spec PyProof.Rows
variable {pins:Aa (Ad × AL)}{s:Af}{H:Hp}{σ:St}
noncomputable def ixN (n:Aj)(i:Am):Ak Aj:=if 0<=i then (if i<n then Ab i.toNat else none) else if -(n:Am)<=i then Ab (i+n).toNat else none
noncomputable def atI {α:Type}(xs:Aa α)(i:Am):Ak α:=(ixN xs.length i).bind λj=>xs[j]?
theorem l9 {n:Aj}{i:Am}{j:Aj}(h:ixN n i=Ab j):seqIndex? i n=Ab j/\j<n /\ -(n:Am)<=i/\i<n:=by
 unfold ixN at h;by_cases h0:0<=i
 .rw[AA h0] at h
  by_cases h1:i<n
  .rw[AA h1] at h
   have e:i.toNat=j:=AQ h;exact⟨by rw[LN h0 h1,e],by lia,by lia,h1⟩
  .rw[AD h1] at h;cases h
 .rw[AD h0] at h
  by_cases h1 : -(n:Am)<=i
  .rw[AA h1] at h
   have e:(i+n).toNat=j:=AQ h;exact⟨by rw[seqIndex_neg li h1,e],by lia,h1,by lia⟩
  .rw[AD h1] at h;cases h
theorem nO {α:Type}{xs:Aa α}{i:Am}{v:α}(h:atI xs i=Ab v):∃ j,seqIndex? i xs.length=Ab j/\xs[j]? = Ab v/\j<xs.length /\ -(xs.length:Am)<=i/\i<xs.length:=by
 unfold atI at h;cases e:ixN xs.length i with
 |none=>rw[e] at h;cases h
 |some j =>
  rw[e] at h;obtain⟨h1,h2,h3,h4⟩:=l9 e;exact⟨j,h1,h,h2,h3,h4⟩
def pN (b:AE):Prop:=∀ o i,subscripted b false o i=operate [o,i] (HC o i)
def IxR (X:Cx)(r:R2):Prop:=
 ∀ (value slice:AE) (pins:Aa (Ad × AL)) (s:Af) (σ : St) (H:Hp) (x y:V) (v u:Ac) (Q:VK),Inv X pins σ H s->qJ x v->qJ y u->r x y H Q ->
  subscripted slice false v u=operate [v,u] (HC v u)->Ao (Aq X.prog X.w) X.A (Ka value slice v u) (EP X pins σ Q) X.xe s
def MtR (X:Cx)(id:Bg)(r:V->Aa V->Hp->VK->Prop):Prop:=
 ∀ (pins:Aa (Ad × AL)) (s:Af) (σ : St) (H:Hp) (x:V) (xs:Aa V) (v:Ac) (us:Aa Ac) (Q:VK),Inv X pins σ H s->qJ x v->qK xs us->r x xs H Q ->
  Ao (Aq X.prog X.w) X.A (call (.builtin id) (v::us)) (EP X pins σ Q) X.xe s
section
variable {X:Cx}{a b:AE}{ta tb:TE}{pos:CD}
theorem IxR.or {r r':R2}(h:IxR X r)(h':IxR X r'):IxR X (λx y H Q=>r x y H Q\/r' x y H Q):=by
 intro value slice pins s σ H x y v u Q I rx ry q hs;rcases q with q|q
 .exact h value slice pins s σ H x y v u Q I rx ry q hs
 .exact h' value slice pins s σ H x y v u Q I rx ry q hs
theorem MtR.or {id:Bg}{r r':V->Aa V->Hp->VK->Prop}(h:MtR X id r)(h':MtR X id r'):MtR X id (λx xs H Q=>r x xs H Q\/r' x xs H Q):=by
 intro pins s σ H x xs v us Q I rx rs q;rcases q with q|q
 .exact h pins s σ H x xs v us Q I rx rs q
 .exact h' pins s σ H x xs v us Q I rx rs q
theorem B7 {r:R2}(hr:IxR X r)(ha:PE X a ta)(hb:PE X b tb)(hs:pN b):PE X (.Subscript a b pos) (tOp r ta tb):=by
 intro pins s σ H Q I h;exact Subscript_ (FD ha hb I h λv u s2 x y H2 I2 rx ry q=>hr a b pins s2 σ H2 x y v u Q I2 rx ry q (hs _ _))
def M9 (K:Ah):R2:=λx y H Q=>∃ p xs i v,x=.ref p/\y=.int i/\SqL K H p xs/\atI xs i=Ab v/\Q v H
def MA (K:Ah):R2:=λx y H Q=>∃ p xs i v,x=.ref p/\y=.int i/\SqT K H p xs/\atI xs i=Ab v/\Q v H
theorem lA:IxR X (M9 X.K):=by
 intro value slice pins s σ H x y v u Q I rx ry h hs;obtain⟨p,xs,i,z,rfl,rfl,hq,he,q⟩:=h;cases rx;obtain⟨t,rfl⟩:=ry;obtain⟨its,r,pl,hz⟩:=I.list hq;obtain⟨j,h1,h2,h3,h4,h5⟩:=nO he;obtain⟨w,ew,rw'⟩:=r.get h2;have hl:=r.length;have hn:=kA;have fin:EP X pins σ Q w s:=⟨z,H,I,rw',q⟩;by_cases h0:0<=i
 .have hj:i.toNat=j:=by
   rw[LN h0 h5] at h1;exact AQ h1
  exact item_listR pl.isList h0 li (by rw[hj];simpa using ew) fin hs
 .have hj:(i+(its.toArray.size:Am)).toNat=j:=by
   rw[seqIndex_neg li h4] at h1;rw[A9,<- hl];exact AQ h1
  exact IH (x:=w) pl.isList.typeIs Lz.lookup
   (wpAny_getItem_list_neg (Q:=λr s'=>r=w/\EP X pins σ Q r s') pl.isList li (by rw[A9] <;> lia) li (by rw[hj];simpa using ew) ⟨rfl,fin⟩) hs
theorem U4:IxR X (MA X.K):=by
 intro value slice pins s σ H x y v u Q I rx ry h hs;obtain⟨p,xs,i,z,rfl,rfl,hq,he,q⟩:=h;cases rx;obtain⟨t,rfl⟩:=ry;obtain⟨its,r,pl,hz⟩:=I.tuple hq;obtain⟨j,h1,h2,h3,h4,h5⟩:=nO he;obtain⟨w,ew,rw'⟩:=r.get h2;have hl:=r.length;have hn:=kA;have fin:EP X pins σ Q w s:=⟨z,H,I,rw',q⟩;exact IH (x:=w) pl.typeIs slot_tuple_getitem.lookup
  (getItem_tuple (j:=j) (Q:=λr s'=>r=w/\EP X pins σ Q r s') pl li li (by rw[A9,<- hl];exact h1) (by simpa using ew) ⟨rfl,fin⟩) hs
theorem dZ (its:Aa Ac)(n j:Aj)(u:Ac):CS (·.setIfInBounds j u) { cls:=.type "list",data:=.seq its.toArray n } = { cls:=.type "list",data:=.seq (its.set j u).toArray n }:=by
 simp[CS]
theorem Inv.lst {p:Ad}{xs:Aa V}(I:Inv X pins σ H s)(h:H p=Ab (.lst xs)) :
  ∃ (its:Aa Ac) (n:Aj),qK xs its/\s.heap.get? p=Ab { cls:=.type "list",data:=.seq its.toArray n } /\ xs.length<=sizeLine:=by
 obtain⟨z,its,n,r,e⟩:=I.hok p _ h;exact⟨its,n,r,e,z⟩
theorem Inv.lstUpd {p:Ad}{xs ys:Aa V}{its its':Aa Ac}{n n':Aj}{f:AL->AL}(I:Inv X pins σ H s)(h:H p=Ab (.lst xs))
  (ho:s.heap.get? p=Ab { cls:=.type "list",data:=.seq its.toArray n }) (hf:f { cls:=.type "list",data:=.seq its.toArray n } = { cls:=.type "list",data:=.seq its'.toArray n' }) (r:qK ys its') (hz:ys.length<=sizeLine) (t:Aj) :
  Inv X pins σ (upd H p (.lst ys)) { s with heap:=s.heap.update p f,toks:=t }:=by
 have e:(s.heap.update p f).get? p=Ab { cls:=.type "list",data:=.seq its'.toArray n' }:=by
  rw[IW f ho (by rw[hf] <;> rfl),hf]
 refine I.write (x:=p) (e:=p) (by rw[h];trivial) (.inl rfl) (λb u hb q=>(CH _ _ (Df hb)).trans q) ⟨_,e⟩ ?_
 exact⟨hz,its',n',r,e⟩
def BE:V->V->V->Hp->(Hp->Prop)->Prop:=λo i v H Q=>∃ p xs k j,o=.ref p/\i=.int k/\H p=Ab (.lst xs)/\ixN xs.length k=Ab j/\Q (upd H p (.lst (xs.set j v)))
theorem oO:fZ X BE:=by
 intro pins s σ H o i v ov iv u Q I ro ri rv h;obtain⟨p,xs,k,j,rfl,rfl,hp,hj,q⟩:=h;cases ro;obtain⟨t,rfl⟩:=ri;obtain⟨its,n,r,ho,hz⟩:=I.lst hp;obtain⟨h1,h2,h3,h4⟩:=l9 hj;have hl:=r.length;have hn:=kA;have I':Inv X pins σ (upd H p (.lst (xs.set j v))) { s with heap:=s.heap.update p (CS (·.setIfInBounds j u)) }:=
  I.lstUpd hp ho (dZ its n j u) (r.set rv j) (by rw[Ml];exact hz) s.toks
 by_cases h0:0<=k
 .have hk:k.toNat=j:=by
   rw[LN h0 h4] at h1;exact AQ h1
  exact PySem.W.ki_setAt ho h0 li (by rw[A9,<- hl];exact h4) (by rw[hk];exact⟨_,I',q⟩)
 .have hk:(k+(its.toArray.size:Am)).toNat=j:=by
   rw[seqIndex_neg li h3] at h1;rw[A9,<- hl];exact AQ h1
  exact PySem.W.ki_setBack ho li (by rw[A9,<- hl];exact h3) li (by rw[hk];exact⟨_,I',q⟩)
theorem tR (lo hi:Ak Am)(n:Aj):(Fb lo hi none n).1=((_H.sIx n 0 lo:Aj):Am)/\(Fb lo hi none n).2.1=((_H.sIx n n hi:Aj):Am)/\(Fb lo hi none n).2.2=1:=by
 refine⟨?_,?_,rfl⟩
 .cases lo with
  |none=>simp[Fb,_H.sIx]
  |some i =>
   simp only[Fb,_H.sIx,LO,show (1:Am)>0 by decide,Bq]
   by_cases h:i<0
   .simp only[h,Bq] <;> lia
   .simp only[h,D0] <;> lia
 .cases hi with
  |none=>simp[Fb,_H.sIx]
  |some i =>
   simp only[Fb,_H.sIx,LO,show (1:Am)>0 by decide,Bq]
   by_cases h:i<0
   .simp only[h,Bq] <;> lia
   .simp only[h,D0] <;> lia
theorem fL (its:Aa Ac)(lo hi:Ak Am):slicePick its.toArray lo hi none=((its.drop (_H.sIx its.length 0 lo)).take (_H.sIx its.length its.length hi-_H.sIx its.length 0 lo)).toArray:=by
 obtain⟨h1,h2,h3⟩:=tR lo hi its.toArray.size;unfold slicePick;rw[h1,h2,h3];simp only[sliceRange_one,pick_run,A9] <;> rfl
def MC (K:Ah):V->Ak Am->Ak Am->Hp->VK->Prop:=λx lo hi H Q=>∃ a xs,x=.ref a/\SqL K H a xs/\∀ p,H p=none->Q (.ref p) (upd H p (.lst (jT xs lo hi)))
theorem lT:SlR X (MC X.K):=by
 intro pins s σ H x v vl vu lo hi sl Q I rx hs pl pu h;obtain⟨a,xs,rfl,hx,q⟩:=h;cases rx;obtain⟨its,r,ht,hz⟩:=I.list hx;have hlen:=r.length;refine⟨"list",_,Lz.lookup,ht.isList.typeIs,?_⟩;refine wpAny_getItem_list_slice ht.isList hs pl pu .none (by simp) ?_ (by rw[A9] <;> lia)
 rw[fL,<- hlen];refine⟨.ref s.heap.objs.size,_,I.laid (t':=s.toks) (o:=.lst (jT xs lo hi)) (λb ob q=>Ai _ q) (Ar _) ?_,rfl,q _ (I.hok.fresh (Ar _))⟩;exact⟨Bh (kY xs lo hi) hz,_,0,(r.drop (_H.sIx xs.length 0 lo)).take (_H.sIx xs.length xs.length hi-_H.sIx xs.length 0 lo),AB _ rfl⟩
theorem kG.or {f:Ac}{r r':Aa V->Hp->VK->Prop}(h:kG X f r)(h':kG X f r'):kG X f (λxs H Q=>r xs H Q\/r' xs H Q):=by
 intro pins s σ H xs us Q I rs q;rcases q with q|q
 .exact h pins s σ H xs us Q I rs q
 .exact h' pins s σ H xs us Q I rs q
def tyV (K:Ah)(T:Bg)(x:V)(H:Hp):Prop:=match x with
 |.str _=>T = "str"
 |.int _=>T = "int"
 |.ref p=>(T = "list" /\ ∃ xs,SqL K H p xs)\/(T = "tuple" /\ ∃ o,K.lookup p=Ab o/\o.cls=.type "tuple" /\ o.dict=none) \/
   (T = "dict" /\ ((∃ kvs,H p=Ab (.dK kvs))\/∃ kvs,H p=Ab (.dT kvs)))\/(T = "set" /\ ∃ S n,H p=Ab (.set S n))
 |_=>Cp
theorem KM {T:Bg}{x:V}{v:Ac}(I:Inv X pins σ H s)(r:qJ x v)(ty:tyV X.K T x H) :
  s.TypeIs v T/\∀ a,v=.ref a->∃ ob,s.heap.get? a=Ab ob/\ob.dict=none:=by
 cases x with
 |str z =>
  obtain⟨t,rfl⟩:=r;cases (show T = "str" from ty)
  exact⟨typeIs_str s z t,λ_ e=>nomatch e⟩
 |int i =>
  obtain⟨t,rfl⟩:=r;cases (show T = "int" from ty)
  exact⟨typeIs_int s i t,λ_ e=>nomatch e⟩
 |ref p =>
  cases r;rcases ty with⟨rfl,xs,hq⟩|⟨rfl,o,hk,hc,hd⟩|⟨rfl,hk⟩|⟨rfl,S,n,hk⟩
  .obtain⟨its,_,pl,_⟩:=I.list hq
   refine⟨pl.isList.typeIs,λa e=>?_⟩;cases e;obtain⟨o,n,e,c,hd,_⟩:=pl;exact⟨o,e,hd⟩
  .refine⟨⟨o,I.kIn p o hk,hc⟩,λa e=>?_⟩
   cases e;exact⟨o,I.kIn _ o hk,hd⟩
  .have z:∃ o,s.heap.get? p=Ab o/\o.ExactDict:=by
    rcases hk with⟨kvs,hk⟩|⟨kvs,hk⟩
    .obtain⟨_,_,_,_,o,_,_,e,ex,_⟩:=I.hok p _ hk
     exact⟨o,e,ex⟩
    .obtain⟨_,_,_,_,o,_,_,e,ex,_⟩:=I.hok p _ hk
     exact⟨o,e,ex⟩
   obtain⟨o,e,ex⟩:=z;refine⟨⟨o,e,ex.1⟩,λa e2=>?_⟩;cases e2;exact⟨o,e,ex.2.1⟩
  .obtain⟨o,_,_,_,e,ex,_⟩:=I.hok p _ hk
   refine⟨⟨o,e,ex.1⟩,λa e2=>?_⟩;cases e2;exact⟨o,e,ex.2.1⟩
 |_=>exact Al ty
variable {o e:AE}{es:Aa AE}{to:TE}{t:TA}{name:An}{apos cpos:CD}{T id:Bg}{r:V->Aa V->Hp->VK->Prop}
/- xs.append(e),list.index on a module's tuple .. are MtR facts of 06m -/
end
end _L
namespace _L
open PySem PySem.Spec PyProof.Rows
def MtM (X:Cx)(id:Bg)(r:V->Aa V->Hp->VK->Prop):Prop:=
 ∀ (pins:Aa (Ad × AL)) (s:Af) (σ : St) (H:Hp) (x:V) (xs:Aa V) (v:Ac) (us:Aa Ac) (Q:VK),Inv X pins σ H s->qJ x v->qK xs us->r x xs H Q ->
  Ao (Aq X.prog X.w) X.A (call (.builtin id) (v::us)) (EP X pins σ Q) X.xe s
theorem qK.one {x:V}{us:Aa Ac}(h:qK [x] us):∃ u,us=[u]/\qJ x u:=vV h
theorem qK.two {x y:V}{us:Aa Ac}(h:qK [x,y] us):∃ u v,us=[u,v]/\qJ x u/\qJ y v:=pH h
section
variable {X:Cx}{pins:Aa (Ad × AL)}{σ : St}{H:Hp}{s:Af}{l b:Ad}{xs ys zs:Aa V}
theorem Inv.lset {its its':Aa Ac}{n:Aj}{f:A6 Ac->A6 Ac}{t':Aj}(I:Inv X pins σ H s)(hH:H l=Ab (.lst xs))
  (e:s.heap.get? l=Ab { cls:=.type "list",data:=.seq its.toArray n }) (hf:f its.toArray=its'.toArray) (hv:qK ys its') (hz:ys.length<=sizeLine) :
  Inv X pins σ (upd H l (.lst ys)) { s with heap:=s.heap.update l (CS f),toks:=t' }:=by
 have q:=LP e f;rw[hf] at q;refine I.write (x:=l) (e:=l) (by rw[hH];exact trivial) (.inl rfl) (λb' u hb hu=>(CH s.heap (CS f) (Df hb)).trans hu) ⟨_,q⟩ ?_
 exact⟨hz,its',_,hv,q⟩
theorem Inv.lstM (I:Inv X pins σ H s)(hH:H l=Ab (.lst xs)):xs.length<=sizeLine/\∃ (its:Aa Ac) (n:Aj),qK xs its/\xs.length=its.length/\s.heap.get? l=Ab { cls:=.type "list",data:=.seq its.toArray n }:=by
 obtain⟨z,its,n,r,e⟩:=I.hok l _ hH;exact⟨z,its,n,r,r.length,e⟩
end
section
variable {X:Cx}
def WS:V->Aa V->Hp->VK->Prop:=λx vs H Q=>∃ l xs y,x=.ref l/\vs=[y]/\H l=Ab (.lst xs)/\xs.length<sizeLine/\Q .non (upd H l (.lst (xs++[y])))
theorem eG:MtM X "list.append" WS:=by
 intro pins s σ H x vs v us Q I rx rv h;obtain⟨l,xs,y,rfl,rfl,hH,hz,q⟩:=h;cases rx;obtain⟨u,rfl,ru⟩:=rv.one;obtain⟨z,its,n,r,hl,e⟩:=I.lstM hH;refine Kb Ks ⟨_,e,rfl⟩ Kc (Jm _ _) (L0 l its.toArray n u (by rw[A9];lia)) ⟨e,?_⟩
 refine⟨.non,_,I.lset (its':=its++[u]) hH e (by simp) (r.append (.cons ru .nil)) ?_,rfl,q⟩
 rw[AT,E6]
 lia
end
end _L
namespace _L
open PySem PySem.Spec PyProof.Rows
variable {xs:Aa (Aa Key × Ad × Ac)}{kvs:Aa (Aa Key × V)}{H':Hp}
section
variable {κ : Type}[DecidableEq κ]
noncomputable def vF (kvs:Aa (κ × V))(k:κ):Ak V:=(kvs.find? λkv=>decide (kv.1=k)).map (·.2)
noncomputable def wJ (kvs:Aa (κ × V))(k:κ)(v:V):Aa (κ × V):=
 if (kvs.any λkv=>decide (kv.1=k))=true then kvs.map (λkv=>if kv.1=k then (kv.1,v) else kv) else kvs++[(k,v)]
theorem n6 {p:κ × V}{r:Aa (κ × V)}{k:κ}(e:p.1=k):vF (p::r) k=Ab p.2:=by simp[vF,Hb,e]
theorem tZ {p:κ × V}{r:Aa (κ × V)}{k:κ}(e:¬ p.1=k):vF (p::r) k=vF r k:=by simp[vF,Hb,e]
theorem tY (k:κ):∀ kvs:Aa (κ × V),(kvs.any λkv=>decide (kv.1=k))=(vF kvs k).isSome
 |[]=>rfl
 |p::r=>by
  rw[Ey];by_cases e:p.1=k
  .simp only[n6 e,By e,NG,Kt]
  .rw[tZ e,Bo e,Bool.false_or];exact tY k r
theorem kZ (kvs:Aa (κ × V))(k:κ)(v:V):(wJ kvs k v).length<=kvs.length+1:=by
 unfold wJ
 split
 .rw[Az];lia
 .rw[AT,AG,CO];lia
theorem jR.isSome_eq {o:Ak V}{u:Ak Ac}(r:jR o u):o.isSome=u.isSome:=by
 cases o with
 |none=>cases u with
  |none=>rfl
  |some _=>exact(show Cp from r).elim
 |some _=>cases u with
  |none=>exact(show Cp from r).elim
  |some _=>rfl
theorem jR.getD {o:Ak V}{u:Ak Ac}{d:V}{d':Ac}(r:jR o u)(rd:qJ d d'):qJ (o.getD d) (u.getD d'):=by
 cases o with
 |none=>cases u with
  |none=>exact rd
  |some _=>exact(show Cp from r).elim
 |some _=>cases u with
  |none=>exact(show Cp from r).elim
  |some _=>exact r
theorem KV.any {kvs:Aa (κ × V)}{vs:Aa (κ × Ac)}(r:KV kvs vs)(k:κ):(kvs.any λkv=>decide (kv.1=k))=vs.any λkv=>decide (kv.1=k):=by
 unfold KV at r
 induction r with
 |nil=>rfl
 |cons h t ih=>rw[Ey,Ey,ih,h.1]
theorem KV.repl {kvs:Aa (κ × V)}{vs:Aa (κ × Ac)}(r:KV kvs vs)(k:κ){y:V}{u:Ac}(ry:qJ y u) :
  KV (kvs.map λkv=>if kv.1=k then (kv.1,y) else kv) (vs.map λkv=>if kv.1=k then (kv.1,u) else kv):=by
 unfold KV at r ⊢
 induction r with
 |nil=>exact .nil
 |@cons p q ps qs h t ih =>
  rw[Cf,Cf];refine .cons ?_ ih;obtain⟨h1,h2⟩:=h;by_cases e:p.1=k
  .rw[AA e,AA (h1.symm.trans e)];exact⟨h1,ry⟩
  .rw[AD e,AD (λz=>e (h1.trans z))];exact⟨h1,h2⟩
theorem KV.put {kvs:Aa (κ × V)}{vs:Aa (κ × Ac)}(r:KV kvs vs)(k:κ){y:V}{u:Ac}(ry:qJ y u):KV (wJ kvs k y) (stored vs k u):=by
 unfold wJ stored;rw[r.any k];by_cases e:(vs.any λkv=>decide (kv.1=k))=true
 .rw[AA e,AA e];exact r.repl k ry
 .rw[AD e,AD e];exact Paired.snoc r ⟨rfl,ry⟩
theorem KV.length {kvs:Aa (κ × V)}{vs:Aa (κ × Ac)}(r:KV kvs vs):kvs.length=vs.length:=Paired.length r
end
theorem fT {P:A0}{w:AH}{k:Key}{u:Ac}(r:qJ (kV k) u):(zQ P w).is k u=true:=by
 cases k with
 |inl i=>obtain⟨t,e⟩:=(show ∃ t,u=DZ i t from r);subst e;exact nE P w i t
 |inr x=>obtain⟨t,e⟩:=(show ∃ t,u=IR x t from r);subst e;exact nF P w x t
theorem fB {P:A0}{w:AH}:∀ {ks:Aa Key} {us:Aa Ac},qK (ks.map kV) us->ItemsAre (zQ P w) ks us
 |[],_,r=>by rw[Ip] at r;cases r;exact .nil
 |k::ks,_,r=>by
  rw[Cf] at r;cases r with
  |cons h t=>exact .cons (fT h) (fB t)
abbrev KT (H:Hp):Aa (Aa Key × V)->Aa (Aa Key × Ad × Ac)->Prop:=Paired λp q=>p.1=q.1/\H q.2.1=Ab (.tup (p.1.map kV))/\qJ p.2 q.2.2
theorem KT.val {H:Hp}(r:KT H kvs xs)(k:Aa Key):jR (vF kvs k) ((L3 xs k).map (·.2)):=by
 induction r with
 |nil=>exact D5
 |@cons p q ps qs h t ih =>
  obtain⟨h1,_,h2⟩:=h;by_cases e:p.1=k
  .have e':q.1=k:=h1.symm.trans e
   have b:L3 (q::qs) k=Ab q.2:=by simp[L3,Hb,e']
   rw[n6 e,b];exact h2
  .have e':¬ q.1=k:=λz=>e (h1.trans z)
   have b:L3 (q::qs) k=L3 qs k:=by simp[L3,Hb,e']
   rw[tZ e,b];exact ih
theorem KT.repl {H:Hp}(r:KT H kvs xs)(k:Aa Key){y:V}{u:Ac}(ry:qJ y u) :
  KT H (kvs.map λkv=>if kv.1=k then (kv.1,y) else kv) (xs.map (putAt k u)):=by
 induction r with
 |nil=>exact .nil
 |@cons p q ps qs h t ih =>
  rw[Cf,Cf];refine .cons ?_ ih;obtain⟨h1,h2,h3⟩:=h;unfold putAt;by_cases e:p.1=k
  .rw[AA e,AA (h1.symm.trans e)];exact⟨h1,h2,ry⟩
  .rw[AD e,AD (λz=>e (h1.trans z))];exact⟨h1,h2,h3⟩
theorem KT.put {H:Hp}(r:KT H kvs xs)(k:Aa Key){b:Ad}{y:V}{u:Ac}(hb:H b=Ab (.tup (k.map kV)))(ry:qJ y u) :
  KT H (wJ kvs k y) (storedH xs k b u):=by
 have e:(kvs.any λkv=>decide (kv.1=k))=(L3 xs k).isSome:=by
  rw[tY,(r.val k).isSome_eq,Option.isSome_map]
 unfold wJ storedH;rw[e];by_cases q:(L3 xs k).isSome=true
 .rw[AA q,AA q];exact r.repl k ry
 .rw[AD q,AD q];exact Paired.snoc r ⟨rfl,hb,ry⟩
theorem KT.keeps {H:Hp}(r:KT H kvs xs)(ht:∀ b ys,H b=Ab (.tup ys)->H' b=Ab (.tup ys)):KT H' kvs xs:=
 Paired.mapP r λ_ _ z=>⟨z.1,ht _ _ z.2.1,z.2.2⟩
section
variable {P:A0}{w:AH}{H:Hp}{h:A8}{a:Ad}
theorem QV {u:HO}(ok:HOk P w H h)(e:Rd H a u):qY P w H h a u:=e.ok ok
theorem GO {kvs:Aa (Key × V)}(ok:HOk P w H h)(e:Rd H a (.dK kvs)):kvs.length<=sizeLine/\(a == Ei)=false/\∃ vs,KV kvs vs/\h.DictOf (zQ P w) a vs:=
 show qY P w H h a (.dK kvs) from QV ok e
theorem GN {kvs:Aa (Key × V)}(ok:HOk P w H h)(e:H a=Ab (.dK kvs)):kvs.length<=sizeLine/\(a == Ei)=false/\∃ vs,KV kvs vs/\h.DictOf (zQ P w) a vs:=GO ok (.inl e)
theorem eA {ks:Aa Key}(ok:HOk P w H h)(e:H a=Ab (.tup (ks.map kV))):(IT (zQ P w)).is h ks a:=by
 obtain⟨_,its,r,o,h1,h2,n,h3⟩:=(show qY P w H h a (.tup (ks.map kV)) from ok a _ e)
 exact⟨o,its.toArray,n,h1,h2,h3,by simpa using fB r⟩
theorem GR (ok:HOk P w H h)(e:Rd H a (.dT kvs)):kvs.length<=sizeLine/\(a == Ei)=false /\
  ∃ xs,KT H kvs xs/\h.DictOfH (IT (zQ P w)) a xs:=by
 obtain⟨z,y,xs,r,o,es,ep,h1,h2,h3,h4,h5⟩:=(show qY P w H h a (.dT kvs) from QV ok e)
 refine⟨z,y,xs,r,o,es,ep,h1,h2,h3,h4,λx hx=>?_,h5⟩;have all:∀ {l:Aa (Aa Key × V)} {m:Aa (Aa Key × Ad × Ac)},KT H l m->∀ x∈m,(IT (zQ P w)).is h x.1 x.2.1:=by
  intro l m q
  induction q with
  |nil=>intro x hx;exact nomatch hx
  |@cons p q ps qs hq t ih =>
   intro x hx;rcases AR.mp hx with e|hx
   .subst e
    exact eA ok (by rw[<- hq.1];exact hq.2.1)
   .exact ih x hx
 exact all r x hx
theorem GQ (ok:HOk P w H h)(e:H a=Ab (.dT kvs)):kvs.length<=sizeLine/\(a == Ei)=false /\
  ∃ xs,KT H kvs xs/\h.DictOfH (IT (zQ P w)) a xs:=GR ok (.inl e)
end
def d7 (H:Hp)(a:Ad)(y:V)(r:Ak V):Prop:=
 (∃ kvs k,Rd H a (.dK kvs)/\y=kV k/\r=vF kvs k)\/∃ kvs k b,Rd H a (.dT kvs)/\y=.ref b/\H b=Ab (.tup (k.map kV))/\r=vF kvs k
def pL (H:Hp)(a:Ad)(y v:V)(H':Hp):Prop:=
 (∃ kvs k,H a=Ab (.dK kvs)/\y=kV k/\kvs.length<sizeLine/\H'=upd H a (.dK (wJ kvs k v))) \/
 ∃ kvs k b,H a=Ab (.dT kvs)/\y=.ref b/\H b=Ab (.tup (k.map kV))/\kvs.length<sizeLine/\H'=upd H a (.dT (wJ kvs k v))
theorem d7.k {H:Hp}{a:Ad}{kvs:Aa (Key × V)}{k:Key}(e:H a=Ab (.dK kvs)):d7 H a (kV k) (vF kvs k):=.inl ⟨kvs,k,.inl e,rfl,rfl⟩
theorem d7.t {H:Hp}{a b:Ad}{k:Aa Key}(e:H a=Ab (.dT kvs))(eb:H b=Ab (.tup (k.map kV))):d7 H a (.ref b) (vF kvs k):=.inr ⟨kvs,k,b,.inl e,rfl,eb,rfl⟩
theorem pL.k {H:Hp}{a:Ad}{kvs:Aa (Key × V)}{k:Key}{v:V}(e:H a=Ab (.dK kvs))(hl:kvs.length<sizeLine):pL H a (kV k) v (upd H a (.dK (wJ kvs k v))):=.inl ⟨kvs,k,e,rfl,hl,rfl⟩
theorem pL.t {H:Hp}{a b:Ad}{k:Aa Key}{v:V}(e:H a=Ab (.dT kvs))(eb:H b=Ab (.tup (k.map kV)))(hl:kvs.length<sizeLine) :
  pL H a (.ref b) v (upd H a (.dT (wJ kvs k v))):=.inr ⟨kvs,k,b,e,rfl,eb,hl,rfl⟩
section
variable {X:Cx}{pins:Aa (Ad × AL)}{σ : St}{H:Hp}{s:Af}{a:Ad}{y v:V}{u r:Ac}{o:Ak V}{A:AF}{E:Ac->Af->Prop}
theorem Inv.big (I:Inv X pins σ H s):Ei<s.heap.objs.size:=by
 have h:AM<s.heap.objs.size:=(I.mod.glob.keeps I.bk).lt;exact EJ (by decide) h
theorem nW {h':A8}{t':Aj}{ob:HO}(I:Inv X pins σ H s)(mu:Mut (H a))(hs:CN a s.heap h')(he:∃ q,h'.get? a=Ab q)(new:qY X.prog X.w (upd H a ob) h' a ob) :
  Inv X pins σ (upd H a ob) { s with heap:=h',toks:=t' }:=
 I.write (x:=a) (e:=a) mu (.inl rfl) (λb q hb z=>(hs.2 b hb).trans z) he new
theorem VF {P:A0}{w:AH}{h':A8}{kvs:Aa (Key × V)}{vs:Aa (Key × Ac)}(z:kvs.length<=sizeLine)(hd:(a == Ei)=false)(rel:KV kvs vs)(dd:h'.DictOf (zQ P w) a vs) :
  qY P w H' h' a (.dK kvs):=⟨z,hd,vs,rel,dd⟩
theorem rE {Q:Ho->Af->Prop}(hu:A.units+1<D3)(I:Inv X pins σ H s)(g:pL H a y v H')(ry:qJ y u)(rv:qJ v r)(h:∀ s',Inv X pins σ H' s'->Q () s') :
  Ao (Aq X.prog X.w) A (Nm (.ref a) u r) Q E s:=by
 rcases g with⟨kvs,k,e,ey,l,eH⟩|⟨kvs,k,b,e,ey,eb,l,eH⟩
 .subst ey eH
  obtain⟨z,hd,vs,rel,dd⟩:=GN I.hok e;have hz:vs.length<=sizeLine:=by rw[<- rel.length];exact z
  have hl:(wJ kvs k v).length<=sizeLine:=by have:=kZ kvs k v;lia
  refine wpAny_setItem_pairs (hsz:=hz) (fT ry) dd λh' dd' hs=>h _ ?_;have he:∃ q,h'.get? a=Ab q:=let ⟨q,_,_,hq,_⟩:=dd';⟨q,hq⟩
  exact nW I (by rw[e];exact D5) hs he (VF hl hd (rel.put k rv) dd')
 .subst ey eH
  cases (show u=AN b from ry)
  obtain⟨z,hd,xs,rel,dd⟩:=GQ I.hok e;have hz:xs.length<=sizeLine:=by rw[<- Paired.length rel];exact z
  have hl:(wJ kvs k v).length<=sizeLine:=by have:=kZ kvs k v;lia
  refine wpAny_setItem_heap (hsz:=hz) (tupleKind_room_in1 hu) (eA I.hok eb) dd λh' dd' hs=>h _ ?_;obtain⟨q,es,ep,hq,h2,h3,h4,_,h5⟩:=dd';refine nW I (by rw[e];exact D5) hs ⟨q,hq⟩ ⟨hl,hd,_,(rel.put k eb rv).keeps λc ys ec=>?_,q,es,ep,hq,h2,h3,h4,h5⟩
  rw[qH (PF ec e (λz=>nomatch z))];exact ec
end
theorem aP {P:A0}{w:AH}{H:Hp}(h:A8)(hb:Ei<h.objs.size):qY P w H (h.push { cls:=.type "dict",data:=.dict #[] }) h.objs.size (.dK []):=
 ⟨Ek _,Hm.mpr (Df (AV hb)),[],.nil,Heap.DictOf.new h⟩
def KE:TE:=λ_ H Q=>∀ p,H p=none->Q (.ref p) (upd H p (.dK []))
section
variable {X:Cx}{pos:CD}
theorem iY:PE X (.Dict [] [] pos) KE:=λpins s σ H Q I h =>
 wpAny_Dict_empty ⟨.ref s.heap.objs.size,_,I.laid (a:=s.heap.objs.size) (o:=.dK []) (t':=s.toks) (λ_ _ q=>Ai _ q) (Ar _) (aP s.heap I.big),rfl,h _ (I.hok.fresh (Ar _))⟩
end
end _L
namespace _A
open PySem PySem.W PySem.Calls PyProof.Rows
theorem gY {P:Params}{h:A8}:∀ (ns:Aa Am) (vs:Aa Ac),WellAll P h vs (ns.map Oc)->HD vs ns:=by
 intro ns
 induction ns with
 |nil =>
  intro vs w;rw[Ip] at w;cases w;exact .nil
 |cons n ns ih =>
  intro vs w;rw[Cf] at w;cases w with
  |cons a b =>
   cases a;exact .cons _ _ (ih _ b)
theorem cB {l:OpenLaw}{n:Aj}(hn:l.most=Ab n){P:Params}{h:A8}{args:Aa WData}{vals:Aa Ac}
  (hpre:l.row.toRowW.claim.pre args=true) (hwl:WellAll P h vals args) :
  ∃ a vs ns,vals=[AN a]/\args=[WData.list (ns.map Oc)]/\h.get? a=Ab { cls:=.type "list",data:=.seq vs.toArray } /\ HD vs ns/\ns.length<=n:=by
 have hsh:WShape.hasAll [] args [.list .int]=true:=(pre_splitW hpre).1;have hc:l.pre.holds [] { args:=args } = true:=(pre_splitW hpre).2;obtain⟨d,r,rfl,h1,h2⟩:=hasAllW_cons hsh;obtain rfl:=hasAllW_nil h2;obtain⟨xs,rfl,h3⟩:=hasW_list h1;obtain⟨ns,rfl⟩:=items_int h3;have hlen:ns.length<=n:=by
  unfold OpenLaw.pre at hc;have h4:(WTm.not (.lt (.lit (.int (n:Am))) (.len (.arg 0)))).holds [] { args:=[.list (ns.map .int)] } = true:=by
   have h4:=(holds_andW hc).1;rw[hn] at h4;exact h4
  have h5:=condW_of h4 (w_not (w_lt w_lit (w_len_list (w_arg rfl))));rw[Az] at h5;refine HZ λq=>?_;have q':(n:Am)<((ns.length:Aj):Am):=by lia
  first
   |(rw[By q'] at h5;exact absurd h5 (by decide))
   |(simp at h5;lia)
 cases hwl with
 |cons w1 w2 =>
  cases w2;cases w1 with
  |list ho hall=>exact⟨_,_,ns,rfl,rfl,ho,gY ns _ hall,hlen⟩
theorem eR (l:OpenLaw)(args:Aa WData):l.row.toRowW.claim.post args (.bool true) args=true:=
 postW_of (r:=l.row.toRowW) (X:=(true == true))
  (show NY [] (.bool true) .bool=true by first|rfl|decide|simp[NY,WShape.arms,WShape.armsAll])
  (show (WTm.eq .res (.lit (.bool true))).value [] { args:=args,res:=Ab (.bool true),after:=args } = Ab (.bool (true == true)) from w_eq_bool (w_res rfl) w_lit) rfl
theorem attach_call {l:OpenLaw}{n:Aj}{q:A0}{loose:Aa An}{XP:(An->Ak Ac)->A8->Prop}{YP:AH->A8->Prop}{d:DefRec}
  (hn:l.most=Ab n) (hdf:d.params.defaults=[])
  (call:∀ (w:AH) (s₀ s₁:Af) (mg mb:An->Ak Ac) (fa:Ad) (o:AL) (pm cd doc:Ac) (a:Ad) (vs:Aa Ac) (ns:Aa Am),
   Ground q loose [] XP w s₀ mg mb s₁.heap->YP w s₁.heap ->
   s₁.heap.get? fa=Ab o->o.data=.func (docDef d.name d.params d.body d.scope pm cd doc)->s₁.heap.CodeRec cd d.name->mg d.name=Ab (.ref fa) ->
   s₁.heap.get? a=Ab { cls:=.type "list",data:=.seq vs.toArray } -> HD vs ns->ns.length<=n->s₁.gens=#[] ->
   D6 (Aq l.prog w) HE (.call (.ref fa) ⟨[.ref a],[]⟩) (λr s'=>r=.ok (.ret (.bool true))/\OldK s₁.heap s'.heap/\s'.os=s₁.os/\Ge s'.gens) s₁) :
  WalkO q loose XP YP l.row.toRowW d [] (λf vs=>Mv f vs):=by
 intro w s₀ s₁ mg mb G Y fa o pm cd doc dV kV ho hd hcd hD hmg hg args vals as hpre hlay hrd hwl hlo;obtain rfl:dV=.none:=Dflts.none hD hdf;obtain rfl:kV=.none:=Dflts.noKw hD;obtain⟨a,vs,ns,rfl,rfl,hobj,hints,hlen⟩:=cB hn hpre hwl;refine enter_call (Hk (call w s₀ s₁ mg mb fa o pm cd doc a vs ns G Y ho (fd_plain hd) hcd hmg hobj hints hlen hg) λr s' hq=>?_);obtain⟨rfl,h2,h3,h4⟩:=hq;exact⟨.inl ⟨.bool true,.bool true,[],rfl,λ_=>rfl,.bool true,eR l _,λ_=>⟨HF,λ_ hm=>(nomatch hm)⟩⟩,h2,h3,h4⟩
end _A
namespace _L
open PySem PySem.Spec PyProof.Rows
theorem cH {vs:Aa Ac}{ns:Aa Am}(h:HD vs ns):qK (ns.map V.int) vs:=by
 induction h with
 |nil=>exact .nil
 |cons n t h ih=>exact .cons ⟨t,rfl⟩ ih
def SqX (K:Ah)(H:Hp)(a:Ad)(xs:Aa V):Prop:=
 Rd H a (.lst xs)\/∃ (its:Aa Ac) (n:Aj),K.lookup a=Ab { cls:=.type "list",data:=.seq its.toArray n } /\ xs.length<=sizeLine/\qK xs its
theorem SqX.l {K:Ah}{H:Hp}{a:Ad}{xs:Aa V}(h:SqX K H a xs):SqL K H a xs:=by
 rcases h with h|⟨its,n,e,l,v⟩
 .exact .inl h
 .exact .inr ⟨_,its.toArray,n,e,rfl,rfl,rfl,by rw[A9,<- v.length];exact l,by simpa using v⟩
end _L
namespace _L
open PySem PySem.Spec PyProof.Rows
variable {ps:Aa An}{f:Ad}{x qual:An}{H:Hp}
noncomputable def xU (s:Ca):Ha:=match s with
 |.FunctionDef _ a _ _ _ _ _ _ _ _=>a
 |_=>{ posonlyargs:=[],args:=[],vararg:=none,kwonlyargs:=[],kw_defaults:=[],kwarg:=none,defaults:=[] }
noncomputable def zB (s:Ca):Aa Ca:=match s with
 |.FunctionDef _ _ b _ _ _ _ _ _ _=>b
 |_=>[]
noncomputable def qG (s:Ca):Bu:=match s with
 |.FunctionDef _ _ _ _ _ _ sc _ _ _=>sc
 |_=>{ kind:=.function,names:=[],isGenerator:=false,isCoroutine:=false }
abbrev CX0:CXT:=λ_ _ _ _ _ _=>Cp
structure Fun (K:Ah)(x qual:An)(st:Ca)(f:Ad)(fd:CF):Prop where
 ex:∃ (oc:Ac) (od:Ak Ad) (kV doc pm:Ac) (an:Ak Ad) (cdv ct:Ac) (osl:A6 (Ak Ac)),
  fd=Dd x qual (xU st) (zB st) (qG st) .none kV doc pm an cdv ct/\K.lookup f=Ab ⟨oc,od,.func fd,osl⟩/\EG K cdv qual=true
 kp:Bz K (.ref f)=true
section
variable {P:A0}{w:AH}{K:Ah}{mg:An->Ak Ac}{base:A8}
theorem Fun.ok {st:Ca}{fd:CF}{N:Aa An}{k:Aj}{sp:Sp}(F:Fun K x qual st f fd)(S:FnScope N ps (qG st))(len:∀ vs H Q E,sp vs H Q E->vs.length=ps.length)
  (hbody:∀ (cdv:Ac) (A:AF) (outer:Aa DD) (s:Af) (H:Hp) (vs:Aa V) (Q:VK) (E:XK),Room k (A.deeper (CY qual (qG st) s.heap.objs.size f cdv))->sp vs H Q E ->
   ∃ t,PSs (pW CX0 P w K mg base N qual (qG st) f cdv A outer s H E).nox (zB st) t/\t { nx:=λ_ H'=>Q .non H',rt:=Q } (x6 N vs) H):FnOk P w K mg base CX0 (k+1) f fd ps sp:=by
 obtain⟨oc,od,kV,doc,pm,an,cdv,ct,osl,rfl,lk,hcd⟩:=F.ex;refine GV lk hcd S len λA outer s H vs Q E hr hsp=>?_;obtain⟨t,h,q⟩:=hbody cdv A outer s H vs Q E hr hsp;exact⟨t,h.nox,q⟩
theorem Fun.binds {st:Ca}{fd:CF}(F:Fun K x qual st f fd)
  (h:∀ (kV doc pm:Ac) (an:Ak Ad) (cdv ct:Ac) (us:Aa Ac),us.length=ps.length->IG (Dd x qual (xU st) (zB st) (qG st) .none kV doc pm an cdv ct) ⟨us,[]⟩=pure (ps.zip us)):wC K fd ps []:=by
 obtain⟨oc,od,kV,doc,pm,an,cdv,ct,osl,rfl,lk,hcd⟩:=F.ex;exact .all (h kV doc pm an cdv ct)
theorem VZ {st:Ca}{oc:Ac}{od an:Ak Ad}{osl:A6 (Ak Ac)}{kV doc pm cdv ct:Ac}(l:K.lookup f=Ab ⟨oc,od,.func (Dd x qual (xU st) (zB st) (qG st) .none kV doc pm an cdv ct),osl⟩)
  (c:EG K cdv qual=true) (k:Bz K (.ref f)=true):Fun K x qual st f (Dd x qual (xU st) (zB st) (qG st) .none kV doc pm an cdv ct):=⟨⟨oc,od,kV,doc,pm,an,cdv,ct,osl,rfl,l,c⟩,k⟩
end
def qF (H H':Hp):Prop:=∀ b o,H b=Ab o->H' b=Ab o
theorem qF.refl (H:Hp):qF H H:=λ_ _ h=>h
theorem qF.trans {H1 H2:Hp}(a:qF H H1)(b:qF H1 H2):qF H H2:=λc o h=>b c o (a c o h)
theorem qF.free {H':Hp}(e:qF H H'){l:Ad}(h:H' l=NU):H l=NU:=by
 cases q:H l with
 |none=>rfl
 |some o =>
  rw[e l o q] at h;cases h
theorem qF.seq {K:Ah}{H':Hp}{a:Ad}{xs:Aa V}(e:qF H H')(h:SqL K H a xs):SqL K H' a xs:=by
 rcases h with (h|⟨o,h⟩)|h
 .exact .inl (.inl (e _ _ h))
 .exact .inl (.inr ⟨o,e _ _ h⟩)
 .exact .inr h
end _L
end
section
namespace _D
open PySem PySem.Spec PyProof.Rows _L
inductive D where
 |non|bl (b:Ap)|int (i:Am)|str (x:An)|ty (n:Bg)|obj (a:Ad)|tup (xs:Aa D)|lst (xs:Aa D)|dct0|loc (i:Aj)|exn (c:Ac)|fd (ks:Aa Key) (ds:Aa D)|clo (a:Ad) (vs:Aa V) (ds:Aa D)
noncomputable def mT (a:Ad)(c:Ac):HO:=.ext λh=>∃ ob,h.get? a=Ab ob/\ob.cls=c
inductive MO where
 |dead|lst (xs:Aa D)|dct (kvs:Aa (Key × D))|ins (C:Ad) (fs:Aa (An × D))
abbrev Sto:=Aa MO
inductive Res (β : Type) where
 |ok (d:β) (S:Sto)|ex (c:Ac) (x:D) (S:Sto)|bad
@[inline] def Res.bind {β γ:Type}(r:Res β)(f:β->Sto->Res γ) : Res γ:=
 match r with
 |.ok d S=>f d S
 |.ex c x S=>.ex c x S
 |.bad=>.bad
theorem Res.bind_ok {β γ:Type}(d:β)(S:Sto)(f:β->Sto->Res γ) : (Res.ok d S).bind f=f d S:=rfl
section
variable (K:Ah)(P:Hp)(α : Aa Ad)
mutual
def Rep:D->V->Prop
 |.non,v=>v=.non
 |.bl b,v=>v=.bl b
 |.int i,v=>v=.int i
 |.str x,v=>v=.str x
 |.ty n,v=>v=.ty n
 |.obj a,v=>v=.ref a/\Bz K (.ref a)=true
 |.tup ds,v=>∃ a vs,v=.ref a/\SqT K P a vs/\qD ds vs
 |.lst ds,v=>∃ a vs,v=.ref a/\SqX K P a vs/\qD ds vs
 |.dct0,v=>∃ a,v=.ref a/\P a=Ab (.dK [])
 |.loc i,v=>∃ a,v=.ref a/\α[i]? = Ab a
 |.exn c,v=>∃ a,v=.ref a/\P a=Ab (mT a c)
 |.fd ks ds,v=>∃ a o vs,v=.ref a/\P a=Ab (.frz o (.dK (ks.zip vs)))/\ks.length=vs.length/\qD ds vs
 |.clo a vs ds,v=>v=.ref a/\qD ds vs
def qD:Aa D->Aa V->Prop
 |[],vs=>vs=[]
 |d::ds,vs=>∃ w ws,vs=w::ws/\Rep d w/\qD ds ws
end
end
section
variable {K:Ah}{P P':Hp}{α α':Aa Ad}
theorem w9 (e:qF P P'){a:Ad}{xs:Aa V}(h:SqT K P a xs):SqT K P' a xs:=by
 rcases h with (h|⟨o,h⟩)|h
 .exact .inl (.inl (e _ _ h))
 .exact .inl (.inr ⟨o,e _ _ h⟩)
 .exact .inr h
theorem lK (e:qF P P'){a:Ad}{u:HO}(h:Rd P a u):Rd P' a u:=by
 rcases h with h|⟨o,h⟩
 .exact .inl (e _ _ h)
 .exact .inr ⟨o,e _ _ h⟩
theorem xA (e:qF P P'){a:Ad}{xs:Aa V}(h:SqX K P a xs):SqX K P' a xs:=by
 rcases h with h|h
 .exact .inl (lK e h)
 .exact .inr h
theorem kP {i:Aj}{a:Ad}(h:α<+:α')(e:α[i]? = Ab a):α'[i]? = Ab a:=by
 obtain⟨r,rfl⟩:=h;rw[AY (AO.mp e).1];exact e
mutual
theorem Rep.mono (e:qF P P')(h:α<+:α'):∀ (d:D) (v:V),Rep K P α d v->Rep K P' α' d v
 |.non,_,r=>by simpa only [Rep] using r
 |.bl _,_,r=>by simpa only [Rep] using r
 |.int _,_,r=>by simpa only [Rep] using r
 |.str _,_,r=>by simpa only [Rep] using r
 |.ty _,_,r=>by simpa only [Rep] using r
 |.obj _,_,r=>by simpa only [Rep] using r
 |.tup ds,v,r=>by
  simp only[Rep] at r ⊢;obtain⟨a,vs,rfl,q,t⟩:=r;exact⟨a,vs,rfl,w9 e q,qD.mono e h ds vs t⟩
 |.lst ds,v,r=>by
  simp only[Rep] at r ⊢;obtain⟨a,vs,rfl,q,t⟩:=r;exact⟨a,vs,rfl,xA e q,qD.mono e h ds vs t⟩
 |.dct0,v,r=>by
  simp only[Rep] at r ⊢;obtain⟨a,rfl,q⟩:=r;exact⟨a,rfl,e _ _ q⟩
 |.loc i,v,r=>by
  simp only[Rep] at r ⊢;obtain⟨a,rfl,q⟩:=r;exact⟨a,rfl,kP h q⟩
 |.exn c,v,r=>by
  simp only[Rep] at r ⊢;obtain⟨a,rfl,q⟩:=r;exact⟨a,rfl,e _ _ q⟩
 |.fd ks ds,v,r=>by
  simp only[Rep] at r ⊢;obtain⟨a,o,vs,rfl,q,hl,t⟩:=r;exact⟨a,o,vs,rfl,e _ _ q,hl,qD.mono e h ds vs t⟩
 |.clo a vs ds,v,r=>by
  simp only[Rep] at r ⊢;exact⟨r.1,qD.mono e h ds vs r.2⟩
theorem qD.mono (e:qF P P')(h:α<+:α'):∀ (ds:Aa D) (vs:Aa V),qD K P α ds vs->qD K P' α' ds vs
 |[],vs,r=>by simpa only [qD] using r
 |d::ds,vs,r=>by
  simp only[qD] at r ⊢;obtain⟨w,ws,rfl,r1,r2⟩:=r;exact⟨w,ws,rfl,Rep.mono e h d w r1,qD.mono e h ds ws r2⟩
end
theorem qD.nil:qD K P α [] []:=by simp only[qD]
theorem qD.cons {d:D}{v:V}{ds:Aa D}{vs:Aa V}(r:Rep K P α d v)(t:qD K P α ds vs):qD K P α (d::ds) (v::vs):=by
 simp only[qD];exact⟨v,vs,rfl,r,t⟩
theorem qD.nil_inv {vs:Aa V}(r:qD K P α [] vs):vs=[]:=by simpa only [qD] using r
theorem qD.cons_inv {d:D}{ds:Aa D}{vs:Aa V}(r:qD K P α (d::ds) vs):∃ w ws,vs=w::ws/\Rep K P α d w/\qD K P α ds ws:=by simpa only [qD] using r
theorem qD.length:∀ {ds:Aa D} {vs:Aa V},qD K P α ds vs->ds.length=vs.length
 |[],vs,r=>by rw[r.nil_inv];rfl
 |d::ds,vs,r=>by
  obtain⟨w,ws,rfl,_,t⟩:=r.cons_inv;rw[AG,AG,t.length]
theorem qD.append:∀ {ds es:Aa D} {vs ws:Aa V},qD K P α ds vs->qD K P α es ws->qD K P α (ds++es) (vs++ws)
 |[],es,vs,ws,r,t=>by rw[r.nil_inv];exact t
 |d::ds,es,vs,ws,r,t=>by
  obtain⟨w,us,rfl,r1,r2⟩:=r.cons_inv;exact .cons r1 (r2.append t)
theorem qD.get:∀ {ds:Aa D} {vs:Aa V} {i:Aj} {d:D},qD K P α ds vs->ds[i]? = Ab d->∃ v,vs[i]? = Ab v/\Rep K P α d v
 |[],_,_,_,_,e=>by simp at e
 |d::ds,vs,i,d',r,e=>by
  obtain⟨w,ws,rfl,r1,r2⟩:=r.cons_inv;cases i with
  |zero=>simp at e;subst e;exact⟨w,rfl,r1⟩
  |succ i =>
   obtain⟨v,h1,h2⟩:=r2.get (i:=i) (d:=d') (by simpa using e)
   exact⟨v,by simpa using h1,h2⟩
theorem qD.drop:∀ {ds:Aa D} {vs:Aa V} (n:Aj),qD K P α ds vs->qD K P α (ds.drop n) (vs.drop n)
 |ds,vs,0,r=>by simpa using r
 |[],vs,n+1,r=>by rw[r.nil_inv];exact .nil
 |d::ds,vs,n+1,r=>by
  obtain⟨w,ws,rfl,_,r2⟩:=r.cons_inv;simpa using r2.drop n
theorem qD.take:∀ {ds:Aa D} {vs:Aa V} (n:Aj),qD K P α ds vs->qD K P α (ds.take n) (vs.take n)
 |ds,vs,0,r=>by simpa using qD.nil
 |[],vs,n+1,r=>by rw[r.nil_inv];exact .nil
 |d::ds,vs,n+1,r=>by
  obtain⟨w,ws,rfl,r1,r2⟩:=r.cons_inv;simpa using qD.cons r1 (r2.take n)
theorem qD.set {d:D}{v:V}(q:Rep K P α d v):∀ {ds:Aa D} {vs:Aa V} (n:Aj),qD K P α ds vs->qD K P α (ds.set n d) (vs.set n v)
 |[],vs,n,r=>by rw[r.nil_inv];exact .nil
 |e::ds,vs,0,r=>by
  obtain⟨w,ws,rfl,r1,r2⟩:=r.cons_inv;exact .cons q r2
 |e::ds,vs,n+1,r=>by
  obtain⟨w,ws,rfl,r1,r2⟩:=r.cons_inv;exact .cons r1 (r2.set q n)
end
abbrev qE:=Aa (Ak D)
def qS (K:Ah)(P:Hp)(α : Aa Ad)(σ : _L.St)(env:qE):Prop:=env.length=σ.length/\∀ (i:Aj) (d:D),env[i]? = Ab (Ab d)->∃ v,σ[i]? = Ab (Ab v)/\Rep K P α d v
def KVs (K:Ah)(P:Hp)(α : Aa Ad){κ : Type}:Aa (κ × D)->Aa (κ × V)->Prop:=Paired λ(p:κ × D) (q:κ × V)=>p.1=q.1/\Rep K P α p.2 q.2
def MOk (K:Ah)(H P:Hp)(α : Aa Ad)(a:Ad):MO->Prop
 |.dead=>Fy
 |.lst ds=>∃ vs,H a=Ab (.lst vs)/\qD K P α ds vs
 |.dct kvs=>∃ vs,H a=Ab (.dK vs)/\KVs K P α kvs vs
 |.ins C fs=>∃ dx vs,H a=Ab (.ins C dx vs)/\KVs K P α fs vs
inductive TbAt (x:An)(H P:Hp)(α : Aa Ad)(T:Ad):Prop
 |mk (ps:A6 Ac) (e:H T=Ab (.tbl ps)) (pn:P T=none) (an:T ∉ α) (ok:EU ps.toList) (cd:∀ pos cv,Hc pos ps.toList=Ab cv->∃ c oc vs t,cv=.ref c/\H c=Ab (.frz oc (.frz oc (.own 0)))/\oc.data=.fields vs/\vs[1]? = Ab (.str (x ++ ".<locals>." ++ "<lambda>") t)):TbAt x H P α T
def d9 (K:Ah)(H P:Hp)(α : Aa Ad):Prop:=∀ x∈xH,∀ c T,Bb K x=Ab (c,T)->TbAt x H P α T
def U3 (u:HO):Prop:=(∃ ps,u=.tbl ps)\/∃ o,u=.frz o (.frz o (.own 0))
theorem d9.keep {K:Ah}{H H' P P':Hp}{α α':Aa Ad}(r:d9 K H P α)(e:∀ b u,H b=Ab u->U3 u->H' b=Ab u)(hp:∀ b u,H b=Ab u->U3 u->P b=none->b ∉ α->P' b=none/\b ∉ α'):d9 K H' P' α':=λx hx c T h =>
 let ⟨ps,e1,pn,an,ok,cd⟩:=r x hx c T h
 let z:=hp _ _ e1 (.inl ⟨_,rfl⟩) pn an
 ⟨ps,e _ _ e1 (.inl ⟨_,rfl⟩),z.1,z.2,ok,λpos cv q=>let ⟨c,oc,vs,t,a,b,d⟩:=cd pos cv q;⟨c,oc,vs,t,a,e _ _ b (.inr ⟨_,rfl⟩),d⟩⟩
structure Rel (K:Ah)(H P:Hp)(α : Aa Ad)(S:Sto):Prop where
 tb:d9 K H P α
 sub:qF P H
 len:α.length=S.length
 nd:α.Nodup
 sep:∀ (i:Aj) (a:Ad) (o:MO),α[i]? = Ab a->S[i]? = Ab o->o≠.dead->P a=none
 at':∀ (i:Aj) (a:Ad) (o:MO),α[i]? = Ab a->S[i]? = Ab o->MOk K H P α a o
 own:∀ (i:Aj) (a:Ad),α[i]? = Ab a->H a≠none
section
variable {K:Ah}{H P P':Hp}{α α':Aa Ad}{S:Sto}
theorem qS.mono {σ : _L.St}{env:qE}(e:qF P P')(h:α<+:α')(r:qS K P α σ env):qS K P' α' σ env:=
 ⟨r.1,λi d q=>let ⟨v,h1,h2⟩:=r.2 i d q;⟨v,h1,Rep.mono e h d v h2⟩⟩
theorem KVs.mono {κ : Type}(e:qF P P')(h:α<+:α'){kvs:Aa (κ × D)}{vs:Aa (κ × V)}(r:KVs K P α kvs vs):KVs K P' α' kvs vs:=by
 refine Paired.mapP r λp q z=>⟨z.1,Rep.mono e h _ _ z.2⟩
theorem MOk.mono {a:Ad}(e:qF P P')(h:α<+:α'):∀ {o:MO},MOk K H P α a o->MOk K H P' α' a o
 |.dead,_=>trivial
 |.lst _,⟨vs,q,r⟩=>⟨vs,q,qD.mono e h _ _ r⟩
 |.dct _,⟨vs,q,r⟩=>⟨vs,q,r.mono e h⟩
 |.ins _ _,⟨dx,vs,q,r⟩=>⟨dx,vs,q,r.mono e h⟩
theorem Rel.grow {H':Hp}(r:Rel K H P α S)(e:qF H H'):Rel K H' P α S where
 tb:=r.tb.keep (λb u q _=>e _ _ q) λ_ _ _ _ p n=>⟨p,n⟩
 sub:=r.sub.trans e
 len:=r.len
 nd:=r.nd
 sep:=r.sep
 at':=λi a o q1 q2=>by
  have m:=r.at' i a o q1 q2;cases o with
  |dead=>trivial
  |lst ds=>obtain⟨vs,q,t⟩:=m;exact⟨vs,e _ _ q,t⟩
  |dct kvs=>obtain⟨vs,q,t⟩:=m;exact⟨vs,e _ _ q,t⟩
  |ins C fs=>obtain⟨dx,vs,q,t⟩:=m;exact⟨dx,vs,e _ _ q,t⟩
 own:=λi a q=>by
  have m:=r.own i a q;cases z:H a with
  |none=>exact absurd z m
  |some o=>rw[e _ _ z];intro w;cases w
theorem gN {H:Hp}{a:Ad}{o:HO}(h:H a=none):qF H (upd H a o):=λb u e=>by rw[qH (qM e h)];exact e
theorem Rel.pure {a:Ad}{o:HO}(r:Rel K H P α S)(h:H a=none):Rel K (upd H a o) (upd P a o) α S/\qF P (upd P a o):=by
 have hP:P a=none:=by
  cases z:P a with
  |none=>rfl
  |some u=>rw[r.sub _ _ z] at h;cases h
 have sP:qF P (upd P a o):=gN hP;have r1:=r.grow (gN (o:=o) h);refine⟨⟨r.tb.keep (λb u q _=>(qH (qM q h)).trans q) λb u q _ p n=>⟨(qH (qM q h)).trans p,n⟩,λb u e=>?_,r.len,r.nd,λi b u q1 q2 q3=>?_,λi b u q1 q2=>(r1.at' i b u q1 q2).mono sP (A3 _),r1.own⟩,sP⟩
 .by_cases hb:b=a
  .subst hb;rw[qR] at e ⊢;exact e
  .rw[qH hb] at e ⊢;exact r.sub _ _ e
 .have hb:b≠a:=by rintro rfl;exact r.own i b q1 h
  rw[qH hb];exact r.sep i b u q1 q2 q3
theorem Rel.new {a:Ad}{o:HO}{m:MO}(r:Rel K H P α S)(h:H a=none)(hm:MOk K (upd H a o) P (α ++ [a]) a m):Rel K (upd H a o) P (α ++ [a]) (S++[m]):=by
 have hP:P a=none:=by
  cases z:P a with
  |none=>rfl
  |some u=>rw[r.sub _ _ z] at h;cases h
 have r1:=r.grow (gN (o:=o) h);have hp:α<+:α++[a]:=Eu _ _;have split:∀ (i:Aj) (b:Ad),(α++[a])[i]? = Ab b->(i<α.length/\α[i]? = Ab b)\/(i=α.length/\b=a):=λi b q=>by
  by_cases hi:i<α.length
  .rw[AY hi] at q;exact .inl ⟨hi,q⟩
  .rw[Bc om] at q
   cases hk:i-α.length with
   |zero=>rw[hk] at q;simp at q;exact .inr ⟨by omega,q.symm⟩
   |succ k=>rw[hk] at q;simp at q
 refine⟨r.tb.keep (λb u q _=>(qH (qM q h)).trans q) λb u q _ p n=>⟨p,λz=>(AX.mp z).elim n λw=>qM q h (by simpa using w)⟩,r1.sub,by simp[r.len],?_,λi b u q1 q2 q3=>?_,λi b u q1 q2=>?_,λi b q=>?_⟩
 .rw[List.nodup_append]
  refine⟨r.nd,by simp,λb hb c hc e=>?_⟩
  simp at hc;subst hc;subst e;obtain⟨i,hi,e⟩:=CT.mp hb;exact r.own i b (by rw[Ax hi,e]) h
 .rcases split i b q1 with⟨hi,z⟩|⟨hi,rfl⟩
  .rw[AY (by rw[<- r.len];exact hi)] at q2
   exact r.sep i b u z q2 q3
  .exact hP
 .rcases split i b q1 with⟨hi,z⟩|⟨hi,rfl⟩
  .rw[AY (by rw[<- r.len];exact hi)] at q2
   exact(r1.at' i b u z q2).mono (qF.refl _) hp
  .rw[hi,r.len,Bc (Ar _)] at q2
   simp at q2;subst q2;exact hm
 .rcases split i b q with⟨_,z⟩|⟨_,rfl⟩
  .exact r1.own i b z
  .rw[qR];intro z;cases z
theorem eJ {N:Aa Ad}(hN:N.Nodup){i j:Aj}{x:Ad}(a:N[i]? = Ab x)(b:N[j]? = Ab x):i=j:=by
 obtain⟨h1,e1⟩:=AO.mp a;obtain⟨h2,e2⟩:=AO.mp b;exact(HV hN).mp (e1.trans e2.symm)
theorem Rel.put {a:Ad}{i:Aj}{o:HO}{m m':MO}(r:Rel K H P α S)(ha:α[i]? = Ab a)(hs:S[i]? = Ab m)(hd:m≠.dead)(hm:MOk K (upd H a o) P α a m'):Rel K (upd H a o) P α (S.set i m'):=by
 have hP:=r.sep i a m ha hs hd;have hi:i<S.length:=(AO.mp hs).1;refine⟨r.tb.keep (λb u q hu=>?_) λ_ _ _ _ p n=>⟨p,n⟩,λb u e=>?_,by simp[r.len],r.nd,λj b u q1 q2 q3=>?_,λj b u q1 q2=>?_,λj b q=>?_⟩
 .refine(qH ?_).trans q
  rintro rfl;have z:=r.at' i _ m ha hs;cases m with
  |dead=>exact hd rfl
  |lst ds=>obtain⟨vs,z,_⟩:=z;rw[q] at z;rcases hu with⟨_,rfl⟩|⟨_,rfl⟩ <;> cases z
  |dct kvs=>obtain⟨vs,z,_⟩:=z;rw[q] at z;rcases hu with⟨_,rfl⟩|⟨_,rfl⟩ <;> cases z
  |ins C fs=>obtain⟨dx,vs,z,_⟩:=z;rw[q] at z;rcases hu with⟨_,rfl⟩|⟨_,rfl⟩ <;> cases z
 .have hb:b≠a:=by rintro rfl;rw[hP] at e;cases e
  rw[qH hb];exact r.sub _ _ e
 .by_cases hj:j=i
  .subst hj;rw[ha] at q1;cases q1;exact hP
  .rw[Cg (Df hj)] at q2;exact r.sep j b u q1 q2 q3
 .by_cases hj:j=i
  .subst hj;rw[ha] at q1;cases q1
   rw[CW hi] at q2;cases q2;exact hm
  .rw[Cg (Df hj)] at q2
   have hb:b≠a:=by rintro rfl;exact hj (eJ r.nd q1 ha)
   have z:=r.at' j b u q1 q2;cases u with
   |dead=>trivial
   |lst ds=>obtain⟨vs,q,t⟩:=z;exact⟨vs,by rw[qH hb];exact q,t⟩
   |dct kvs=>obtain⟨vs,q,t⟩:=z;exact⟨vs,by rw[qH hb];exact q,t⟩
   |ins C fs=>obtain⟨dx,vs,q,t⟩:=z;exact⟨dx,vs,by rw[qH hb];exact q,t⟩
 .by_cases hb:b=a
  .subst hb;rw[qR];intro z;cases z
  .rw[qH hb];exact r.own j b q
end
theorem nn {β : Type}{a:β}{p:Prop}(h:(none:Ak β) = Ab a):p:=by cases h
theorem uZ {β : Type}{c:Prop}[Em c]{a b:β}(h:(if c then Ab a else none)=Ab b):c/\a=b:=by
 by_cases z:c
 .rw[AA z] at h;exact⟨z,AQ h⟩
 .rw[AD z] at h;exact nn h
end _D
end
namespace _D
open PySem PySem.Spec PyProof.Rows _L
variable {sl:A6 (Ak Ac)}{more:Aa (Ad × AL)}{us args cs:Aa Ac}{body:Aa Ca}{vs:Aa V}{u vv:Ac}{p C:Ad}{od:Ak Ad}{np:CD}{M:EM}{R:It->Hp->Prop}{sp:Sp}{S S1:Sto}{Q:VK}
abbrev DE:=qE->Sto->Res D
abbrev DT:=qE->Sto->Res Ap
abbrev DA:=qE->Sto->Res (Aa D)
inductive Out where
 |nx (env:qE) (S:Sto)|rt (d:D) (S:Sto)|bk (env:qE) (S:Sto)|ct (env:qE) (S:Sto)|ex (c:Ac) (x:D) (env:qE) (S:Sto)|bad
abbrev DS:=qE->Sto->Out
def Old (X:Cx)(pins:Aa (Ad × AL))(H:Hp)(b:Ad):Prop:=
 (∃ o,X.s₀.heap.get? b=Ab o)\/H b≠none\/(∃ p∈X.pn++pins,p.1=b)\/∃ x,X.env.cells.lookup x=Ab b
def Cv (X:Cx)(pins:Aa (Ad × AL))(H:Hp)(B h:A8):Prop:=∀ b o,h.get? b=Ab o->Old X pins H b->b ∉ frs X.stack->B.get? b=Ab o
inductive FlyX (X:Cx)(pins:Aa (Ad × AL))(H:Hp)(c:Ac)(e:Ad)(h:A8):Prop where
 |new (g:A8) (args:Aa Ac):Jg g h e c args->g.FunFrames X.base X.stack->(∀ b o,h.get? b=Ab o->Old X pins H b->g.get? b=Ab o)->FlyX X pins H c e h
 |fly (B:A8) (a0:Ac):Hl B X.stack e c a0 h->Cv X pins H B h->FlyX X pins H c e h
inductive XOk (X:Cx)(P:Hp)(α : Aa Ad)(c:Ac)(x:D)(S:Sto)(u:Ac)(s:Af):Prop
 |mk (e:Ad) (pins:Aa (Ad × AL)) (σ : _L.St) (H:Hp) (P':Hp) (α' : Aa Ad) (e1:u=.ref e) (I:Inv X pins σ H s) (r:Rel X.K H P' α' S) (q1:qF P P') (q2:α<+:α') (q3:X.ex=[]/\X.stack=X.env::X.outer/\X.env.frame=Ab X.env.locals) (q4:FlyX X pins H c e s.heap):XOk X P α c x S u s
theorem XOk.base {X:Cx}{P P1:Hp}{α α1:Aa Ad}{c:Ac}{x:D}{s:Af}(e:qF P P1)(h:α<+:α1)(k:XOk X P1 α1 c x S u s):XOk X P α c x S u s:=by
 obtain⟨a,pins,σ,H,P',α',e1,I,r,q1,q2,q3,q4⟩:=k;exact⟨a,pins,σ,H,P',α',e1,I,r,e.trans q1,h.trans q2,q3,q4⟩
section
variable (X:Cx)
def qI {β:Type}(P:Hp)(α : Aa Ad)(r:Res β)(Ok:β->Sto->Prop):Prop:=
 match r with
 |.ok d S'=>Ok d S'
 |.ex c x S'=>∀ u s',XOk X P α c x S' u s'->X.xe u s'
 |.bad=>Cp
def OkV (P:Hp)(α : Aa Ad)(Q:VK)(d:D)(S':Sto):Prop:=∀ v H' P' α',Rel X.K H' P' α' S'->qF P P'->α<+:α'->Rep X.K P' α' d v->Q v H'
def OkT (P:Hp)(α : Aa Ad)(Q:Ap->Hp->Prop)(b:Ap)(S':Sto):Prop:=∀ H' P' α',Rel X.K H' P' α' S'->qF P P'->α<+:α'->Q b H'
def OkA (P:Hp)(α : Aa Ad)(Q:Aa V->Hp->Prop)(ds:Aa D)(S':Sto):Prop:=∀ vs H' P' α',Rel X.K H' P' α' S'->qF P P'->α<+:α'->qD X.K P' α' ds vs->Q vs H'
abbrev qP (P:Hp)(α : Aa Ad)(r:Res D)(Q:VK):Prop:=qI X P α r (OkV X P α Q)
abbrev u0 (P:Hp)(α : Aa Ad)(r:Res Ap)(Q:Ap->Hp->Prop):Prop:=qI X P α r (OkT X P α Q)
abbrev jQ (P:Hp)(α : Aa Ad)(r:Res (Aa D))(Q:Aa V->Hp->Prop):Prop:=qI X P α r (OkA X P α Q)
def qU (P:Hp)(α : Aa Ad)(r:Out)(D:Ends):Prop:=
 match r with
 |.nx env' S'=>∀ σ' H' P' α',Rel X.K H' P' α' S'->qS X.K P' α' σ' env'->qF P P'->α<+:α'->D.nx σ' H'
 |.bk env' S'=>∀ σ' H' P' α',Rel X.K H' P' α' S'->qS X.K P' α' σ' env'->qF P P'->α<+:α'->D.bk σ' H'
 |.ct env' S'=>∀ σ' H' P' α',Rel X.K H' P' α' S'->qS X.K P' α' σ' env'->qF P P'->α<+:α'->D.ct σ' H'
 |.rt d S'=>∀ v H' P' α',Rel X.K H' P' α' S'->qF P P'->α<+:α'->Rep X.K P' α' d v->D.rt v H'
 |.ex c x _ S'=>∀ u s',XOk X P α c x S' u s'->X.xe u s'
 |.bad=>Cp
inductive tD (f:DE)(σ : _L.St)(H:Hp)(Q:VK):Prop
 |mk (P:Hp) (α : Aa Ad) (env:qE) (S:Sto) (r:Rel X.K H P α S) (re:qS X.K P α σ env) (af:qP X P α (f env S) Q):tD f σ H Q
inductive tDT (f:DT)(σ : _L.St)(H:Hp)(Q:Ap->Hp->Prop):Prop
 |mk (P:Hp) (α : Aa Ad) (env:qE) (S:Sto) (r:Rel X.K H P α S) (re:qS X.K P α σ env) (af:u0 X P α (f env S) Q):tDT f σ H Q
inductive tDA (f:DA)(σ : _L.St)(H:Hp)(Q:Aa V->Hp->Prop):Prop
 |mk (P:Hp) (α : Aa Ad) (env:qE) (S:Sto) (r:Rel X.K H P α S) (re:qS X.K P α σ env) (af:jQ X P α (f env S) Q):tDA f σ H Q
inductive tDS (f:DS)(D:Ends)(σ : _L.St)(H:Hp):Prop
 |mk (P:Hp) (α : Aa Ad) (env:qE) (S:Sto) (r:Rel X.K H P α S) (re:qS X.K P α σ env) (af:qU X P α (f env S) D):tDS f D σ H
end
section
variable {X:Cx}{P P1:Hp}{α α1:Aa Ad}
theorem qP.base {r:Res D}(e:qF P P1)(h:α<+:α1)(k:qP X P α r Q):qP X P1 α1 r Q:=by
 cases r with
 |ok d S=>exact λv H' P' α' r q1 q2 q3=>k v H' P' α' r (e.trans q1) (h.trans q2) q3
 |ex c x S=>exact λu s' q=>k u s' (q.base e h)
 |bad=>exact k
theorem u0.base {r:Res Ap}{Q:Ap->Hp->Prop}(e:qF P P1)(h:α<+:α1)(k:u0 X P α r Q):u0 X P1 α1 r Q:=by
 cases r with
 |ok d S=>exact λH' P' α' r q1 q2=>k H' P' α' r (e.trans q1) (h.trans q2)
 |ex c x S=>exact λu s' q=>k u s' (q.base e h)
 |bad=>exact k
theorem jQ.base {r:Res (Aa D)}{Q:Aa V->Hp->Prop}(e:qF P P1)(h:α<+:α1)(k:jQ X P α r Q):jQ X P1 α1 r Q:=by
 cases r with
 |ok d S=>exact λv H' P' α' r q1 q2 q3=>k v H' P' α' r (e.trans q1) (h.trans q2) q3
 |ex c x S=>exact λu s' q=>k u s' (q.base e h)
 |bad=>exact k
theorem qU.base {r:Out}{D:Ends}(e:qF P P1)(h:α<+:α1)(k:qU X P α r D):qU X P1 α1 r D:=by
 cases r with
 |nx env S=>exact λv H' P' α' r q0 q1 q2=>k v H' P' α' r q0 (e.trans q1) (h.trans q2)
 |bk env S=>exact λv H' P' α' r q0 q1 q2=>k v H' P' α' r q0 (e.trans q1) (h.trans q2)
 |ct env S=>exact λv H' P' α' r q0 q1 q2=>k v H' P' α' r q0 (e.trans q1) (h.trans q2)
 |rt d S=>exact λv H' P' α' r q1 q2 q3=>k v H' P' α' r (e.trans q1) (h.trans q2) q3
 |ex c x env S=>exact λu s' q=>k u s' (q.base e h)
 |bad=>exact k
theorem xr {v:V}{H:Hp}{d:D}(k:OkV X P α Q d S)(r:Rel X.K H P α S)(q:Rep X.K P α d v):Q v H:=k v H P α r (qF.refl _) (A3 _) q
end
section
variable {X:Cx}{a b e:AE}{pos:CD}
theorem peW {t t':TE}(h:PE X e t)(w:∀ σ H Q,t' σ H Q->t σ H Q):PE X e t':=λpins s σ H Q I q=>h pins s σ H Q I (w σ H Q q)
theorem psW {st:Ca}{t t':TS}(h:PS X st t)(w:∀ D σ H,t' D σ H->t D σ H):PS X st t':=λpins s σ H D I q=>h pins s σ H D I (w D σ H q)
theorem JM {st:Aa Ca}{t t':TS}(h:PSs X st t)(w:∀ D σ H,t' D σ H->t D σ H):PSs X st t':=λpins s σ H D I q=>h pins s σ H D I (w D σ H q)
theorem paW {es:Aa AE}{t t':TA}(h:PA X es t)(w:∀ σ H Q,t' σ H Q->t σ H Q):PA X es t':=λpos pins s σ H Q I q=>h pos pins s σ H Q I (w σ H Q q)
structure Got (X:Cx)(pins:Aa (Ad × AL))(σ : _L.St)(env:qE)(P:Hp)(α : Aa Ad)(u:Ac)(s1:Af)(v:V)(H1 P1:Hp)(α1:Aa Ad)(d:D)(S1:Sto):Prop where
 inv:Inv X pins σ H1 s1
 val:qJ v u
 rel:Rel X.K H1 P1 α1 S1
 env:qS X.K P1 α1 σ env
 rep:Rep X.K P1 α1 d v
 same:qF P P1
 pre:α<+:α1
inductive GotG (X:Cx)(pins:Aa (Ad × AL))(σ : _L.St)(env:qE)(P:Hp)(α : Aa Ad)(u:Ac)(s1:Af){γ : Type}(g:D->Sto->Res γ)(Ok:γ->Sto->Prop):Prop
 |mk (v:V) (H1 P1:Hp) (α1:Aa Ad) (d:D) (S1:Sto) (G:Got X pins σ env P α u s1 v H1 P1 α1 d S1) (q:qI X P α (g d S1) Ok):GotG X pins σ env P α u s1 g Ok
inductive GotAG (X:Cx)(pins:Aa (Ad × AL))(σ : _L.St)(env:qE)(P:Hp)(α : Aa Ad)(us:Aa Ac)(s1:Af){γ : Type}(g:Aa D->Sto->Res γ)(Ok:γ->Sto->Prop):Prop
 |mk (vs:Aa V) (H1 P1:Hp) (α1:Aa Ad) (ds:Aa D) (S1:Sto) (I:Inv X pins σ H1 s1) (rv:qK vs us) (r:Rel X.K H1 P1 α1 S1) (re:qS X.K P1 α1 σ env) (rp:qD X.K P1 α1 ds vs) (e1:qF P P1) (e2:α<+:α1) (q:qI X P α (g ds S1) Ok):GotAG X pins σ env P α us s1 g Ok
inductive GotT (X:Cx)(pins:Aa (Ad × AL))(σ : _L.St)(env:qE)(P:Hp)(α : Aa Ad)(b:Ap)(s1:Af){γ : Type}(g:Ap->Sto->Res γ)(Ok:γ->Sto->Prop):Prop
 |mk (H1 P1:Hp) (α1:Aa Ad) (S1:Sto) (I:Inv X pins σ H1 s1) (r:Rel X.K H1 P1 α1 S1) (re:qS X.K P1 α1 σ env) (e1:qF P P1) (e2:α<+:α1) (q:qI X P α (g b S1) Ok):GotT X pins σ env P α b s1 g Ok
theorem zP {γ:Type}{f:DE}{g:D->Sto->Res γ}{Ok:γ->Sto->Prop}{pins:Aa (Ad × AL)}{s:Af}{σ:_L.St}{H P:Hp}{α:Aa Ad}{env:qE}(he:PE X e (tD X f))(I:Inv X pins σ H s)(r:Rel X.K H P α S)
  (re:qS X.K P α σ env) (af:qI X P α ((f env S).bind g) Ok) :
  Ao (Aq X.prog X.w) X.A (eval e X.env) (λu s1=>GotG X pins σ env P α u s1 g Ok) X.xe s:=by
 refine thn (he pins s σ H (λv H1=>∃ P1 α1 d S1,Rel X.K H1 P1 α1 S1/\qS X.K P1 α1 σ env/\Rep X.K P1 α1 d v/\qF P P1/\α<+:α1/\qI X P α (g d S1) Ok) I ⟨P,α,env,S,r,re,?_⟩) λu s1 ⟨v,H1,I1,rv,P1,α1,d,S1,q1,q2,q3,q4,q5,q6⟩=>⟨v,H1,P1,α1,d,S1,⟨I1,rv,q1,q2,q3,q4,q5⟩,q6⟩;cases q:f env S with
 |bad=>rw[q] at af;exact af
 |ex c x S'=>rw[q] at af;exact af
 |ok d S' =>
  rw[q] at af;exact λv H' P' α' r' e1 e2 rp=>⟨P',α',d,S',r',re.mono e1 e2,rp,e1,e2,af⟩
theorem xB {γ:Type}{es:Aa AE}{f:DA}{g:Aa D->Sto->Res γ}{Ok:γ->Sto->Prop}{pins:Aa (Ad × AL)}{s:Af}{σ:_L.St}{H P:Hp}{α:Aa Ad}{env:qE}(he:PA X es (tDA X f))(I:Inv X pins σ H s)(r:Rel X.K H P α S)
  (re:qS X.K P α σ env) (af:qI X P α ((f env S).bind g) Ok) (pos:CD) :
  Ao (Aq X.prog X.w) X.A (spliced (CB pos (Av es X.env))) (λus s1=>GotAG X pins σ env P α us s1 g Ok) X.xe s:=by
 refine thn (he pos pins s σ H (λvs H1=>∃ P1 α1 ds S1,Rel X.K H1 P1 α1 S1/\qS X.K P1 α1 σ env/\qD X.K P1 α1 ds vs/\qF P P1/\α<+:α1/\qI X P α (g ds S1) Ok) I ⟨P,α,env,S,r,re,?_⟩) λu s1 ⟨v,H1,I1,rv,P1,α1,d,S1,q1,q2,q3,q4,q5,q6⟩=>⟨v,H1,P1,α1,d,S1,I1,rv,q1,q2,q3,q4,q5,q6⟩;cases q:f env S with
 |bad=>rw[q] at af;exact af
 |ex c x S'=>rw[q] at af;exact af
 |ok d S' =>
  rw[q] at af;exact λv H' P' α' r' e1 e2 rp=>⟨P',α',d,S',r',re.mono e1 e2,rp,e1,e2,af⟩
theorem gS {γ:Type}{f:DT}{g:Ap->Sto->Res γ}{Ok:γ->Sto->Prop}{pins:Aa (Ad × AL)}{s:Af}{σ:_L.St}{H P:Hp}{α:Aa Ad}{env:qE}{m:EE Ap}
  (he:∀ (Q:Ap->Hp->Prop),tDT X f σ H Q->Ao (Aq X.prog X.w) X.A m (TP X pins σ Q) X.xe s) (r:Rel X.K H P α S) (re:qS X.K P α σ env) (af:qI X P α ((f env S).bind g) Ok) :
  Ao (Aq X.prog X.w) X.A m (λb s1=>GotT X pins σ env P α b s1 g Ok) X.xe s:=by
 refine thn (he (λb H1=>∃ P1 α1 S1,Rel X.K H1 P1 α1 S1/\qS X.K P1 α1 σ env/\qF P P1/\α<+:α1/\qI X P α (g b S1) Ok) ⟨P,α,env,S,r,re,?_⟩) λb s1 ⟨H1,I1,P1,α1,S1,q1,q2,q4,q5,q6⟩=>⟨H1,P1,α1,S1,I1,q1,q2,q4,q5,q6⟩;cases q:f env S with
 |bad=>rw[q] at af;exact af
 |ex c x S'=>rw[q] at af;exact af
 |ok d S' =>
  rw[q] at af;exact λH' P' α' r' e1 e2=>⟨P',α',S',r',re.mono e1 e2,e1,e2,af⟩
noncomputable def dC (d:D):DE:=λ_ S=>.ok d S
noncomputable def qB (i:Aj):DE:=λenv S=>match env[i]? with
 |some (Ab d)=>.ok d S
 |_=>.bad
theorem V3:PE X (.Constant (.int i) j pos) (tD X (dC (.int i))):=peW JC λσ H Q ⟨P,α,env,S,r,re,af⟩=>xr af r (by simp only[Rep])
theorem GE:PE X (.Constant (.bool i) j pos) (tD X (dC (.bl i))):=peW B6 λσ H Q ⟨P,α,env,S,r,re,af⟩=>xr af r (by simp only[Rep])
theorem V8:PE X (.Constant (.str i) j pos) (tD X (dC (.str i))):=peW JF λσ H Q ⟨P,α,env,S,r,re,af⟩=>xr af r (by simp only[Rep])
theorem V5:PE X (.Constant .none j pos) (tD X (dC .non)):=peW JD λσ H Q ⟨P,α,env,S,r,re,af⟩=>xr af r (by simp only[Rep])
set_option tactic.hygienic true in
theorem Y1 {i:Aj}{σ:_L.St}{H:Hp}(h:tD X (qB i) σ H Q):KG i σ H Q:=by
 obtain⟨P,α,env,S,r,re,af⟩:=h;unfold qB at af
 split at af
 .rename_i d q
  obtain⟨v,h1,h2⟩:=re.2 i d q;exact⟨v,h1,xr af r h2⟩
 .exact Al af
theorem dv (i:Aj){x:An}(hN:X.N[i]? = Ab x:=by rfl)(hv:Vis X.env.scope x:=by first|exact LQ rfl|exact Kn (LQ rfl)|exact Kn (Kn rfl))(hd:(x == ("__debug__" : An))=false:=by decide)
  (hcd:(x == ("__classdict__" : An))=false:=by decide):PE X (.Name x pos) (tD X (qB i)):=peW (eQ hN hv hd hcd) λσ H Q h=>Y1 h
theorem nX {x:An}{d:D}{v:V}(hg:Gl X x)(hm:X.mg x=Ab u)(r:qJ v u)(q:∀ P α,Rep X.K P α d v)(hd:(x == ("__debug__" : An))=false:=by decide):PE X (.Name x pos) (tD X (dC d)):=
 peW (W5 hg hm r hd) λσ H Q ⟨P,α,env,S,r,re,af⟩=>xr af r (q _ _)
theorem ZG {x:An}{n:Bg}(hg:Gl X x)(hm:X.mg x=none)(hv:Cw x=Ab (.type n))(hn:x ≠ "__name__":=by decide)(hd:(x == ("__debug__" : An))=false:=by decide):PE X (.Name x pos) (tD X (dC (.ty n))):=
 peW (W4 (v:=.ty n) hg hm hv rfl hn hd) λσ H Q ⟨P,α,env,S,r,re,af⟩=>xr af r (by simp only[Rep])
abbrev G2:=D->D->Sto->Res D
def OpD (X:Cx)(f:Ac->Ac->EE Ac)(g:G2):Prop:=
 ∀ (pins:Aa (Ad × AL)) (σ : _L.St) (H:Hp) (s:Af) (P:Hp) (α : Aa Ad) (S:Sto) (v u:V) (vv uu:Ac) (a b:D) (Q:VK),Inv X pins σ H s->Rel X.K H P α S->qJ v vv->qJ u uu->Rep X.K P α a v->Rep X.K P α b u->qP X P α (g a b S) Q ->
  Ao (Aq X.prog X.w) X.A (f vv uu) (EP X pins σ Q) X.xe s
theorem OpD.of {f:Ac->Ac->EE Ac}{r:R2}{g:G2}(h:OpR X f r)(w:∀ H P α S v u a b Q,Rel X.K H P α S->Rep X.K P α a v->Rep X.K P α b u->qP X P α (g a b S) Q->r v u H Q):OpD X f g:=
 λpins σ H s P α S v u vv uu a b Q I rl r1 r2 p1 p2 af=>h pins s σ H v u vv uu Q I r1 r2 (w H P α S v u a b Q rl p1 p2 af)
def UnD (X:Cx)(f:Ac->EE Ac)(g:D->Sto->Res D):Prop:=
 ∀ (pins:Aa (Ad × AL)) (σ : _L.St) (H:Hp) (s:Af) (P:Hp) (α : Aa Ad) (S:Sto) (v:V) (vv:Ac) (a:D) (Q:VK),Inv X pins σ H s->Rel X.K H P α S->qJ v vv->Rep X.K P α a v->qP X P α (g a S) Q ->
  Ao (Aq X.prog X.w) X.A (f vv) (EP X pins σ Q) X.xe s
def IxD (X:Cx)(g:G2):Prop:=
 ∀ (value slice:AE) (pins:Aa (Ad × AL)) (σ : _L.St) (H:Hp) (s:Af) (P:Hp) (α : Aa Ad) (S:Sto) (v u:V) (vv uu:Ac) (a b:D) (Q:VK),Inv X pins σ H s->Rel X.K H P α S->qJ v vv->qJ u uu->Rep X.K P α a v->Rep X.K P α b u->qP X P α (g a b S) Q ->
  subscripted slice false vv uu=operate [vv,uu] (HC vv uu)->Ao (Aq X.prog X.w) X.A (Ka value slice vv uu) (EP X pins σ Q) X.xe s
def xS (X:Cx)(f:Ac)(g:Aa D->Sto->Res D):Prop:=
 ∀ (pins:Aa (Ad × AL)) (σ : _L.St) (H:Hp) (s:Af) (P:Hp) (α : Aa Ad) (S:Sto) (vs:Aa V) (us:Aa Ac) (ds:Aa D) (Q:VK),Inv X pins σ H s->Rel X.K H P α S->qK vs us->qD X.K P α ds vs->qP X P α (g ds S) Q ->
  Ao (Aq X.prog X.w) X.A (call f us) (EP X pins σ Q) X.xe s
noncomputable def d2 (g:G2)(fa fb:DE):DE:=λenv S=>(fa env S).bind λx S1=>(fb env S1).bind λy S2=>g x y S2
noncomputable def d1 (g:D->Sto->Res D)(fa:DE):DE:=λenv S=>(fa env S).bind g
variable {fa fb:DE}
theorem mO {g:G2}{f:Ac->Ac->EE Ac}{pins:Aa (Ad × AL)}{s:Af}{σ:_L.St}{H:Hp}(ho:OpD X f g)(ha:PE X a (tD X fa))(hb:PE X b (tD X fb))(I:Inv X pins σ H s)(h:tD X (d2 g fa fb) σ H Q) :
  Ao (Aq X.prog X.w) X.A (eval a X.env) (λv s₁=>Ao (Aq X.prog X.w) X.A (eval b X.env) (λu s₂=>Ao (Aq X.prog X.w) X.A (f v u) (EP X pins σ Q) X.xe s₂) X.xe s₁) X.xe s:=by
 obtain⟨P,α,env,S,r,re,af⟩:=h;refine thn (zP ha I r re af) λvv s1 ⟨v,H1,P1,α1,d,S1,G1,af1⟩=>?_;refine thn (zP hb G1.inv G1.rel G1.env (P:=P1) (α:=α1) (Ok:=OkV X P1 α1 Q) (g:=λy S2=>g d y S2) ?_) λuu s2 ⟨u,H2,P2,α2,d',S2,G2,af2⟩=>?_
 .exact qP.base G1.same G1.pre af1
 .exact ho pins σ H2 s2 P2 α2 S2 v u vv uu d d' Q G2.inv G2.rel G1.val G2.val (Rep.mono G2.same G2.pre _ _ G1.rep) G2.rep (qP.base G2.same G2.pre af2)
theorem GI {op:Fz}{g:G2}(ho:OpD X (CC op) g)(ha:PE X a (tD X fa))(hb:PE X b (tD X fb)):PE X (.BinOp a op b pos) (tD X (d2 g fa fb)):=
 λpins s σ H Q I h=>wpAny_BinOp (mO ho ha hb I h)
theorem V1 {op:Mj}{g:G2}(ho:OpD X (Cd op) g)(ha:PE X a (tD X fa))(hb:PE X b (tD X fb))(hm:ER op b=false:=by first|exact uF _|with_unfolding_all rfl):PE X (.Compare a [op] [b] pos) (tD X (d2 g fa fb)):=
 λpins s σ H Q I h=>wpAny_Compare1 (mO ho ha hb I h) hm
theorem GJ {op:UnaryOp}{g:D->Sto->Res D}(ho:UnD X (LH op) g)(ha:PE X a (tD X fa)):PE X (.UnaryOp op a pos) (tD X (d1 g fa)):=by
 intro pins s σ H Q I h;obtain⟨P,α,env,S,r,re,af⟩:=h;exact UnaryOp_ (thn (zP ha I r re af) λvv s1 ⟨v,H1,P1,α1,d,S1,G1,af1⟩=>ho pins σ H1 s1 P1 α1 S1 v vv d Q G1.inv G1.rel G1.val G1.rep (qP.base G1.same G1.pre af1))
theorem GG {g:G2}(ho:IxD X g)(ha:PE X a (tD X fa))(hb:PE X b (tD X fb))(hs:pN b:=by intro _ _;rfl):PE X (.Subscript a b pos) (tD X (d2 g fa fb)):=by
 intro pins s σ H Q I h;obtain⟨P,α,env,S,r,re,af⟩:=h;have IxR':IxR X (λx y H Q=>∃ P α S a b,Rel X.K H P α S/\Rep X.K P α a x/\Rep X.K P α b y/\qP X P α (g a b S) Q):=λvalue slice pins s σ H x y v u Q I rx ry ⟨P,α,S,a,b,r,p1,p2,af⟩ hsl =>
  ho value slice pins σ H s P α S x y v u a b Q I r rx ry p1 p2 af hsl
 refine peW (B7 IxR' ha hb hs) (t':=tD X (d2 g fa fb)) (λσ H Q h=>?_) pins s σ H Q I ⟨P,α,env,S,r,re,af⟩;obtain⟨P,α,env,S,r,re,af⟩:=h;refine⟨P,α,env,S,r,re,?_⟩;unfold d2 at af;cases q:fa env S with
 |bad=>rw[q] at af;exact af
 |ex c x S'=>rw[q] at af;exact af
 |ok d S1 =>
  rw[q] at af;intro v H1 P1 α1 r1 e1 e2 rp;refine⟨P1,α1,env,S1,r1,re.mono e1 e2,?_⟩;have af':qP X P α ((fb env S1).bind λy S2=>g d y S2) Q:=af;cases q2:fb env S1 with
  |bad=>rw[q2] at af';exact af'
  |ex c x S'=>rw[q2] at af';exact λu s' z=>af' u s' (z.base e1 e2)
  |ok d' S2 =>
   rw[q2] at af';intro u H2 P2 α2 r2 e3 e4 rp2;exact⟨P2,α2,S2,d,d',r2,Rep.mono e3 e4 _ _ rp,rp2,qP.base (e1.trans e3) (e2.trans e4) af'⟩
noncomputable def qC:DA:=λ_ S=>.ok [] S
noncomputable def qA (f:DE)(g:DA):DA:=λenv S=>(f env S).bind λx S1=>(g env S1).bind λxs S2=>.ok (x::xs) S2
theorem YV:PA X [] (tDA X qC):=paW JB λσ H Q ⟨P,α,env,S,r,re,af⟩=>af [] H P α r (qF.refl _) (A3 _) .nil
theorem ZE {es:Aa AE}{g:DA}(ha:PE X e (tD X fa))(hr:PA X es (tDA X g))(hs:Av (e::es) X.env=(false,eval e X.env)::Av es X.env:=by rfl):PA X (e::es) (tDA X (qA fa g)):=by
 intro pos pins s σ H Q I h;obtain⟨P,α,env,S,r,re,af⟩:=h;rw[hs];show Ao _ _ (spliced ((false,eval e X.env)::CB pos (Av es X.env))) _ _ s;refine Ev (thn (zP ha I r re af) λu s1 ⟨x,H1,P1,α1,d,S1,G1,af1⟩=>?_);refine thn (xB hr G1.inv G1.rel G1.env (P:=P1) (α:=α1) (Ok:=OkA X P1 α1 Q) (jQ.base G1.same G1.pre af1) pos) λus s2 ⟨xs,H2,P2,α2,ds,S2,I2,rv,r2,re2,rp2,e1,e2,af2⟩=>?_;exact⟨x::xs,H2,I2,.cons G1.val rv,af2 _ _ _ _ r2 e1 e2 (.cons (Rep.mono e1 e2 _ _ G1.rep) rp2)⟩
noncomputable def lim:Aj:=16777216
theorem zK:lim=sizeLine:=Ch.symm
noncomputable def xC (f:DA):DE:=λenv S=>(f env S).bind λxs S1=>if xs.length<=lim then .ok (.tup xs) S1 else .bad
noncomputable def xJ (f:DA):DE:=λenv S=>(f env S).bind λxs S1=>if xs.length<=lim then .ok (.lst xs) S1 else .bad
noncomputable def gQ (f:DA):DE:=λenv S=>(f env S).bind λxs S1=>if xs.length<=lim then .ok (.loc S1.length) (S1++[.lst xs]) else .bad
theorem bN {K:Ah}{P:Hp}{α:Aa Ad}{a:Ad}{ds:Aa D}(h:SqT K P a vs)(r:qD K P α ds vs):Rep K P α (.tup ds) (.ref a):=by simp only[Rep];exact⟨a,vs,rfl,h,r⟩
theorem bM {K:Ah}{P:Hp}{α:Aa Ad}{a:Ad}{ds:Aa D}(h:SqX K P a vs)(r:qD K P α ds vs):Rep K P α (.lst ds) (.ref a):=by simp only[Rep];exact⟨a,vs,rfl,h,r⟩
theorem jD {H P:Hp}{α:Aa Ad}{ds:Aa D}(r:Rel X.K H P α S)(hp:H p=none)(rp:qD X.K P α ds vs)(af:OkV X P α Q (.tup ds) S):Q (.ref p) (upd H p (.tup vs)):=by
 obtain⟨r1,e1⟩:=r.pure (o:=.tup vs) hp;exact af _ _ _ α r1 e1 (A3 _) (bN (.of qR) (qD.mono e1 (A3 _) _ _ rp))
theorem xR {H P:Hp}{α:Aa Ad}{ds:Aa D}(r:Rel X.K H P α S)(hp:H p=none)(rp:qD X.K P α ds vs)(af:OkV X P α Q (.lst ds) S):Q (.ref p) (upd H p (.lst vs)):=by
 obtain⟨r1,e1⟩:=r.pure (o:=.lst vs) hp;exact af _ _ _ α r1 e1 (A3 _) (bM (.inl (.inl qR)) (qD.mono e1 (A3 _) _ _ rp))
theorem lD {H P:Hp}{α:Aa Ad}{ds:Aa D}(r:Rel X.K H P α S)(hp:H p=none)(rp:qD X.K P α ds vs)(af:OkV X P α Q (.loc S.length) (S++[.lst ds])):Q (.ref p) (upd H p (.lst vs)):=by
 have hpre:α<+:α++[p]:=Eu _ _;have r1:=r.new (o:=.lst vs) (m:=.lst ds) hp ⟨vs,qR,qD.mono (qF.refl _) hpre _ _ rp⟩;refine af _ _ _ _ r1 (qF.refl _) hpre ?_;simp only[Rep];exact⟨p,rfl,by rw[<- r.len];simp⟩
theorem pX {f:DA}{σ:_L.St}{H:Hp}{G:Aa D->Sto->Res D}{mk:Aa V->HO}(h:tD X (λenv S=>(f env S).bind λxs S1=>if xs.length<=lim then G xs S1 else .bad) σ H Q)
  (k:∀ H1 P1 α1 S1 ds vs p,Rel X.K H1 P1 α1 S1->H1 p=none->qD X.K P1 α1 ds vs->qP X P1 α1 (G ds S1) Q->Q (.ref p) (upd H1 p (mk vs))) :
  tDA X f σ H λvs H1=>vs.length<=sizeLine/\∀ p,H1 p=none->Q (.ref p) (upd H1 p (mk vs)):=by
 obtain⟨P,α,env,S,r,re,af⟩:=h;refine⟨P,α,env,S,r,re,?_⟩;have af':qP X P α ((f env S).bind λxs S1=>if xs.length<=lim then G xs S1 else .bad) Q:=af
 cases q:f env S with
 |bad=>rw[q] at af';exact af'
 |ex c x S'=>rw[q] at af';exact af'
 |ok ds S1 =>
  rw[q] at af';intro vs H1 P1 α1 r1 e1 e2 rp;have af2:qP X P α (if ds.length<=lim then G ds S1 else .bad) Q:=af'
  by_cases hl:ds.length<=lim
  .rw[AA hl] at af2
   exact⟨by rw[<- rp.length,<- zK];exact hl,λp hp=>k H1 P1 α1 S1 ds vs p r1 hp rp (qP.base e1 e2 af2)⟩
  .rw[AD hl] at af2;exact Al af2
theorem V9 {es:Aa AE}{f:DA} {x1} (h:PA X es (tDA X f)):PE X (.Tuple es x1 pos) (tD X (xC f)):=
 peW (JG h) λσ H Q q=>pX (G:=λxs S1=>.ok (.tup xs) S1) (mk:=.tup) q λH1 P1 α1 S1 ds vs p r hp rp af=>jD r hp rp af
theorem V4 {es:Aa AE}{f:DA}(h:PA X es (tDA X f)):PE X (.List es pos) (tD X (xJ f)):=
 peW (eP h) λσ H Q q=>pX (G:=λxs S1=>.ok (.lst xs) S1) (mk:=.lst) q λH1 P1 α1 S1 ds vs p r hp rp af=>xR r hp rp af
theorem ZL {es:Aa AE}{f:DA}(h:PA X es (tDA X f)):PE X (.List es pos) (tD X (gQ f)):=
 peW (eP h) λσ H Q q=>pX (G:=λxs S1=>.ok (.loc S1.length) (S1++[MO.lst xs])) (mk:=.lst) q λH1 P1 α1 S1 ds vs p r hp rp af=>lD r hp rp af
end
section
variable {X:Cx}{a b c e:AE}{pos:CD}{fa fb fc:DE}{ta tb:DT}
noncomputable def wY:D->Sto->Ak Ap
 |.non,_=>Ab false
 |.bl b,_=>Ab b
 |.int i,_=>Ab (i != 0)
 |.str x,_=>if x.length<=lim then Ab ((x.length:Am) != 0) else none
 |.tup xs,_=>Ab (!xs.isEmpty)
 |.lst xs,_=>Ab (!xs.isEmpty)
 |.dct0,_=>Ab false
 |.loc i,S=>match S[i]? with
  |some (.lst xs)=>Ab (!xs.isEmpty)
  |some (.dct kvs)=>Ab (!kvs.isEmpty)
  |_=>none
 |_,_=>none
theorem qD.isEmpty {K:Ah}{P:Hp}{α:Aa Ad}{ds:Aa D}(r:qD K P α ds vs):(!ds.isEmpty)=!vs.isEmpty:=by
 cases ds with
 |nil=>rw[r.nil_inv];rfl
 |cons d ds=>obtain⟨w,ws,rfl,_,_⟩:=r.cons_inv;rfl
theorem xF {K:Ah}{H P:Hp}(e:qF P H){a:Ad}{xs:Aa V}(h:SqT K P a xs):SqT K H a xs:=w9 e h
theorem uJ {H P:Hp}{α:Aa Ad}{v:V}{d:D}{k:Ap}(r:Rel X.K H P α S)(p:Rep X.K P α d v)(h:wY d S=Ab k):dA X.K v H k:=by
 cases d with
 |non=>simp only[Rep] at p;subst p;cases h;rfl
 |bl b=>simp only[Rep] at p;subst p;cases h;rfl
 |int i=>simp only[Rep] at p;subst p;cases h;rfl
 |str x =>
  simp only[Rep] at p;subst p;obtain⟨hl,rfl⟩:=uZ h;exact⟨by rw[<- zK];exact hl,rfl⟩
 |tup xs =>
  simp only[Rep] at p;obtain⟨a,vs,rfl,q,t⟩:=p;cases h;exact .inr (.inl ⟨vs,xF r.sub q,t.isEmpty⟩)
 |lst xs =>
  simp only[Rep] at p;obtain⟨a,vs,rfl,q,t⟩:=p;cases h;exact .inl ⟨vs,(xA r.sub q).l,t.isEmpty⟩
 |dct0 =>
  simp only[Rep] at p;obtain⟨a,rfl,q⟩:=p;cases h;exact .inr (.inr ⟨[],r.sub _ _ q,rfl⟩)
 |loc i =>
  simp only[Rep] at p;obtain⟨a,rfl,q⟩:=p;have h:(match S[i]? with|some (.lst xs)=>Ab (!xs.isEmpty)|some (.dct kvs)=>Ab (!kvs.isEmpty)|_=>none)=Ab k:=h
  cases hs:S[i]? with
  |none=>rw[hs] at h;exact nn h
  |some m =>
   rw[hs] at h;cases m with
   |lst xs =>
    cases h;obtain⟨vs,z,t⟩:=r.at' i a _ q hs;exact .inl ⟨vs,.of z,t.isEmpty⟩
   |dct kvs =>
    cases h;obtain⟨vs,z,t⟩:=r.at' i a _ q hs;refine .inr (.inr ⟨vs,z,?_⟩);cases t <;> rfl
   |_=>exact nn h
 |ty n=>exact nn h
 |obj a=>exact nn h
 |exn c=>exact nn h
 |fd ks ds=>exact nn h
 |clo a vs ds=>exact nn h
theorem BO {pins:Aa (Ad × AL)}{s:Af}{σ:_L.St}{H P:Hp}{α:Aa Ad}{v:V}{d:D}{k:Ap}{Q:Ap->Hp->Prop}(I:Inv X pins σ H s)(r:Rel X.K H P α S)(rv:qJ v vv)(p:Rep X.K P α d v)(h:wY d S=Ab k)(q:Q k H) :
  Ao (Aq X.prog X.w) X.A (truthy vv) (TP X pins σ Q) X.xe s:=pG pins s σ H v vv Q I rv ⟨k,uJ r p h,q⟩
noncomputable def oJ (o:Ak Ap)(S:Sto):Res Ap:=match o with
 |some b=>.ok b S
 |none=>.bad
noncomputable def dTr (f:DE):DT:=λenv S=>(f env S).bind λd S1=>oJ (wY d S1) S1
theorem lL {o:Ak Ap}{P:Hp}{α:Aa Ad}{Ok:Ap->Sto->Prop}(h:qI X P α (oJ o S) Ok):∃ b,o=Ab b/\Ok b S:=by
 cases o with
 |none=>exact Al h
 |some b=>exact⟨b,rfl,h⟩
theorem VR (ha:PE X a (tD X fa))(he:∀ whole,isTrue a X.env whole=(do let v <- whole;II a.pos;holding [v] (truthy v)):=by intro _;rfl):PT X a (tDT X (dTr fa)):=by
 intro pins s σ H Q I h;obtain⟨P,α,env,S,r,re,af⟩:=h;refine isTrue_plain (thn (zP ha I r re af) λvv s1 ⟨v,H1,P1,α1,d,S1,G1,af1⟩=>?_) (he _);obtain⟨k,e1,q⟩:=lL af1;exact BO G1.inv G1.rel G1.val G1.rep e1 (q H1 P1 α1 G1.rel G1.same G1.pre)
theorem VP {op:Mj}{g:G2}(ho:OpD X (Cd op) g)(ha:PE X a (tD X fa))(hb:PE X b (tD X fb))(hm:ER op b=false:=by first|exact uF _|with_unfolding_all rfl):PT X (.Compare a [op] [b] pos) (tDT X (dTr (d2 g fa fb))):=by
 intro pins s σ H Q I h;obtain⟨P,α,env,S,r,re,af⟩:=h;refine wpAny_isTrue_Compare1 ?_ hm;have key:tD X (d2 g fa fb) σ H (λv H1=>∃ k,dA X.K v H1 k/\Q k H1):=by
  refine⟨P,α,env,S,r,re,?_⟩;have af':qI X P α ((d2 g fa fb env S).bind λd S1=>oJ (wY d S1) S1) (OkT X P α Q):=af;cases q:d2 g fa fb env S with
  |bad=>rw[q] at af';exact af'
  |ex c x S'=>rw[q] at af';exact af'
  |ok d S1 =>
   rw[q] at af';obtain⟨k,e1,qk⟩:=lL (X:=X) af';exact λv H1 P1 α1 r1 e3 e4 rp=>⟨k,uJ r1 rp e1,qk H1 P1 α1 r1 e3 e4⟩
 exact thn (mO ho ha hb I key) λv s1 h1=>thn h1 λu s2 h2=>thn h2 λx s3 ⟨y,H3,I3,r3,k,tk,qk⟩=>pG pins s3 σ H3 y x Q I3 r3 ⟨k,tk,qk⟩
noncomputable def jV (g g':G2)(fa fb fc:DE):DE:=λenv S=>(fa env S).bind λx S1=>(fb env S1).bind λy S2=>(g x y S2).bind λz S3 =>
 match wY z S3 with
 |some true=>(fc env S3).bind λw S4=>g' y w S4
 |some false=>.ok z S3
 |none=>.bad
inductive GotO (X:Cx)(pins:Aa (Ad × AL))(σ : _L.St)(P:Hp)(α : Aa Ad)(w:Ac)(s1:Af){γ : Type}(k:D->Sto->Res γ)(Ok:γ->Sto->Prop):Prop
 |mk (y:V) (H1 P1:Hp) (α1:Aa Ad) (d:D) (S1:Sto) (I:Inv X pins σ H1 s1) (rv:qJ y w) (r:Rel X.K H1 P1 α1 S1) (rp:Rep X.K P1 α1 d y) (e1:qF P P1) (e2:α<+:α1) (q:qI X P α (k d S1) Ok):GotO X pins σ P α w s1 k Ok
theorem J0 {γ:Type}{f:Ac->Ac->EE Ac}{g:G2}{k:D->Sto->Res γ}{Ok:γ->Sto->Prop}{pins:Aa (Ad × AL)}{σ:_L.St}{H:Hp}{s:Af}{P:Hp}{α:Aa Ad}{v u:V}{uu:Ac}{a b:D}(ho:OpD X f g)(I:Inv X pins σ H s)(r:Rel X.K H P α S)
  (rv:qJ v vv) (ru:qJ u uu) (pa:Rep X.K P α a v) (pb:Rep X.K P α b u) (af:qI X P α ((g a b S).bind k) Ok) :
  Ao (Aq X.prog X.w) X.A (f vv uu) (λw s1=>GotO X pins σ P α w s1 k Ok) X.xe s:=by
 refine thn (ho pins σ H s P α S v u vv uu a b (λy H1=>∃ P1 α1 d S1,Rel X.K H1 P1 α1 S1/\Rep X.K P1 α1 d y/\qF P P1/\α<+:α1/\qI X P α (k d S1) Ok) I r rv ru pa pb ?_) λw s1 ⟨y,H1,I1,r1,P1,α1,d,S1,q1,q2,q3,q4,q5⟩=>⟨y,H1,P1,α1,d,S1,I1,r1,q1,q2,q3,q4,q5⟩;cases q:g a b S with
 |bad=>rw[q] at af;exact af
 |ex c x S'=>rw[q] at af;exact af
 |ok d S' =>
  rw[q] at af;exact λv H' P' α' r' e1 e2 rp=>⟨P',α',d,S',r',rp,e1,e2,af⟩
theorem qI.base' {β:Type}{P P1:Hp}{α α1:Aa Ad}{r:Res β}{Ok Ok1:β->Sto->Prop}(e:qF P P1)(h:α<+:α1)(ho:∀ d S,Ok d S->Ok1 d S)(k:qI X P α r Ok):qI X P1 α1 r Ok1:=by
 cases r with
 |ok d S=>exact ho d S k
 |ex c x S=>exact λu s' q=>k u s' (q.base e h)
 |bad=>exact k
theorem aH {op op':Mj}{g g':G2}(ho:OpD X (Cd op) g)(ho':OpD X (Cd op') g')(ha:PE X a (tD X fa))(hb:PE X b (tD X fb))(hc:PE X c (tD X fc))
  (hm:lastMarks [op,op'] [b,c]=false:=by with_unfolding_all rfl):PE X (.Compare a [op,op'] [b,c] pos) (tD X (jV g g' fa fb fc)):=by
 intro pins s σ H Q I h;obtain⟨P,α,env,S,r,re,af⟩:=h;refine Compare_chain (thn (zP ha I r re af) λvv s1 ⟨v,H1,P1,α1,d,S1,G1,af1⟩=>chain_link (thn (zP hb G1.inv G1.rel G1.env (qP.base G1.same G1.pre af1)) λuu s2 ⟨u,H2,P2,α2,d',S2,G2,af2⟩ =>
  thn (J0 ho G2.inv G2.rel G1.val G2.val (Rep.mono G2.same G2.pre _ _ G1.rep) G2.rep (qP.base G2.same G2.pre af2)) λw s3 ⟨y,H3,P3,α3,z,S3,I3,r3,rl3,rp3,e3,e4,af3⟩=>?_)) hm
 cases ht:wY z S3 with
 |none=>simp only[ht] at af3;exact Al af3
 |some k =>
  simp only[ht] at af3;have tv:=uJ rl3 rp3 ht;refine thn (pG pins s3 σ H3 y w (λk' H'=>k'=k/\H'=H3) I3 r3 ⟨k,tv,rfl,rfl⟩) λk' s4 ⟨H4,I4,hk,hH⟩=>?_;subst hk;subst hH;cases k' with
  |false=>exact ite_ff ⟨y,H4,I4,r3,af3 y H4 P3 α3 rl3 e3 e4 rp3⟩
  |true =>
   refine ite_tt (chain_last (thn (zP hc I4 rl3 (G2.env.mono e3 e4) (qP.base e3 e4 af3)) λww s5 ⟨w',H5,P5,α5,d5,S5,G5,af5⟩=>?_));exact ho' pins σ H5 s5 P5 α5 S5 u w' uu ww d' d5 Q G5.inv G5.rel G2.val G5.val (Rep.mono (e3.trans G5.same) (e4.trans G5.pre) _ _ G2.rep) G5.rep (qP.base G5.same G5.pre af5)
noncomputable def vL (t:DT):DT:=λenv S=>(t env S).bind λb S1=>.ok (!b) S1
noncomputable def vK (t u:DT):DT:=λenv S=>(t env S).bind λb S1=>if b then u env S1 else .ok false S1
noncomputable def mP (t u:DT):DT:=λenv S=>(t env S).bind λb S1=>if b then .ok true S1 else u env S1
theorem VQ (ha:PT X a (tDT X ta)):PT X (.UnaryOp .Not a pos) (tDT X (vL ta)):=by
 intro pins s σ H Q I h;obtain⟨P,α,env,S,r,re,af⟩:=h;refine isTrue_not (thn (gS (λQ' q=>ha pins s σ H Q' I q) r re af) λb s1 ⟨H1,P1,α1,S1,I1,r1,re1,e1,e2,af1⟩=>⟨H1,I1,af1 H1 P1 α1 r1 e1 e2⟩)
def PWD (X:Cx)(e:AE)(t:DT):Prop:=PW X e (tDT X t)
theorem PWD.pt {t:DT}(h:PWD X e t):PT X e (tDT X t):=h _
theorem VS (ha:PT X a (tDT X ta)):PWD X (.BoolOp .Or [a] pos) ta:=JN ha
theorem GS {rest:Aa AE}(ha:PT X a (tDT X ta))(hb:PWD X (.BoolOp .Or (b::rest) pos) tb):PWD X (.BoolOp .Or (a::b::rest) pos) (mP ta tb):=by
 intro wh pins s σ H Q I h;obtain⟨P,α,env,S,r,re,af⟩:=h;refine isTrue_or (thn (gS (λQ' q=>ha pins s σ H Q' I q) r re af) λk s1 ⟨H1,P1,α1,S1,I1,r1,re1,e1,e2,af1⟩=>?_);cases k with
 |true=>exact⟨H1,I1,af1 H1 P1 α1 r1 e1 e2⟩
 |false=>exact hb wh pins s1 σ H1 Q I1 ⟨P1,α1,env,S1,r1,re1,u0.base e1 e2 af1⟩
noncomputable def gE (f g:DE):DE:=λenv S=>(f env S).bind λx S1=>match wY x S1 with
 |some true=>g env S1
 |some false=>.ok x S1
 |none=>.bad
noncomputable def aD (f:DE):DE:=λenv S=>(f env S).bind λx S1=>match wY x S1 with
 |some b=>.ok (.bl (!b)) S1
 |none=>.bad
theorem V7  (h:PE X a (tD X fa)):PE X (.BoolOp op [a] pos) (tD X fa):=JE h
theorem KJ {pins:Aa (Ad × AL)}{s:Af}{σ:_L.St}{H:Hp}{v:V}{k:Ap}{R:Ap->Af->Prop}(I:Inv X pins σ H s)(rv:qJ v vv)(t:dA X.K v H k)(h:∀ s',Inv X pins σ H s'->R k s') :
  Ao (Aq X.prog X.w) X.A (truthy vv) R X.xe s:=thn (pG pins s σ H v vv (λk' H'=>k'=k/\H'=H) I rv ⟨k,t,rfl,rfl⟩) λk' s4 ⟨H4,I4,hk,hH⟩=>by subst hk;subst hH;exact h s4 I4
theorem YY {rest:Aa AE}(ha:PE X a (tD X fa))(hb:PE X (.BoolOp .And (b::rest) pos) (tD X fb)):PE X (.BoolOp .And (a::b::rest) pos) (tD X (gE fa fb)):=by
 intro pins s σ H Q I h;obtain⟨P,α,env,S,r,re,af⟩:=h;refine BoolOp_and (thn (zP ha I r re af) λvv s1 ⟨v,H1,P1,α1,d,S1,G1,af1⟩=>?_);cases ht:wY d S1 with
 |none=>simp only[ht] at af1;exact Al af1
 |some k =>
  simp only[ht] at af1;refine KJ G1.inv G1.val (uJ G1.rel G1.rep ht) λs2 I2=>?_;cases k with
  |true=>exact hb pins s2 σ H1 Q I2 ⟨P1,α1,env,S1,G1.rel,G1.env,qP.base G1.same G1.pre af1⟩
  |false=>exact⟨v,H1,I2,G1.val,af1 v H1 P1 α1 G1.rel G1.same G1.pre G1.rep⟩
theorem V6 (ha:PE X a (tD X fa)):PE X (.UnaryOp .Not a pos) (tD X (aD fa)):=by
 intro pins s σ H Q I h;obtain⟨P,α,env,S,r,re,af⟩:=h;refine UnaryOp_ (thn (zP ha I r re af) λvv s1 ⟨v,H1,P1,α1,d,S1,G1,af1⟩=>?_);cases ht:wY d S1 with
 |none=>simp only[ht] at af1;exact Al af1
 |some k =>
  simp only[ht] at af1;exact not_of (KJ G1.inv G1.val (uJ G1.rel G1.rep ht) λs2 I2=>⟨.bl (!k),H1,I2,rfl,af1 (.bl (!k)) H1 P1 α1 G1.rel G1.same G1.pre (by simp only[Rep])⟩)
end
@[inline] def Res.toS {β:Type}(env:qE)(r:Res β)(k:β->Sto->Out):Out:=
 match r with
 |.ok d S=>k d S
 |.ex c x S=>.ex c x env S
 |.bad=>.bad
section
variable {X:Cx}{a b c e:AE}{pos:CD}{fa fb fc:DE}{ta tb:DT}{f g:DS}{st:Ca}{rest:Aa Ca}
noncomputable def zR:DS:=λenv S=>.nx env S
noncomputable def qT (f g:DS):DS:=λenv S=>match f env S with
 |.nx env1 S1=>g env1 S1
 |o=>o
theorem VJ:PSs X [] (tDS X zR):=JM WC λD σ H ⟨P,α,env,S,r,re,af⟩=>af σ H P α r re (qF.refl _) (A3 _)
theorem ZV (h1:PS X st (tDS X f))(h2:PSs X rest (tDS X g)):PSs X (st::rest) (tDS X (qT f g)):=JM (o7 h1 h2) λD σ H ⟨P,α,env,S,r,re,af⟩=>by
 refine⟨P,α,env,S,r,re,?_⟩;unfold qT at af;cases q:f env S with
 |nx env1 S1 =>
  rw[q] at af;exact λσ' H' P' α' r' re' e1 e2=>⟨P',α',env1,S1,r',re',qU.base e1 e2 af⟩
 |rt d S1=>rw[q] at af;exact af
 |bk env1 S1=>rw[q] at af;exact af
 |ct env1 S1=>rw[q] at af;exact af
 |ex c x env1 S1=>rw[q] at af;exact af
 |bad=>rw[q] at af;exact af
theorem VL (h1:PS X st (tDS X f)):PSs X [st] (tDS X f):=WD h1
theorem x8 {β:Type}{P:Hp}{α:Aa Ad}{env:qE}{r:Res β}{k:β->Sto->Out}{D:Ends}(h:qU X P α (r.toS env k) D):qI X P α r λd S=>qU X P α (k d S) D:=by
 cases r with
 |ok d S=>exact h
 |ex c x S=>exact h
 |bad=>exact h
inductive GotS (X:Cx)(pins:Aa (Ad × AL))(σ : _L.St)(env:qE)(P:Hp)(α : Aa Ad)(u:Ac)(s1:Af)(k:D->Sto->Out)(E:Ends):Prop
 |mk (v:V) (H1 P1:Hp) (α1:Aa Ad) (d:D) (S1:Sto) (G:Got X pins σ env P α u s1 v H1 P1 α1 d S1) (q:qU X P1 α1 (k d S1) E):GotS X pins σ env P α u s1 k E
theorem gR {k:D->Sto->Out}{pins:Aa (Ad × AL)}{s:Af}{σ:_L.St}{H P:Hp}{α:Aa Ad}{env:qE}{D:Ends}(he:PE X e (tD X fa))(I:Inv X pins σ H s)(r:Rel X.K H P α S)
  (re:qS X.K P α σ env) (af:qU X P α ((fa env S).toS env k) D) :
  Ao (Aq X.prog X.w) X.A (eval e X.env) (λu s1=>GotS X pins σ env P α u s1 k D) X.xe s:=by
 have af1:qI X P α ((fa env S).bind λd S=>.ok d S) λd S=>qU X P α (k d S) D:=by
  have:=x8 af;cases q:fa env S <;> rw[q] at this <;> exact this
 exact thn (zP he I r re af1) λu s1 ⟨v,H1,P1,α1,d,S1,G,q⟩=>⟨v,H1,P1,α1,d,S1,G,qU.base G.same G.pre q⟩
noncomputable def yA (f:DE):DS:=λenv S=>(f env S).toS env λ_ S1=>.nx env S1
theorem ZW (he:PE X e (tD X fa))(hs:Fw e none pos.line X.env=pure false:=by rfl):PS X (.Expr e pos) (tDS X (yA fa)):=by
 intro pins s σ H D I h;obtain⟨P,α,env,S,r,re,af⟩:=h;exact wpAny_Expr_any (thn (gR he I r re af) λv s1 ⟨x,H1,P1,α1,d,S1,G,q⟩=>⟨σ,H1,G.inv,q σ H1 P1 α1 G.rel G.env (qF.refl _) (A3 _)⟩) I.quiet hs
noncomputable def z9 (f:DE):DS:=λenv S=>(f env S).toS env λd S1=>.rt d S1
theorem VM (he:PE X e (tD X fa)):PS X (.Return (Ab e) pos) (tDS X (z9 fa)):=by
 intro pins s σ H D I h;obtain⟨P,α,env,S,r,re,af⟩:=h;exact wpAny_Return_some (thn (gR he I r re af) λv s1 ⟨x,H1,P1,α1,d,S1,G,q⟩=>⟨x,σ,H1,G.inv,G.val,q x H1 P1 α1 G.rel (qF.refl _) (A3 _) G.rep⟩)
noncomputable def sIf (t:DT)(f g:DS):DS:=λenv S=>(t env S).toS env λb S1=>if b then f env S1 else g env S1
theorem GP {as bs:Aa Ca}(hc:PT X c (tDT X ta))(ha:PSs X as (tDS X f))(hb:PSs X bs (tDS X g)):PS X (.If c as bs pos) (tDS X (sIf ta f g)):=by
 intro pins s σ H D I h;obtain⟨P,α,env,S,r,re,af⟩:=h;have af1:qI X P α ((ta env S).bind λd S=>.ok d S) λb S=>qU X P α (if b then f env S else g env S) D:=by
  have:=x8 af;cases q:ta env S <;> rw[q] at this <;> exact this
 refine wpAny_If (thn (gS (λQ' q=>hc pins s σ H Q' I q) r re af1) λk s1 ⟨H1,P1,α1,S1,I1,r1,re1,e1,e2,af2⟩=>?_);cases k with
 |true=>exact ha pins s1 σ H1 D I1 ⟨P1,α1,env,S1,r1,re1,qU.base e1 e2 af2⟩
 |false=>exact hb pins s1 σ H1 D I1 ⟨P1,α1,env,S1,r1,re1,qU.base e1 e2 af2⟩
abbrev DG:=D->qE->Sto->Res qE
abbrev DGs:=Aa D->qE->Sto->Res qE
def OkE (X:Cx)(P:Hp)(α : Aa Ad)(Q:_L.St->Hp->Prop)(env':qE)(S':Sto):Prop:=∀ σ' H' P' α',Rel X.K H' P' α' S'->qS X.K P' α' σ' env'->qF P P'->α<+:α'->Q σ' H'
def tDG (X:Cx)(g:DG):TG:=λv σ H Q=>∃ P α env S d,Rel X.K H P α S/\qS X.K P α σ env/\Rep X.K P α d v/\qI X P α (g d env S) (OkE X P α Q)
def tU (X:Cx)(g:DGs):TGs:=λvs σ H Q=>∃ P α env S ds,Rel X.K H P α S/\qS X.K P α σ env/\qD X.K P α ds vs/\qI X P α (g ds env S) (OkE X P α Q)
theorem qS.set {K:Ah}{P:Hp}{α:Aa Ad}{σ:_L.St}{env:qE}{d:D}{v:V}(re:qS K P α σ env)(i:Aj)(rp:Rep K P α d v):qS K P α (σ.set i (Ab v)) (env.set i (Ab d)):=by
 refine⟨by simp[re.1],λj d' e=>?_⟩
 by_cases hj:i=j
 .subst hj
  by_cases hi:i<env.length
  .rw[CW hi] at e
   cases e;exact⟨v,by rw[CW (by rw[<- re.1];exact hi)],rp⟩
  .rw[Gh (by simp;omega)] at e;cases e
 .rw[Cg hj] at e ⊢
  exact re.2 j d' e
noncomputable def gNm (i:Aj):DG:=λd env S=>.ok (env.set i (Ab d)) S
theorem ZP {i:Aj}{x:An}(hN:X.N.Nodup)(hi:X.N[i]? = Ab x:=by rfl)(hx:Loc X.env.scope x:=by first|exact LQ rfl|exact Kn rfl)(hf:X.fn x=true\/X.env.scope.names.lookup x=Ab .local:=by first|exact .inl rfl|exact .inr rfl|assumption):PG X (.Name x pos) (tDG X (gNm i)):=by
 intro pins s σ H v u Q I rv h;obtain⟨P,α,env,S,d,r,re,rp,af⟩:=h;exact W6 hN hi hx hf pins s σ H v u Q I rv (af _ H P α r (re.set i rp) (qF.refl _) (A3 _))
noncomputable def uW:DGs:=λds env S=>match ds with
 |[]=>.ok env S
 |_=>.bad
noncomputable def xN (g:DG)(gs:DGs):DGs:=λds env S=>match ds with
 |d::r=>(g d env S).bind λenv1 S1=>gs r env1 S1
 |[]=>.bad
theorem ZQ:PGs X [] (tU X uW):=by
 intro pins s σ H vs us Q I rv h;obtain⟨P,α,env,S,ds,r,re,rp,af⟩:=h;cases ds with
 |nil=>exact W7 pins s σ H vs us Q I rv ⟨rp.nil_inv,af σ H P α r re (qF.refl _) (A3 _)⟩
 |cons d ds=>exact Al af
theorem aK {es:Aa AE}{g:DG}{gs:DGs}(h1:PG X e (tDG X g))(h2:PGs X es (tU X gs))(hs:(Di (e::es) X.env).map (·.2)=assign e X.env::(Di es X.env).map (·.2):=by rfl):PGs X (e::es) (tU X (xN g gs)):=by
 intro pins s σ H vs us Q I rv h;obtain⟨P,α,env,S,ds,r,re,rp,af⟩:=h;cases ds with
 |nil=>exact Al af
 |cons d ds =>
  obtain⟨w,ws,rfl,p1,p2⟩:=rp.cons_inv;refine o3 h1 h2 hs pins s σ H _ us Q I rv ⟨w,ws,rfl,P,α,env,S,d,r,re,p1,?_⟩;have af':qI X P α ((g d env S).bind λenv1 S1=>gs ds env1 S1) (OkE X P α Q):=af;cases q:g d env S with
  |bad=>rw[q] at af';exact af'
  |ex c x S'=>rw[q] at af';exact af'
  |ok env1 S1 =>
   rw[q] at af';intro σ' H' P' α' r' re' e1 e2;refine⟨P',α',env1,S1,ds,r',re',qD.mono e1 e2 _ _ p2,qI.base' e1 e2 (λenv' S' ok σ2 H2 P2 α2 r2 re2 e3 e4=>ok σ2 H2 P2 α2 r2 re2 (e1.trans e3) (e2.trans e4)) af'⟩
noncomputable def gTp (n:Aj)(gs:DGs):DG:=λd env S=>match d with
 |.tup xs=>if xs.length=n then gs xs env S else .bad
 |_=>.bad
set_option tactic.hygienic true in
theorem VC {es:Aa AE}{k:Aj}{gs:DGs}{n:Aj}(hc:X.calm=true)(h:PGs X es (tU X gs))(hn:(Di es X.env).length=n:=by rfl)(hst:(Di es X.env).findIdx? (·.1)=none:=by rfl):PG X (.Tuple es k pos) (tDG X (gTp n gs)):=by
 intro pins s σ H v u Q I rv hw;obtain⟨P,α,env,S,d,r,re,rp,af⟩:=hw;cases d with
 |tup xs =>
  simp only[Rep] at rp;obtain⟨a,vs,rfl,q,t⟩:=rp;simp only[gTp] at af
  split at af
  .rename_i hl
   exact JI hc h hn hst pins s σ H _ u Q I rv ⟨a,vs,rfl,xF r.sub q,by rw[<- t.length];exact hl,P,α,env,S,xs,r,re,t,af⟩
  .exact Al af
 |_=>exact Al af
abbrev G3:=D->D->D->Sto->Res Ho
def OkU (X:Cx)(P:Hp)(α : Aa Ad)(Q:Hp->Prop)(_:Ho)(S':Sto):Prop:=∀ H' P' α',Rel X.K H' P' α' S'->qF P P'->α<+:α'->Q H'
def fX (X:Cx)(g:G3):YH:=λo i v H Q=>∃ P α S a b d,Rel X.K H P α S/\Rep X.K P α a o/\Rep X.K P α b i/\Rep X.K P α d v/\qI X P α (g a b d S) (OkU X P α Q)
noncomputable def gSb (fo fi:DE)(g:G3):DG:=λd env S=>(fo env S).bind λo S1=>(fi env S1).bind λi S2=>(g o i d S2).bind λ_ S3=>.ok env S3
theorem VB {o i:AE}{fo fi:DE}{g:G3}(ho:PE X o (tD X fo))(hi:PE X i (tD X fi))(hs:fZ X (fX X g))
  (ha:∀ v,assign (.Subscript o i pos) X.env v=(do
   let ov <- holding [v] (eval o X.env)
   let iv <- holding [v,ov] (eval i X.env)
   II pos
   holding [v,ov,iv] (Nm ov iv v)
   release [v,ov,iv] []):=by intro _;rfl):PG X (.Subscript o i pos) (tDG X (gSb fo fi g)):=by
 intro pins s σ H v u Q I rv h;obtain⟨P,α,env,S,d,r,re,rp,af⟩:=h;rw[ha];refine Ag (CZ (thn (zP ho I r re af) λov s1 ⟨x,H1,P1,α1,d1,S1,G1,af1⟩=>?_));refine Ag (CZ (thn (zP hi G1.inv G1.rel G1.env (P:=P1) (α:=α1) (Ok:=OkE X P1 α1 Q) (qI.base' G1.same G1.pre (λenv' S' ok σ2 H2 P2 α2 r2 re2 e3 e4=>ok σ2 H2 P2 α2 r2 re2 (G1.same.trans e3) (G1.pre.trans e4)) af1)) λiv s2 ⟨y,H2,P2,α2,d2,S2,G2,af2⟩=>?_));refine Ag (Gi (Ag (CZ (thn (hs pins s2 σ H2 x y v ov iv u (λH3=>Q σ H3) G2.inv G1.val G2.val rv ⟨P2,α2,S2,d1,d2,d,G2.rel,Rep.mono G2.same G2.pre _ _ G1.rep,G2.rep,Rep.mono (G1.same.trans G2.same) (G1.pre.trans G2.pre) _ _ rp,?_⟩) λ_ s3 ⟨H3,I3,q3⟩=>?_))))
 .cases q:g d1 d2 d S2 with
  |bad=>rw[q] at af2;exact af2
  |ex c x S'=>rw[q] at af2;exact λu s' z=>af2 u s' (z.base G2.same G2.pre)
  |ok w S3 =>
   rw[q] at af2;exact λH' P' α' r' e1 e2=>af2 σ H' P' α' r' (G2.env.mono e1 e2) (G2.same.trans e1) (G2.pre.trans e2)
 .exact wpAny_release ⟨σ,H3,I3,q3⟩
noncomputable def zA (f:DE)(g:DG):DS:=λenv S=>(f env S).toS env λd S1=>(g d env S1).toS env λenv' S2=>.nx env' S2
theorem sX {g:DG}{d:D}{env:qE}{P:Hp}{α:Aa Ad}{D':Ends}(h:qU X P α ((g d env S).toS env λenv' S2=>.nx env' S2) D'):qI X P α (g d env S) (OkE X P α D'.nx):=by
 cases q:g d env S with
 |bad=>rw[q] at h;exact h
 |ex c x S'=>rw[q] at h;exact h
 |ok env1 S1=>rw[q] at h;exact h
theorem VG {tg:AE}{g:DG}(he:PE X e (tD X fa))(hg:PG X tg (tDG X g))(hs:swapsWithSole [tg] e pos.line X.env=pure false:=by rfl)(hw:swappedStores [tg] e X.env=pure none:=by rfl)
  (h1:(Di [tg] X.env).map (·.2)=[assign tg X.env]:=by rfl):PS X (.Assign [tg] e pos) (tDS X (zA fa g)):=by
 intro pins s σ H D I h;obtain⟨P,α,env,S,r,re,af⟩:=h;refine wpAny_Assign_stores (thn (gR he I r re af) λv s1 ⟨x,H1,P1,α1,d,S1,G,q⟩=>?_) hs hw;rw[h1];exact thn (hg pins s1 σ H1 x v _ G.inv G.val ⟨P1,α1,env,S1,d,G.rel,G.env,G.rep,sX q⟩) λ_ s2 q=>q
theorem VN {i:Aj}{x:An}{pos':CD}(hN:X.N.Nodup)(he:PE X e (tD X fa))(hi:X.N[i]? = Ab x:=by rfl)(hx:Loc X.env.scope x:=by first|exact LQ rfl|exact Kn rfl)(hs:Fw e (Ab (.Name x pos')) pos.line X.env=pure false:=by rfl)
  (hf:X.fn x=true\/X.env.scope.names.lookup x=Ab .local:=by first|exact .inl rfl|exact .inr rfl|assumption):PS X (.Assign [.Name x pos'] e pos) (tDS X (zA fa (gNm i))):=by
 intro pins s σ H D I h;obtain⟨P,α,env,S,r,re,af⟩:=h;refine wpAny_Assign_Name (thn (gR he I r re af) λv s1 ⟨y,H1,P1,α1,d,S1,G,q⟩=>?_) hs;exact jH G.inv hN hi hx G.val (λs2 I2=>⟨_,H1,I2,q _ H1 P1 α1 G.rel (G.env.set i G.rep) (qF.refl _) (A3 _)⟩) hf
end
structure ItD (K:Ah)(J:It)(P:Hp)(α : Aa Ad)(ds:Aa D):Prop where
 go:∀ i H P1 α1 S,i<ds.length->Rel K H P1 α1 S->qF P P1->α<+:α1->J.go i H
 yld:∀ i H x H' P1 α1 S,i<ds.length->Rel K H P1 α1 S->qF P P1->α<+:α1->J.yld i H x H'->∃ P2 d,ds[i]? = Ab d/\Rel K H' P2 α1 S/\qF P1 P2/\Rep K P2 α1 d x
 stop:∀ i H P1 α1 S,ds.length<=i->Rel K H P1 α1 S->qF P P1->α<+:α1->J.stop i H
abbrev DI:=qE->Sto->Res (Aa D)
def OkI (X:Cx)(P:Hp)(α : Aa Ad)(R:It->Hp->Prop)(ds:Aa D)(S':Sto):Prop:=∀ J H' P' α',Rel X.K H' P' α' S'->qF P P'->α<+:α'->ItD X.K J P' α' ds->R J H'
inductive tDI (X:Cx)(f:DI)(σ : _L.St)(H:Hp)(R:It->Hp->Prop):Prop
 |mk (P:Hp) (α : Aa Ad) (env:qE) (S:Sto) (r:Rel X.K H P α S) (re:qS X.K P α σ env) (af:qI X P α (f env S) (OkI X P α R)):tDI X f σ H R
noncomputable def wW {β:Type}(o:Ak β)(S:Sto):Res β:=match o with
 |some b=>.ok b S
 |none=>.bad
theorem wX {X:Cx}{β:Type}{o:Ak β}{P:Hp}{α:Aa Ad}{Ok:β->Sto->Prop}(h:qI X P α (wW o S) Ok):∃ b,o=Ab b/\Ok b S:=by
 cases o with
 |none=>exact Al h
 |some b=>exact⟨b,rfl,h⟩
theorem xD {X:Cx}{β:Type}{c:Prop}[Em c]{r:Res β}{P:Hp}{α : Aa Ad}{Ok:β->Sto->Prop}(h:qI X P α (if c then r else .bad) Ok):c/\qI X P α r Ok:=by
 by_cases z:c
 .rw[AA z] at h;exact⟨z,h⟩
 .rw[AD z] at h;exact Al h
theorem UY {X:Cx}{β:Type}{ds:Aa D}{g:D->Res β}{P:Hp}{α:Aa Ad}{Ok:β->Sto->Prop}(h:qI X P α (match ds with|[d]=>g d|_=>.bad) Ok):∃ d,ds=[d]/\qI X P α (g d) Ok:=by
 cases ds with
 |nil=>exact Al h
 |cons d ds =>
  cases ds with
  |nil=>exact⟨d,rfl,h⟩
  |cons _ _=>exact Al h
theorem bJ {β:Type}{i:Aj}{f:Aa D->Ak β}{g:Aa (Key × D)->Ak β}{b:β}(h:(match S[i]? with|some (.lst xs)=>f xs|some (.dct kvs)=>g kvs|_=>none)=Ab b):(∃ xs,S[i]? = Ab (.lst xs)/\f xs=Ab b)\/∃ kvs,S[i]? = Ab (.dct kvs)/\g kvs=Ab b:=by
 cases e:S[i]? with
 |none=>rw[e] at h;exact nn h
 |some m =>
  rw[e] at h;cases m with
  |lst xs=>exact .inl ⟨xs,rfl,h⟩
  |dct kvs=>exact .inr ⟨kvs,rfl,h⟩
  |_=>exact nn h
theorem UJ {β:Type}{i:Aj}{f:Aa D->Ak β}{b:β}(h:(match S[i]? with|some (.lst xs)=>f xs|_=>none)=Ab b):∃ xs,S[i]? = Ab (.lst xs)/\f xs=Ab b:=by
 cases e:S[i]? with
 |none=>rw[e] at h;exact nn h
 |some m =>
  rw[e] at h;cases m with
  |lst xs=>exact⟨xs,rfl,h⟩
  |_=>exact nn h
inductive ItV (d:D)(xs:Aa D):Prop
 |tup (e:d=.tup xs)
 |lst (e:d=.lst xs)
noncomputable def QP {β:Type}(S:Sto)(n:Aj)(f:Aa D->Res β) : Res β:=match S[n]? with
 |some (.lst xs)=>f xs
 |_=>.bad
theorem jC {X:Cx}{β:Type}{n:Aj}{f:Aa D->Res β}{P:Hp}{α:Aa Ad}{Ok:β->Sto->Prop}(h:qI X P α (QP S n f) Ok):∃ xs,S[n]? = Ab (.lst xs)/\qI X P α (f xs) Ok:=by
 unfold QP at h;cases e:S[n]? with
 |none=>rw[e] at h;exact Al h
 |some m =>
  rw[e] at h;cases m with
  |lst xs=>exact⟨xs,rfl,h⟩
  |_=>exact Al h
noncomputable def xO:D->Ak (Aa D)
 |.tup xs=>Ab xs
 |.lst xs=>Ab xs
 |_=>none
theorem itV {d:D}{xs:Aa D}(h:xO d=Ab xs):ItV d xs:=by
 cases d with
 |tup ys=>exact .tup (congrArg D.tup (AQ h))
 |lst ys=>exact .lst (congrArg D.lst (AQ h))
 |_=>exact nn h
noncomputable def yC (f:DE):DI:=λenv S=>(f env S).bind λd S1=>wW (xO d) S1
section
variable {X:Cx}{K:Ah}{tg e:AE}{fa:DE}{pos:CD}
theorem iF {P:Hp}{α:Aa Ad}{a:Ad}{ds:Aa D}(q:SqL K P a vs)(t:qD K P α ds vs):ItD K (Itl K a) P α ds where
 go:=λi H P1 α1 S hi r e _=>⟨vs,vs[i]'(by rw[<- t.length];exact hi),(e.trans r.sub).seq q,by simp⟩
 yld:=λi H x H' P1 α1 S hi r e e2 y=>by
  obtain⟨rfl,y⟩:=y;have hx:=y vs ((e.trans r.sub).seq q);obtain⟨v,h1,h2⟩:=t.get (Ax hi);rw[hx] at h1;cases h1;exact⟨P1,_,Ax hi,r,qF.refl _,Rep.mono e e2 _ _ h2⟩
 stop:=λi H P1 α1 S hi r e _=>⟨vs,(e.trans r.sub).seq q,by rw[<- t.length];exact hi⟩
theorem XE {P:Hp}{α:Aa Ad}{a:Ad}{ds:Aa D}(q:SqT K P a vs)(t:qD K P α ds vs):ItD K (Itt K a) P α ds where
 go:=λi H P1 α1 S hi r e _=>⟨vs,vs[i]'(by rw[<- t.length];exact hi),w9 (e.trans r.sub) q,by simp⟩
 yld:=λi H x H' P1 α1 S hi r e e2 y=>by
  obtain⟨rfl,y⟩:=y;have hx:=y vs (w9 (e.trans r.sub) q);obtain⟨v,h1,h2⟩:=t.get (Ax hi);rw[hx] at h1;cases h1;exact⟨P1,_,Ax hi,r,qF.refl _,Rep.mono e e2 _ _ h2⟩
 stop:=λi H P1 α1 S hi r e _=>⟨vs,w9 (e.trans r.sub) q,by rw[<- t.length];exact hi⟩
theorem t9 {pins:Aa (Ad × AL)}{σ:_L.St}{H P:Hp}{α:Aa Ad}{s:Af}{v:V}{d:D}{ds:Aa D}(I:Inv X pins σ H s)(r:Rel X.K H P α S)(rv:qJ v vv)(rp:Rep X.K P α d v)(hd:xO d=Ab ds)
  (q:OkI X P α R ds S):Ao (Aq X.prog X.w) X.A (HX vv) (PIE X pins σ tg R) X.xe s:=by
 cases d with
 |tup xs =>
  cases hd;simp only[Rep] at rp;obtain⟨a,vs,rfl,sq,t⟩:=rp;cases rv;obtain⟨its,rv,p,hz⟩:=I.tuple (xF r.sub sq);refine D1 (show s.heap.IsTuple a its.toArray from p) ?_
  refine⟨s.heap.objs.size,[s.heap.objs.size],_,_,H,rfl,I.kept (t':=s.toks) λb o e=>Ai _ e,sR a _,⟨_,AB _ rfl,rfl,rfl⟩,λb hb=>?_,q _ _ P α r (qF.refl _) (A3 _) (XE sq t)⟩;have e:b=s.heap.objs.size:=by simpa using hb
  subst e;exact I.fpOk (Ar _) (I.hok.fresh (Ar _))
 |lst xs =>
  cases hd;simp only[Rep] at rp;obtain⟨a,vs,rfl,sq,t⟩:=rp;cases rv;obtain⟨its,rv,p,hz⟩:=I.list ((xA r.sub sq).l);refine Do p.isList ?_;refine⟨s.heap.objs.size,[s.heap.objs.size],_,_,H,rfl,I.kept (t':=s.toks) λb o e=>Ai _ e,fK a _,⟨_,AB _ rfl,rfl,rfl⟩,λb hb=>?_,q _ _ P α r (qF.refl _) (A3 _) (iF sq.l t)⟩;have e:b=s.heap.objs.size:=by simpa using hb
  subst e;exact I.fpOk (Ar _) (I.hok.fresh (Ar _))
 |_=>cases hd
theorem OkI.base {P P1:Hp}{α α1:Aa Ad}{ds:Aa D}(e:qF P P1)(h:α<+:α1)(k:OkI X P α R ds S):OkI X P1 α1 R ds S:=λJ H' P' α' r q1 q2 q3=>k J H' P' α' r (e.trans q1) (h.trans q2) q3
theorem VD (ha:PE X e (tD X fa)):PI X tg e (tDI X (yC fa)):=by
 intro pins s σ H R I h;obtain⟨P,α,env,S,r,re,af⟩:=h;refine thn (zP ha I r re af) λvv s1 ⟨v,H1,P1,α1,d,S1,G1,af1⟩=>?_;obtain⟨ds,e1,q⟩:=wX af1;exact t9 G1.inv G1.rel G1.val G1.rep e1 (q.base G1.same G1.pre)
noncomputable def zU (lo:Am)(n:Aj):Aa D:=(CJ n).map λ(i:Aj)=>D.int (lo+(i:Am))
theorem wK (lo:Am)(n:Aj):(zU lo n).length=n:=by simp[zU]
theorem f9 {P:Hp}{α:Aa Ad}{lo:Am}{n:Aj}:ItD K (Itr lo n) P α (zU lo n) where
 go:=λi H P1 α1 S hi r e _=>by rw[wK] at hi;exact hi
 yld:=λi H x H' P1 α1 S hi r e e2 y=>by
  obtain⟨rfl,rfl⟩:=y;rw[wK] at hi;exact⟨P1,.int (lo+i),by simp[zU,hi],r,qF.refl _,by simp only[Rep]⟩
 stop:=λi H P1 α1 S hi r e _=>by rw[wK] at hi;exact hi
noncomputable def vB (ds:Aa D):Ak (Aa D):=match ds with
 |[.int j]=>if -(2 ^ 62)<=j/\j<2 ^ 62 then Ab (zU 0 j.toNat) else none
 |[.int i,.int j]=>if -(2 ^ 62)<=i/\i<2 ^ 62 /\ -(2 ^ 62)<=j/\j<2 ^ 62 then Ab (zU i (j-i).toNat) else none
 |_=>none
noncomputable def gF (f:DA):DI:=λenv S=>(f env S).bind λds S1=>wW (vB ds) S1
noncomputable def asI:D->Ak Am
 |.int i=>Ab i
 |_=>none
theorem gA {d:D}{i:Am}(h:asI d=Ab i):d=.int i:=by
 cases d with
 |int k=>exact congrArg D.int (AQ h)
 |_=>exact nn h
inductive RngV:Aa D->Aa D->Prop
 |one (j:Am) (h : -(2 ^ 62)<=j/\j<2 ^ 62):RngV [.int j] (zU 0 j.toNat)
 |two (i j:Am) (h : -(2 ^ 62)<=i/\i<2 ^ 62 /\ -(2 ^ 62)<=j/\j<2 ^ 62):RngV [.int i,.int j] (zU i (j-i).toNat)
theorem BG (d:D):vB [d]=(asI d).bind λj=>if -(2 ^ 62)<=j/\j<2 ^ 62 then Ab (zU 0 j.toNat) else none:=by cases d <;> rfl
theorem QX (d d':D):vB [d,d']=(asI d).bind λi=>(asI d').bind λj=>if -(2 ^ 62)<=i/\i<2 ^ 62 /\ -(2 ^ 62)<=j/\j<2 ^ 62 then Ab (zU i (j-i).toNat) else none:=by
 cases d with
 |int i=>cases d' <;> rfl
 |_=>rfl
theorem lO {ds its:Aa D}(h:vB ds=Ab its):RngV ds its:=by
 cases ds with
 |nil=>exact nn h
 |cons d ds =>
  cases ds with
  |nil =>
   obtain⟨j,e,h⟩:=Cz.mp ((BG d).symm.trans h);obtain⟨c,rfl⟩:=uZ h;rw[gA e];exact .one j c
  |cons d' ds =>
   cases ds with
   |nil =>
    obtain⟨i,e,h⟩:=Cz.mp ((QX d d').symm.trans h);obtain⟨j,e',h⟩:=Cz.mp h;obtain⟨c,rfl⟩:=uZ h;rw[gA e,gA e'];exact .two i j c
   |cons _ _ =>
    have h0:∀ d'' t,vB (d::d'::d''::t)=none:=λd'' t=>by cases d <;> first|rfl|(cases d' <;> rfl)
    exact nn ((h0 _ _).symm.trans h)
theorem yO {P:Hp}{α:Aa Ad}{i:Am}{ds:Aa D}(r:qD K P α (.int i::ds) vs):∃ ws,vs=.int i::ws/\qD K P α ds ws:=by
 obtain⟨w,ws,rfl,p,t⟩:=r.cons_inv;exact⟨ws,congrArg (· :: ws) (by simpa only [Rep] using p),t⟩
theorem PI.weak {iter:AE}{t t':TI}(h:PI X tg iter t)(w:∀ σ H R,t' σ H R->t σ H R):PI X tg iter t':=λpins s σ H R I q=>h pins s σ H R I (w σ H R q)
end
section
variable {X:Cx}{tg a b:AE}{f:DA}{p pos:CD}
theorem aM {e:AE}{es:Aa AE}(hg:Gl X "range")(hm:X.mg "range" = none)(ha:PA X (e::es) (tDA X f))(hs:Av (e::es) X.env=(false,eval e X.env)::Av es X.env:=by rfl)(hpl:(CB pos (Av es X.env)).any (·.1)=false:=by rfl) :
  PI X tg (.Call (.Name "range" p) (e::es) [] pos) (tDI X (gF f)):=by
 intro pins s σ H R I h;obtain⟨P,α,env,S,r,re,af⟩:=h;refine Nq (xX I hg hm boot_range (Cn (thn (xB ha I r re af pos) λus s1 ⟨vs,H1,P1,α1,ds,S1,I1,rv,r1,re1,rp,e1,e2,af1⟩=>?_) hs hpl));obtain⟨its,hi,q⟩:=wX af1;cases lO hi with
 |one j c =>
  obtain⟨ws,rfl,t1⟩:=yO rp;cases t1.nil_inv;obtain⟨u,rfl,t,rfl⟩:=vV rv;refine call_range_1 (tK I1 om om c.1 c.2 ?_);have z:=q (Itr 0 j.toNat) H1 P1 α1 r1 e1 e2 f9;rw[Lc];exact z
 |two i j c =>
  obtain⟨ws,rfl,t1⟩:=yO rp;obtain⟨ws2,rfl,t2⟩:=yO t1;cases t2.nil_inv;obtain⟨u,u',rfl,⟨t,rfl⟩,t',rfl⟩:=pH rv;exact call_range_2 (tK I1 c.1 c.2.1 c.2.2.1 c.2.2.2 (q (Itr i (j-i).toNat) H1 P1 α1 r1 e1 e2 f9))
noncomputable def yK (g:DG)(f:DS):Aa D->qE->Sto->Out
 |[],env,S=>.nx env S
 |d::ds,env,S=>(g d env S).toS env λenv1 S1=>match f env1 S1 with
  |.nx env2 S2=>yK g f ds env2 S2
  |.ct env2 S2=>yK g f ds env2 S2
  |.bk env2 S2=>.nx env2 S2
  |o=>o
noncomputable def jF (fi:DI)(g:DG)(f:DS):DS:=λenv S=>(fi env S).toS env λds S1=>yK g f ds env S1
inductive LoopW (X:Cx)(P1:Hp)(α1:Aa Ad)(g:DG)(f:DS)(ds:Aa D)(D:Ends)(i m:Aj)(σ : _L.St)(H:Hp):Prop
 |mk (hi:i<=ds.length) (hm:m=ds.length-i) (P2:Hp) (α2:Aa Ad) (env2:qE) (S2:Sto) (r:Rel X.K H P2 α2 S2) (re:qS X.K P2 α2 σ env2) (e1:qF P1 P2) (e2:α1<+:α2) (af:qU X P2 α2 (yK g f (ds.drop i) env2 S2) D):LoopW X P1 α1 g f ds D i m σ H
theorem VI {iter:AE}{fi:DI}{g:DG}{f:DS}(hp:Gy (Aq X.prog X.w) X.A X.env X.xe)(hc:X.calm=true)(hi:PI X tg iter (tDI X fi))(hg:PG X tg (tDG X g))(hb:PSs X body (tDS X f))
  (hs:∀ x,Cc iter X.env x=pure x:=by intro _;rfl):PS X (.For tg iter body [] pos) (tDS X (jF fi g f)):=psW (JL hp hc hi hg hb hs) λD σ H ⟨P,α,env,S,r,re,af⟩=>by
 refine⟨P,α,env,S,r,re,?_⟩;have af1:=x8 af;cases q:fi env S with
 |bad=>rw[q] at af1;exact af1
 |ex c x S'=>rw[q] at af1;exact af1
 |ok ds S1 =>
  rw[q] at af1;have af2:qU X P α (yK g f ds env S1) D:=af1;intro J H1 P1 α1 r1 e1 e2 it;refine⟨LoopW X P1 α1 g f ds D,
   ⟨ds.length,Ek _,rfl,P1,α1,env,S1,r1,re.mono e1 e2,qF.refl _,A3 _,qU.base e1 e2 af2⟩,?_⟩
  rintro i m σ2 H2 ⟨hi,rfl,P2,α2,env2,S2,r2,re2,e3,e4,af3⟩;by_cases hlt:i<ds.length
  .refine .inr ⟨it.go i H2 P2 α2 S2 hlt r2 e3 e4,LoopW X P1 α1 g f ds D (i+1) (ds.length-(i+1)),λσ' H' w=>⟨_,?_,w⟩,λx H3 y=>?_⟩
   .omega
   .obtain⟨P3,d,hd,r3,e5,rp⟩:=it.yld i H2 x H3 P2 α2 S2 hlt r2 e3 e4 y
    have hdr:ds.drop i=d::ds.drop (i+1):=by
     rw[Dv hlt];rw[Ax hlt] at hd;rw[AQ hd]
    rw[hdr] at af3;have af4:=x8 (qU.base e5 (A3 _) af3);refine⟨P3,α2,env2,S2,d,r3,re2.mono e5 (A3 _),rp,?_⟩;cases q2:g d env2 S2 with
    |bad=>rw[q2] at af4;exact af4
    |ex c x S'=>rw[q2] at af4;exact af4
    |ok env3 S3 =>
     rw[q2] at af4;intro σ4 H4 P4 α4 r4 re4 e6 e7;refine⟨P4,α4,env3,S3,r4,re4,?_⟩;have af5:=qU.base e6 e7 af4;cases q3:f env3 S3 with
     |bad=>simp only[q3] at af5;exact af5
     |ex c x env4 S4=>simp only[q3] at af5;exact af5
     |rt d4 S4=>simp only[q3] at af5;exact af5
     |bk env4 S4=>simp only[q3] at af5;exact af5
     |nx env4 S4 =>
      simp only[q3] at af5;exact λσ5 H5 P5 α5 r5 re5 e8 e9=>⟨hlt,rfl,P5,α5,env4,S4,r5,re5,((e3.trans e5).trans e6).trans e8,(e4.trans e7).trans e9,qU.base e8 e9 af5⟩
     |ct env4 S4 =>
      simp only[q3] at af5;exact λσ5 H5 P5 α5 r5 re5 e8 e9=>⟨hlt,rfl,P5,α5,env4,S4,r5,re5,((e3.trans e5).trans e6).trans e8,(e4.trans e7).trans e9,qU.base e8 e9 af5⟩
  .have hdr:ds.drop i=[]:=Gb om
   rw[hdr] at af3;exact .inl ⟨it.stop i H2 P2 α2 S2 om r2 e3 e4,af3 σ2 H2 P2 α2 r2 re2 (qF.refl _) (A3 _)⟩
end
abbrev DF:=Aa D->Sto->Res D
section
variable {X:Cx}{x:An}{p pos:CD}{e:AE}{es:Aa AE}{F:DF}{fa:DA}
noncomputable def qO (F:DF)(fa:DA):DE:=λenv S=>(fa env S).bind λds S1=>F ds S1
theorem bV {pins:Aa (Ad × AL)}{s1:Af}{σ:_L.St}{H1 P P1:Hp}{α α1:Aa Ad}{ds:Aa D}(hc:xS X u F)(I1:Inv X pins σ H1 s1)(r1:Rel X.K H1 P1 α1 S1)(rv:qK vs us)
  (rp:qD X.K P1 α1 ds vs) (e1:qF P P1) (e2:α<+:α1) (af:qI X P α (F ds S1) (OkV X P α Q)):Ao (Aq X.prog X.w) X.A (call u us) (EP X pins σ Q) X.xe s1:=hc pins σ H1 s1 P1 α1 S1 vs us ds Q I1 r1 rv rp (qP.base e1 e2 af)
theorem aE {id:Bg}(hc:xS X (.builtin id) F)(hg:Gl X x)(hm:X.mg x=none)(hv:Cw x=Ab (.builtin id))(ha:PA X (e::es) (tDA X fa))(hn:x ≠ "__name__":=by decide)(hdb:(x == ("__debug__" : An))=false:=by decide)
  (he:Av (e::es) X.env=(false,eval e X.env)::Av es X.env:=by rfl) (hpl:(CB pos (Av es X.env)).any (·.1)=false:=by rfl):PE X (.Call (.Name x p) (e::es) [] pos) (tD X (qO F fa)):=by
 intro pins s σ H Q I h;obtain⟨P,α,env,S,r,re,af⟩:=h;refine Dh (xX I hg hm hv ?_ hn hdb);exact Gr (thn (xB ha I r re af pos) λus s1 ⟨vs,H1,P1,α1,ds,S1,I1,rv,r1,re1,rp,e1,e2,af1⟩=>bV hc I1 r1 rv rp e1 e2 af1) he hpl
theorem rF {T:Bg}(hc:xS X (.type T) F)(hg:Gl X x)(hm:X.mg x=none)(hv:Cw x=Ab (.type T))(ha:PA X (e::es) (tDA X fa))(hn:x ≠ "__name__":=by decide)(hdb:(x == ("__debug__" : An))=false:=by decide)
  (he:Av (e::es) X.env=(false,eval e X.env)::Av es X.env:=by rfl) (hpl:(CB pos (Av es X.env)).any (·.1)=false:=by rfl):PE X (.Call (.Name x p) (e::es) [] pos) (tD X (qO F fa)):=by
 intro pins s σ H Q I h;obtain⟨P,α,env,S,r,re,af⟩:=h;refine Dh (xX I hg hm hv ?_ hn hdb);exact Cn (thn (xB ha I r re af pos) λus s1 ⟨vs,H1,P1,α1,ds,S1,I1,rv,r1,re1,rp,e1,e2,af1⟩=>bV hc I1 r1 rv rp e1 e2 af1) he hpl
end
theorem qY.there {P:A0}{w:AH}{H:Hp}{h:A8}{a:Ad}{o:HO}(x:qY P w H h a o):∃ ob,h.get? a=Ab ob:=by
 cases o with
 |lst xs=>obtain⟨_,_,_,_,e⟩:=x;exact⟨_,e⟩
 |tup xs=>obtain⟨_,_,_,ob,e,_⟩:=x;exact⟨_,e⟩
 |dK kvs=>obtain⟨_,_,_,_,o,_,_,e,_⟩:=x;exact⟨_,e⟩
 |dT kvs=>obtain⟨_,_,_,_,o,_,_,e,_⟩:=x;exact⟨_,e⟩
 |set S n=>obtain⟨o,_,_,_,e,_⟩:=x;exact⟨_,e⟩
 |ins C dx fs=>obtain⟨_,_,_,e,_⟩:=x;exact⟨_,e⟩
 |own y=>obtain⟨_,e⟩:=x;exact⟨_,e⟩
 |xd fs=>obtain⟨_,⟨_,_,_,e,_⟩,_⟩:=x;exact⟨_,e⟩
 |rng lo hi=>obtain⟨_,_,_,e⟩:=x;exact⟨_,e⟩
 |frz ob u=>obtain⟨e,_⟩:=x;exact⟨_,e⟩
 |tbl ps=>exact⟨_,show h.get? a=Ab _ from x⟩
 |met f y=>exact⟨_,show h.get? a=Ab _ from x⟩
 |ext φ => obtain⟨_,e,_⟩:=x;exact e
section
variable {X:Cx}{pins:Aa (Ad × AL)}{σ : _L.St}{H:Hp}{s:Af}{B h':A8}
abbrev Fn1 (X:Cx):Prop:=X.ex=[]/\X.stack=X.env::X.outer/\X.env.frame=Ab X.env.locals
theorem Fn1.mem (F:Fn1 X){b:Ad}:b∈frs X.stack↔b=X.env.locals\/b∈X.fs:=by
 rw[F.2.1];unfold frs;rw[EQ,F.2.2];exact AR
theorem Old.there (I:Inv X pins σ H s)(F:Fn1 X){b:Ad}(o:Old X pins H b):∃ ob,s.heap.get? b=Ab ob:=by
 rcases o with⟨o,e⟩|e|⟨p,hp,rfl⟩|⟨x,e⟩
 .exact I.base.there b o e (by rw[F.1];simp)
 .cases q:H b with
  |none=>exact absurd q e
  |some u=>exact qY.there (I.hok b u q)
 .exact⟨_,(I.pin p hp).1⟩
 .obtain⟨v,ob,ho,_⟩:=I.cell x b e
  exact⟨ob,ho⟩
theorem Inv.fly (I:Inv X pins σ H s)(F:Fn1 X)(cv:Cv X pins H B s.heap)(st:B.StaysIn h')(up:s.heap.UpToSlots h'):Inv X pins σ H { s with heap:=h' } /\ Cv X pins H B h':=by
 have kp:∀ b o,s.heap.get? b=Ab o->Old X pins H b->b ∉ frs X.stack->h'.get? b=Ab o:=λb o e q n=>st b o (cv b o e q n);have neL:∀ b o,X.s₀.heap.get? b=Ab o->b≠X.env.locals:=λb o e=>AV (Aw (Ay e) I.ok.above);have nofr:∀ b o,X.s₀.heap.get? b=Ab o->b ∉ X.fs->b ∉ frs X.stack:=λb o e n z=>(F.mem.mp z).elim (neL b o e) n;have nx:∀ b,b ∉ X.ex:=λb=>by rw[F.1];simp
 have frU:∀ b,b∈frs X.stack->∀ o,s.heap.get? b=Ab o->∃ sl,h'.get? b=Ab { o with slots:=sl }:=λb hb o e=>by
  obtain⟨_,o',e',nf⟩:=I.stack.mem hb;rw[e] at e';cases e';exact up b o e nf
 have cellK:∀ x c,X.env.cells.lookup x=Ab c->∀ v,s.heap.IsCell c v->h'.IsCell c v:=λx c e v ⟨o,ho,hd⟩=>by
  obtain⟨sl,q⟩:=up c o ho λvs z=>by rw[hd] at z;cases z
  exact⟨_,q,hd⟩
 refine⟨⟨I.ok,I.os,I.bare,⟨λb o e n hb hx=>?_,λb o e n hb hx=>?_,I.base.free,λb o e hx=>?_,I.base.tups,I.base.frzs,I.base.tbls⟩,?_,λx c e=>?_,I.free,I.freeC,λp hp=>?_,λa o e=>?_,I.len⟩,λb o e q n=>?_⟩
 .exact kp b o (I.base.keep b o e n hb hx) (.inl ⟨o,e⟩) (nofr b o e hb)
 .obtain⟨sl,e1⟩:=I.base.slot b o e n hb hx
  obtain⟨sl',e2⟩:=frU b (F.mem.mpr (.inr hb)) _ e1;exact⟨sl',e2⟩
 .obtain⟨o',e1⟩:=I.base.there b o e hx
  by_cases hb:b∈frs X.stack
  .obtain⟨sl,e2⟩:=frU b hb _ e1
   exact⟨_,e2⟩
  .exact⟨o',kp b o' e1 (.inl ⟨o,e⟩) hb⟩
 .obtain⟨m,hn,hl⟩:=I.loc
  refine⟨m,up.ns hn,λi x v e1 e2 e3=>?_⟩;obtain⟨u,r,l⟩:=hl i x v e1 e2 e3;refine⟨u,r,?_⟩;rcases l with l|⟨k,c,e,z⟩
  .exact .inl l
  .exact .inr ⟨k,c,e,cellK x c e _ z⟩
 .obtain⟨v,z⟩:=I.cell x c e
  exact⟨v,cellK x c e v z⟩
 .obtain⟨e,n,ne,nf,d⟩:=I.pin p hp
  exact⟨kp p.1 p.2 e (.inr (.inr (.inl ⟨p,hp,rfl⟩))) λz=>(F.mem.mp z).elim ne nf,n,ne,nf,d⟩
 .refine(I.hok a o e).stay (λb u hb q=>?_) (λ_ q=>q) λ_ _ q=>q
  have hn:H b≠none:=by
   rcases hb with rfl|hb
   .rw[e];intro z;cases z
   .rw[hb];intro z;cases z
  exact kp b u q (.inr (.inl hn)) λz=>hn (I.stkFree b z)
 .obtain⟨o1,e1⟩:=Old.there I F q
  have e2:=cv b o1 e1 q n;have e3:=st b o1 e2;rw[e] at e3;cases e3;exact e2
theorem eI {c:Ac}{e:Ad}{g:A8}(I:Inv X pins σ H s)(hm:Jg g s.heap e c args)(hf:g.FunFrames X.base X.stack)(hk:∀ b o,s.heap.get? b=Ab o->Old X pins H b->g.get? b=Ab o) :
  (Gw g (frs X.stack)).StaysIn g/\g.FunFrames (Gw g (frs X.stack)) X.stack/\Cv X pins H (Gw g (frs X.stack)) s.heap:=
 ⟨λb o q=>Ko _ q,PySem.W.funFrames_hide hf λenv he a ha=>Et.mpr ⟨env,he,ha⟩,λb o e q n=>Jt _ (hk b o e q) n⟩
theorem eB {M:EM}{A:AF}{E:Ac->Af->Prop}{c:Ac}{e:Ad}{Q:Ho->Af->Prop}(I:Inv X pins σ H s)(F:Fn1 X)(hA:A.frames=Ab X.stack)(f:FlyX X pins H c e s.heap)
  (hQ:∀ h' B a0,Hl B X.outer e c a0 h'->Inv X pins σ H { s with heap:=h' } -> Cv X pins H B h'->Q () { s with heap:=h' }) : Ao M A (leaving X.env (.ref e)) Q E s:=by
 cases f with
 |new g args hm hf hk =>
  obtain⟨k1,k2,k3⟩:=eI I hm hf hk;rw[F.2.1] at hA;refine wpAny_leaves_madeW hA F.2.2 k1 (by rw[<- F.2.1];exact k2) hm λh' t x1 x2 x3 x4=>?_
  obtain⟨I1,cv1⟩:=Inv.fly I F k3 x1.1 x4;exact hQ h' _ _ x1 I1 cv1
 |fly B a0 fl cv =>
  rw[F.2.1] at hA;refine wpAny_leaves_onW hA F.2.2 (by rw[<- F.2.1];exact fl) λh' x1 x2=>?_
  obtain⟨I1,cv1⟩:=Inv.fly I F cv x1.1 x2;exact hQ h' _ _ x1 I1 cv1
end
def CXd (P:A0)(w:AH):CXT:=λouter H s E u s' =>
 ∃ e c H' B a0,u=.ref e/\s'.os=s.os/\Ge s'.gens/\Un (frs outer) [] H H' s.heap s'.heap/\HOk P w H' s'.heap/\Hl B outer e c a0 s'.heap /\
  (∀ b o,s'.heap.get? b=Ab o->((∃ o,s.heap.get? b=Ab o)\/H' b≠none)->b ∉ frs outer->B.get? b=Ab o)/\E c none H'
section
variable {X:Cx}{pins:Aa (Ad × AL)}{σ : _L.St}{H:Hp}{s s':Af}
theorem VX {E:XK}(I:Inv X pins σ H s)(F:Fn1 X)(h:CXd X.prog X.w X.stack H s E u s'):∃ e c H',u=.ref e/\Inv X pins σ H' s'/\FlyX X pins H' c e s'.heap/\E c none H':=by
 obtain⟨e,c,H',B,a0,rfl,os,bare,un,hok,fl,cov,q⟩:=h;have I':Inv X pins σ H' s':=Inv.call' I os un hok bare (ch:=[]) λb z=>absurd z (by simp)
 refine⟨e,c,H',rfl,I',.fly B a0 fl λb o eb old n=>cov b o eb ?_ n,q⟩;rcases old with⟨o,z⟩|z|⟨p,hp,rfl⟩|⟨x,z⟩
 .exact .inl (I.base.there b o z (by rw[F.1];simp))
 .exact .inr z
 .exact .inl ⟨_,(I.pin p hp).1⟩
 .obtain⟨v,ob,ho,_⟩:=I.cell x b z
  exact .inl ⟨ob,ho⟩
end
structure RoomC (cm:Ap)(k:Aj)(A:AF):Prop where
 hd:cm=true->A.handled=none
 dp:A.depth+3*k+5<Hs
 un:A.units+16*k+200<D3
 gd:A.guards=Ab []
theorem RoomC.mono {cm:Ap}{j k:Aj}{A:AF}(r:RoomC cm k A)(h:j<=k:=by decide):RoomC cm j A:=⟨r.hd,by have:=r.dp;omega,by have:=r.un;omega,r.gd⟩
theorem RoomC.deeper {cm:Ap}{k:Aj}{A:AF}(r:RoomC cm (k+1) A)(env:DD):RoomC cm k (A.deeper env):=
 ⟨r.hd,by have:=r.dp;show A.depth+1+3*k+5<_;omega,by have:=r.un;show A.units+3+16*k+200<_;omega,r.gd⟩
theorem RoomC.depth {cm:Ap}{k:Aj}{A:AF}(r:RoomC cm k A):A.depth<Hs:=by have:=r.dp;omega
theorem RoomC.units {cm:Ap}{k:Aj}{A:AF}(r:RoomC cm k A):A.units+64<D3:=by have:=r.un;omega
theorem RoomC.of {k:Aj}{A:AF}(r:Room k A):RoomC true k A:=⟨λ_=>r.hd,r.dp,r.un,r.gd⟩
theorem RoomC.any {cm:Ap}{k:Aj}{A:AF}(r:RoomC cm k A):RoomC false k A:=⟨(λz=>nomatch z),r.dp,r.un,r.gd⟩
theorem RoomC.mark {cm:Ap}{k:Aj}{A:AF}(r:RoomC cm k A)(h:Ak Ac):RoomC false k (A.mark h):=⟨(λz=>nomatch z),r.dp,r.un,r.gd⟩
abbrev Cx.re (X:Cx)(A:AF)(cm:Ap)(E:Ac->Af->Prop):Cx:={ X with A:=A,calm:=cm,xe:=E }
theorem Inv.re {X:Cx}{pins:Aa (Ad × AL)}{σ:_L.St}{H:Hp}{s:Af}(I:Inv X pins σ H s)(A:AF)(cm:Ap)(E:Ac->Af->Prop)(hf:A.frames=Ab X.stack)(hh:cm=true->A.handled=none):Inv (Cx.re X A cm E) pins σ H s:=
 ⟨⟨I.ok.mod,I.ok.kind,I.ok.glob,I.ok.blt,I.ok.above,I.ok.inj,I.ok.has,I.ok.cab,hh,hf,I.ok.stk,I.ok.exf,I.ok.bs,I.ok.bsz,I.ok.noex,I.ok.exfs,I.ok.funs,I.ok.frf⟩,I.os,I.bare,I.base,I.loc,I.cell,I.free,I.freeC,I.pin,I.hok,I.len⟩
theorem Inv.unre {X:Cx}{pins:Aa (Ad × AL)}{σ:_L.St}{H:Hp}{s:Af}{A:AF}{cm:Ap}{E:Ac->Af->Prop}(I:Inv (Cx.re X A cm E) pins σ H s)(hf:X.A.frames=Ab X.stack)(hh:X.calm=true->X.A.handled=none):Inv X pins σ H s:=
 ⟨⟨I.ok.mod,I.ok.kind,I.ok.glob,I.ok.blt,I.ok.above,I.ok.inj,I.ok.has,I.ok.cab,hh,hf,I.ok.stk,I.ok.exf,I.ok.bs,I.ok.bsz,I.ok.noex,I.ok.exfs,I.ok.funs,I.ok.frf⟩,I.os,I.bare,I.base,I.loc,I.cell,I.free,I.freeC,I.pin,I.hok,I.len⟩
structure FnX (P:A0)(w:AH)(K:Ah)(mg:An->Ak Ac)(base:A8)(cm:Ap)(k:Aj)(f:Ad)(fd:CF)(ps:Aa An)(sp:Sp):Prop where
 len:∀ vs H Q E,sp vs H Q E->vs.length=ps.length
 run:∀ (A:AF) (outer:Aa DD) (s:Af) (H:Hp) (args:Args) (us:Aa Ac) (vs:Aa V) (Q:VK) (E:XK),RoomC cm k A->Env0 P w K mg base A outer s H->Gf s fd args (ps.zip us)->qK vs us->sp vs H Q E ->
  D6 (Aq P w) A (.call (.ref f) args) (CR (CXd P w) outer P w H s Q E) s
theorem FnX.ok {P:A0}{w:AH}{K:Ah}{mg:An->Ak Ac}{base:A8}{k:Aj}{f:Ad}{fd:CF}{ps:Aa An}(F:FnX P w K mg base true k f fd ps sp):FnOk P w K mg base (CXd P w) k f fd ps sp:=
 ⟨F.len,λA outer s H args us vs Q E hr=>F.run A outer s H args us vs Q E (.of hr)⟩
theorem FnX.any {P:A0}{w:AH}{K:Ah}{mg:An->Ak Ac}{base:A8}{cm:Ap}{k:Aj}{f:Ad}{fd:CF}{ps:Aa An}(F:FnX P w K mg base false k f fd ps sp):FnX P w K mg base cm k f fd ps sp:=
 ⟨F.len,λA outer s H args us vs Q E hr=>F.run A outer s H args us vs Q E hr.any⟩
theorem FnX.imp {P:A0}{w:AH}{K:Ah}{mg:An->Ak Ac}{base:A8}{cm:Ap}{k:Aj}{f:Ad}{fd:CF}{ps:Aa An}{sp':Sp}(F:FnX P w K mg base cm k f fd ps sp)
  (h:∀ vs H Q E,sp' vs H Q E->sp vs H Q E):FnX P w K mg base cm k f fd ps sp':=
 ⟨λvs H Q E q=>F.len vs H Q E (h _ _ _ _ q),λA outer s H args us vs Q E hr he hb hv hs=>F.run A outer s H args us vs Q E hr he hb hv (h _ _ _ _ hs)⟩
noncomputable def cxC (cm:Ap)(P:A0)(w:AH)(K:Ah)(mg:An->Ak Ac)(base:A8)(N:Aa An)(qual:An)(scope:Bu)(f:Ad)(cd:Ac)(A:AF)(outer:Aa DD)(s:Af)(H:Hp)(E:XK):Cx where
 prog:=P
 w:=w
 K:=K
 mg:=mg
 base:=base
 A:=A.deeper (CY qual scope s.heap.objs.size f cd)
 N:=N
 s₀:=s
 H₀:=H
 env:=CY qual scope s.heap.objs.size f cd
 outer:=outer
 stack:=CY qual scope s.heap.objs.size f cd::outer
 ex:=[]
 calm:=cm
 fn:=λ_=>true
 pn:=[]
 xe:=λe s'=>Ao (Aq P w) (A.deeper (CY qual scope s.heap.objs.size f cd)) (leaving (CY qual scope s.heap.objs.size f cd) e) (λ_ s''=>CXd P w outer H s E e s'') (λe' s''=>CXd P w outer H s E e' s'') s'
section
variable {P:A0}{w:AH}{K:Ah}{mg:An->Ak Ac}{base:A8}{cm:Ap}{N:Aa An}{qual:An}{scope:Bu}{f:Ad}{cd:Ac}{A:AF}{outer:Aa DD}{s:Af}{H:Hp}{E:XK}
theorem aA:Gy (Aq P w) (A.deeper (CY qual scope s.heap.objs.size f cd)) (CY qual scope s.heap.objs.size f cd) (cxC cm P w K mg base N qual scope f cd A outer s H E).xe:=PassesOwn.leaving (Q₁:=λe s''=>CXd P w outer H s E e s'')
abbrev xeL (P:A0)(w:AH)(A:AF)(env:DD)(outer:Aa DD)(H:Hp)(s:Af)(E:XK):Ac->Af->Prop:=λe s'=>Ao (Aq P w) (A.deeper env) (leaving env e) (λ_ s''=>CXd P w outer H s E e s'') (λe' s''=>CXd P w outer H s E e' s'') s'
theorem mM {X:Cx}{P0:Hp}{α:Aa Ad}{c:Ac}{x:D}{s':Af}(hA:X.A=A.deeper X.env)(k:XOk X P0 α c x S u s')
  (q:∀ H' P' α',Rel X.K H' P' α' S->qF P0 P'->α<+:α'->E c none H'):xeL X.prog X.w A X.env X.outer X.H₀ X.s₀ E u s':=by
 obtain⟨e,pins,σ,H1,P1,α1,rfl,I,r,e1,e2,F,fl⟩:=k;unfold xeL;rw[<- hA];refine eB I F I.ok.frames fl λh' B a0 x1 I1 cv=>?_;refine⟨e,c,H1,B,a0,rfl,I1.os,I1.bare,by have z:=I1.base;rw[F.1] at z;exact z,I1.hok,x1,λb o eb hb n=>cv b o eb ?_ λz=>?_,q H1 P1 α1 r e1 e2⟩
 .rcases hb with z|z
  .exact .inl z
  .exact .inr (.inl z)
 .rcases (Fn1.mem F).mp z with z|z
  .subst z
   rcases hb with⟨o',e'⟩|z
   .exact absurd (Ay e') (Ke.mpr I1.ok.above)
   .exact z I1.free
  .exact n z
theorem dP {ps:Aa An}{s1:Af}(S:FnScope N ps scope)(hd:cm=true->A.handled=none)(e0:Env0 P w K mg base A outer s H)(hl:vs.length=ps.length)(r:qK vs us)
  (x:InCallC s s.heap.objs.size (Jw (CY qual scope s.heap.objs.size f cd).kindOf (ps.zip us) λ_=>none) (Dt (s.heap.objs.size+1) scope.names []) (Jx (CY qual scope s.heap.objs.size f cd).kindOf (ps.zip us) λ_=>none) s1) :
  Inv (cxC cm P w K mg base N qual scope f cd A outer s H E) [] (_L.x6 N vs) H s1:=by
 have I:=f7 (CX:=CXd P w) (E:=E) (A:={ A with handled:=none }) S rfl ⟨e0.frames,e0.mod,e0.bs,e0.bsz,e0.funs,e0.frf,e0.hok,e0.bare⟩ hl r x
 have J:=Inv.re I (A.deeper (CY qual scope s.heap.objs.size f cd)) cm (cxC cm P w K mg base N qual scope f cd A outer s H E).xe (Gs e0.frames) hd;exact J
end
theorem rP {P:A0}{w:AH}{K:Ah}{mg:An->Ak Ac}{base:A8}{cm:Ap}{k:Aj}{f:Ad}{qual:An}{params:Ha}{scope:Bu}{oc:Ac}{an:Ak Ad}{osl:A6 (Ak Ac)}{x:An}{kV doc pm cdv ct:Ac}{N ps:Aa An}
  {A:AF} {outer:Aa DD} {s:Af} {H:Hp} {args:Args} {us:Aa Ac} {vs:Aa V} {Q:VK} {E:XK} (lk:K.lookup f=Ab ⟨oc,od,.func (Dd x qual params body scope .none kV doc pm an cdv ct),osl⟩) (hcd:EG K cdv qual=true) (S:FnScope N ps scope) (hl:vs.length=ps.length) (hr:RoomC cm (k+1) A)
  (e0:Env0 P w K mg base A outer s H) (hb:Gf s (Dd x qual params body scope .none kV doc pm an cdv ct) args (ps.zip us)) (r:qK vs us)
  (hbody:∃ t,PSs (cxC cm P w K mg base N qual scope f cdv A outer s H E) body t/\t { nx:=λ_ H'=>Q .non H',rt:=Q } (_L.x6 N vs) H) :
  D6 (Aq P w) A (.call (.ref f) args) (CR (CXd P w) outer P w H s Q E) s:=by
 have KX:K.In s.heap:=e0.mod.kin.keeps λb o e=>(e0.bs b o e).1;have lim:s.heap.NoLimit:=e0.mod.nolimit.keeps λb o e=>(e0.bs b o e).1;have hkind:∀ y∈ps.zip us,scope.names.lookup y.1=Ab .local \/ (scope.names.lookup y.1=Ab .cell/\((Dt (s.heap.objs.size+1) scope.names []).lookup y.1).isSome=true):=λ⟨n,v⟩ hy=>by
  rcases S.par n (Fa hy).1 with q|q
  .exact .inl q
  .exact .inr ⟨q,Ex _ _ _ (.inl q)⟩
 refine IV hr.depth (KX _ _ lk) rfl S.co S.gen rfl (Kq KX hcd) (hb _ _ _ _ ?_);refine Hx S.kind hkind λenv he s1 x=>?_;subst he;refine⟨lim.keeps x.toInCall.keep,codeAny_func ?_⟩;obtain⟨t,ht,hq⟩:=hbody;have I:Inv (cxC cm P w K mg base N qual scope f cdv A outer s H E) [] (_L.x6 N vs) H s1:=dP S hr.hd e0 hl r x;refine Dp (ht [] s1 (_L.x6 N vs) H _ I hq) (λfl s' hs=>?_) λe s' hs=>hs;have fin:∀ {σ' : _L.St} {H':Hp} {v:V} {u:Ac},Inv (cxC cm P w K mg base N qual scope f cdv A outer s H E) [] σ' H' s'->qJ v u->Q v H'->CE outer P w H s Q u s':=
  λ{σ' H' v u} J rv q=>⟨v,H',J.os,J.bare,J.base,J.hok,rv,q⟩
 cases fl with
 |ret u =>
  obtain⟨v,σ',H',J,rv,q⟩:=hs;exact fin J rv q
 |next =>
  obtain⟨σ',H',J,q⟩:=hs;exact fin (v:=V.non) (u:=Bk) J rfl q
 |brk =>
  obtain⟨_,_,_,q⟩:=hs;exact Al q
 |cont =>
  obtain⟨_,_,_,q⟩:=hs;exact Al q
def uL (K:Ah)(x:An)(cdv:Ac):Prop:=∀ c T,Bb K x=Ab (c,T)->cdv=.ref c
theorem VY {P:A0}{w:AH}{K:Ah}{mg:An->Ak Ac}{base:A8}{cm:Ap}{k:Aj}{f:Ad}{x qual:An}{st:Ca}{fd:CF}{N ps:Aa An}(F:Fun K x qual st f fd)(S:FnScope N ps (qG st))
  (len:∀ vs H Q E,sp vs H Q E->vs.length=ps.length)
  (hbody:∀ (cdv:Ac) (A:AF) (outer:Aa DD) (s:Af) (H:Hp) (vs:Aa V) (Q:VK) (E:XK),fd.code=cdv/\Mod K mg base->RoomC cm k (A.deeper (CY qual (qG st) s.heap.objs.size f cdv))->sp vs H Q E ->
   ∃ t,PSs (cxC cm P w K mg base N qual (qG st) f cdv A outer s H E) (zB st) t/\t { nx:=λ_ H'=>Q .non H',rt:=Q } (_L.x6 N vs) H) :
  FnX P w K mg base cm (k+1) f fd ps sp:=by
 obtain⟨oc,od,kV,doc,pm,an,cdv,ct,osl,rfl,lk,hcd⟩:=F.ex;exact⟨len,λA outer s H args us vs Q E hr e0 hb r hsp=>rP lk hcd S (len _ _ _ _ hsp) hr e0 hb r (hbody cdv A outer s H vs Q E ⟨rfl,e0.mod⟩ (hr.deeper _) hsp)⟩
noncomputable def wM (n:Aj)(ds:Aa D):qE:=ds.map Ab++DH (n-ds.length) none
noncomputable def M6:Out->Res D
 |.rt d S=>.ok d S
 |.nx _ S=>.ok .non S
 |.ex c x _ S=>.ex c x S
 |_=>.bad
noncomputable def qW (n:Aj)(g:DS):DF:=λds S=>M6 (g (wM n ds) S)
def spR (K:Ah)(P:Hp)(α : Aa Ad)(R:Res D)(Q:VK)(E:XK):Prop:=match R with
 |.ok d S'=>∀ v H' P' α',Rel K H' P' α' S'->qF P P'->α<+:α'->Rep K P' α' d v->Q v H'
 |.ex c _ S'=>∀ H' P' α',Rel K H' P' α' S'->qF P P'->α<+:α'->E c none H'
 |.bad=>Cp
def spD (K:Ah)(n:Aj)(F:DF):Sp:=λvs H Q E=>vs.length=n/\∃ P α ds S,Rel K H P α S/\qD K P α ds vs/\spR K P α (F ds S) Q E
theorem sH {K:Ah}{P:Hp}{α:Aa Ad}{N:Aa An}{ds:Aa D}(r:qD K P α ds vs):qS K P α (_L.x6 N vs) (wM N.length ds):=by
 refine⟨by simp[wM,_L.x6,r.length],λi d e=>?_⟩
 unfold wM at e;unfold _L.x6;by_cases hi:i<ds.length
 .rw[AY (by simpa using hi),Ce] at e
  rw[AY (by rw[Az,<- r.length];exact hi),Ce]
  cases q:ds[i]? with
  |none=>rw[q] at e;cases e
  |some d' =>
   rw[q] at e;cases e;obtain⟨v,h1,h2⟩:=r.get q;exact⟨v,by rw[h1];rfl,h2⟩
 .rw[Bc (by simpa using hi),Fm] at e
  split at e <;> cases e
section
variable {P:A0}{w:AH}{K:Ah}{mg:An->Ak Ac}{base:A8}{cm:Ap}
theorem mB {qual:An}{scope:Bu}{f:Ad}{cdv:Ac}{A:AF}{outer:Aa DD}{s:Af}{H P':Hp}{E:XK}{N:Aa An}{g:DS}{α:Aa Ad}{ds:Aa D}{S':Sto}(hb:PSs (cxC cm P w K mg base N qual scope f cdv A outer s H E) body (tDS (cxC cm P w K mg base N qual scope f cdv A outer s H E) g))
  (r:Rel K H P' α S') (rp:qD K P' α ds vs) (af:spR K P' α (qW N.length g ds S') Q E):∃ t,PSs (cxC cm P w K mg base N qual scope f cdv A outer s H E) body t/\t { nx:=λ_ H'=>Q .non H',rt:=Q } (_L.x6 N vs) H:=by
 refine⟨_,hb,P',α,wM N.length ds,S',r,sH rp,?_⟩;unfold qW at af;cases q:g (wM N.length ds) S' with
 |rt d S1=>rw[q] at af;exact λv H' P1 α1 r1 e1 e2 p1=>af v H' P1 α1 r1 e1 e2 p1
 |nx env S1=>rw[q] at af;exact λσ' H' P1 α1 r1 re1 e1 e2=>af .non H' P1 α1 r1 e1 e2 (by simp only[Rep])
 |bk env S1=>rw[q] at af;exact Al af
 |ct env S1=>rw[q] at af;exact Al af
 |ex c x env S1=>rw[q] at af;exact λu s' z=>mM (A:=A) rfl z λH' P1 α1 r1 e1 e2=>af H' P1 α1 r1 e1 e2
 |bad=>rw[q] at af;exact Al af
theorem fnX {x qual:An}{st:Ca}{f:Ad}{fd:CF}{N ps:Aa An}{k:Aj}{g:DS}(F:Fun K x qual st f fd)(S:FnScope N ps (qG st))
  (hbody:∀ (cdv:Ac) (A:AF) (outer:Aa DD) (s:Af) (H:Hp) (E:XK),fd.code=cdv/\Mod K mg base->RoomC cm k (A.deeper (CY qual (qG st) s.heap.objs.size f cdv)) ->
   PSs (cxC cm P w K mg base N qual (qG st) f cdv A outer s H E) (zB st) (tDS (cxC cm P w K mg base N qual (qG st) f cdv A outer s H E) g)) :
  FnX P w K mg base cm (k+1) f fd ps (spD K ps.length (qW N.length g)):=by
 refine VY F S (λvs H Q E h=>h.1) λcdv A outer s H vs Q E hc hr h=>?_;obtain⟨hl,P',α,ds,S',r,rp,af⟩:=h;exact mB (hbody cdv A outer s H E hc hr) r rp af
end
section
variable {X:Cx}{cm:Ap}{k:Aj}{f:Ad}{fd:CF}{ps:Aa An}{F:DF}{x:An}{p pos:CD}{e:AE}{es:Aa AE}{fa:DA}{n:Aj}
noncomputable def qN (n:Aj)(F:DF)(fa:DA):DE:=λenv S=>(fa env S).bind λds S1=>if ds.length=n then F ds S1 else .bad
def EX (X:Cx)(P:Hp)(α : Aa Ad)(R:Res D):XK:=λc _ H'=>match R with
 |.ex c' _ S'=>c=c'/\∃ P' α',Rel X.K H' P' α' S'/\qF P P'/\α<+:α'
 |_=>Cp
theorem tS {P:Hp}{α:Aa Ad}{R:Res D}(af:qP X P α R Q):spR X.K P α R Q (EX X P α R):=by
 cases R with
 |ok d S'=>exact af
 |ex c x S'=>exact λH' P' α' r' e1 e2=>⟨rfl,P',α',r',e1,e2⟩
 |bad=>exact af
theorem gB {pins:Aa (Ad × AL)}{σ:_L.St}{H:Hp}{s:Af}{P:Hp}{α:Aa Ad}{R:Res D}(hF:(∃ c x S',R=.ex c x S')->Fn1 X)(I:Inv X pins σ H s)(af:qP X P α R Q)
  (h:D6 (Aq X.prog X.w) X.A (.call u ⟨us,[]⟩) (CR (CXd X.prog X.w) X.stack X.prog X.w H s Q (EX X P α R)) s):Ao (Aq X.prog X.w) X.A (call u us) (EP X pins σ Q) X.xe s:=by
 refine Kf (Hk h λr s' hq=>?_);cases r with
 |error u =>
  have hq:CXd X.prog X.w X.stack H s (EX X P α R) u s':=hq;cases R with
  |ok d S'=>obtain⟨_,_,_,_,_,_,_,_,_,_,_,_,q⟩:=hq;exact Al q
  |bad=>exact Al af
  |ex c' x' S' =>
   have hG:=hF ⟨_,_,_,rfl⟩;obtain⟨a,c,H',rfl,I',fl,rfl,P',α',r',e1,e2⟩:=VX I hG hq;exact af _ _ ⟨a,pins,σ,H',P',α',rfl,I',r',e1,e2,hG,fl⟩
 |ok fl =>
  cases fl with
  |ret u=>exact I.after hq
  |next=>exact Al hq
  |brk=>exact Al hq
  |cont=>exact Al hq
theorem lP {pins:Aa (Ad × AL)}{σ:_L.St}{H:Hp}{s:Af}{P:Hp}{α:Aa Ad}{ds:Aa D}(G:FnX X.prog X.w X.K X.mg X.base cm k f fd ps (spD X.K n F))(hr:RoomC cm k X.A)(hb:wC X.K fd ps [])(hF:Fn1 X)
  (I:Inv X pins σ H s) (r:Rel X.K H P α S) (rv:qK vs us) (rp:qD X.K P α ds vs) (hn:ds.length=n) (af:qP X P α (F ds S) Q):Ao (Aq X.prog X.w) X.A (call (.ref f) us) (EP X pins σ Q) X.xe s:=by
 have hsp:spD X.K n F vs H Q (EX X P α (F ds S)):=⟨by rw[<- rp.length];exact hn,P,α,ds,S,r,rp,tS af⟩
 have hl:us.length=ps.length:=by rw[<- rv.length];exact G.len _ _ _ _ hsp
 have hb':=hb s us I.kIn (by rw[CG];exact hl)
 rw[CG] at hb';exact gB (λ_=>hF) I af (G.run X.A X.stack s H ⟨us,[]⟩ us vs Q _ hr I.env0 hb' rv hsp)
theorem jX {env:qE}{S:Sto}{P:Hp}{α:Aa Ad}{ds:Aa D}{Ok:D->Sto->Prop}(h:qI X P α (if ds.length=n then F ds S1 else .bad) Ok):ds.length=n/\qI X P α (F ds S1) Ok:=by
 by_cases hn:ds.length=n
 .rw[AA hn] at h;exact⟨hn,h⟩
 .rw[AD hn] at h;exact Al h
theorem ZH (G:FnX X.prog X.w X.K X.mg X.base cm k f fd ps (spD X.K n F))(hr:RoomC cm k X.A)(hF:Fn1 X)(hg:Gl X x)(hm:X.mg x=Ab (.ref f))(hk:Bz X.K (.ref f)=true)(hb:wC X.K fd ps [])
  (ha:PA X (e::es) (tDA X fa)) (hdb:(x == ("__debug__" : An))=false:=by decide) (he:Av (e::es) X.env=(false,eval e X.env)::Av es X.env:=by rfl) (hpl:(CB pos (Av es X.env)).any (·.1)=false:=by rfl) :
  PE X (.Call (.Name x p) (e::es) [] pos) (tD X (qN n F fa)):=by
 intro pins s σ H Q I h;obtain⟨P,α,env,S,r,re,af⟩:=h;refine Dh (wV I hg hm ?_ hdb);refine Fi (h₀:=X.base) I.ok.mod.kin hk (thn (xB ha I r re af pos) λus s1 ⟨vs,H1,P1,α1,ds,S1,I1,rv,r1,re1,rp,e1,e2,af1⟩=>⟨I1.kIn,?_⟩) he hpl;obtain⟨hn,af2⟩:=jX (env:=env) (S:=S) af1;exact lP G hr hb hF I1 r1 rv rp hn (qP.base e1 e2 af2)
end
noncomputable abbrev m9:Aa Ac:=[.type "ValueError",.type "Exception",.type "BaseException",.type "object"]
noncomputable def GZ:Ac->Ap
 |.str _ _=>true
 |_=>false
noncomputable def uH (K:Ah)(N:Ad):Ap:=(match Gj N K with
 |some o=>match o.data with
  |.dict es _=>es.toList.all λe=>GZ e.key
  |_=>false
 |none=>false)&&decide (Bl K N "__init__" = Ab none)
theorem xV {K:Ah}{N:Ad}(h:uH K N=true):Na K N=true/\Bl K N "__init__" = Ab none:=by
 unfold uH at h;rw[A5,AI] at h;refine⟨?_,h.2⟩;have h1:=h.1;unfold Na;cases e:Gj N K with
 |none=>rw[e] at h1;cases h1
 |some o =>
  rw[e] at h1;obtain⟨oc,od,dt,sl⟩:=o;cases dt with
  |dict es ep =>
   simp only at h1 ⊢;rw[Array.all_toList] at h1;refine Eq.trans (congrArg (λf=>Array.all es f) (funext λe=>?_)) h1;cases e.key <;> rfl
  |_=>cases h1
noncomputable def fU (K:Ah)(C:Ad)(f:Ac->L4->A6 (Ak Ac)->Ap):Ap:=match Gj C K with
 |some o=>(match o.data with|.cls cd=>f o.cls cd o.slots|_=>false)
 |none=>false
theorem tG {K:Ah}{f:Ac->L4->A6 (Ak Ac)->Ap}(h:fU K C f=true):∃ oc od cd sl,Gj C K=Ab ⟨oc,od,.cls cd,sl⟩/\f oc cd sl=true:=by
 unfold fU at h;cases e:Gj C K with
 |none=>rw[e] at h;exact DB h
 |some o =>
  rw[e] at h;obtain⟨oc,od,dt,sl⟩:=o;cases dt with
  |cls cd=>exact⟨oc,od,cd,sl,rfl,h⟩
  |_=>exact DB h
noncomputable def gD (K:Ah)(C A:Ad):Ap:=fU K C λoc cd sl=>fU K A λ_ ca _=>decide (oc=.type "type")&&(decide (cd.mro=.ref C::.ref A::m9)&&(!cd.hasDel&&(uH K cd.ns&&(uH K ca.ns&&(decide (sl.toList.length=6)&&decide (sl.toList[4]? = Ab (Ab (.builtin "ValueError.__new__"))))))))
inductive ExcO (h:A8)(C:Ad):Prop
 |mk (nm q:An) (N:Ad) (bs bm:Aa Ac) (hdct:Ap) (sn:Aa An) (sub:Aa Ac) (ab:Ap) (col:Ak Ap) (dd:Ak Ad) (k0 k1 k2 k3 k5:Ak Ac) (mN:An->Ak Ac) (hC:h.get? C=Ab (excClassObj nm q C N bs bm hdct sn sub ab col dd k0 k1 k2 k3 k5 "ValueError.__new__")) (hN:h.Ns N mN) (hni:mN "__init__" = none) (T:OwnTail h m9 bm):ExcO h C
theorem bK {β:Type}{l:Aa β}{n:Aj}(h:l.length=n+1):∃ a t,l=a::t/\t.length=n:=by
 cases l with
 |nil=>exact Nat.noConfusion h
 |cons a t=>exact⟨a,t,rfl,NH h⟩
theorem six {β:Type}{l:Aa β}(h:l.length=6):∃ a b c d e f,l=[a,b,c,d,e,f]:=by
 obtain⟨a,t,e1,h⟩:=bK h;obtain⟨b,t2,e2,h⟩:=bK h;obtain⟨c,t3,e3,h⟩:=bK h;obtain⟨d,t4,e4,h⟩:=bK h;obtain⟨e,t5,e5,h⟩:=bK h;obtain⟨f,t6,e6,h⟩:=bK h;exact⟨a,b,c,d,e,f,by rw[e1,e2,e3,e4,e5,e6,Fo.mp h]⟩
theorem UQ {cd:L4}{tl:Aa Ac}{k0 k1 k2 k3 k4 k5:Ak Ac}{n:Bg}(hm:cd.mro=.ref C::tl)(hd:cd.hasDel=false)(hs:sl.toList=[k0,k1,k2,k3,k4,k5])(hn:sl.toList[4]? = Ab (Ab (.builtin n))) :
  (⟨.type "type",od,.cls cd,sl⟩:AL)=excClassObj cd.name cd.qualname C cd.ns cd.bases tl cd.hasDict cd.slotNames cd.subclasses cd.abstract cd.collection od k0 k1 k2 k3 k5 n:=by
 rw[hs] at hn;cases hn;cases cd;cases sl;cases hm;cases hd;cases hs;rfl
theorem X1 {K:Ah}{h:A8}{A:Ad}{cd:L4}(KI:K.In h)(e:Gj C K=Ab ⟨.type "type",od,.cls cd,sl⟩)(h2:cd.mro=.ref C::.ref A::m9)(h3:cd.hasDel=false)(h4:uH K cd.ns=true)(h6:sl.toList.length=6)(h7:sl.toList[4]? = Ab (Ab (.builtin "ValueError.__new__")))(T:OwnTail h m9 (.ref A::m9)):ExcO h C:=by
 obtain⟨k0,k1,k2,k3,x,k5,es⟩:=six h6;exact⟨_,_,_,_,_,_,_,_,_,_,_,k0,k1,k2,k3,k5,_,(KI _ _ e).trans (congrArg Ab (UQ h2 h3 es h7)),.of_isNs (Ku KI (xV h4).1),HS KI (xV h4).1 (xV h4).2,T⟩
theorem X2 {K:Ah}{h:A8}{A:Ad}(KI:K.In h)(z:gD K C A=true):ExcO h C:=by
 obtain⟨oc,od,cd,sl,e,z⟩:=tG z;obtain⟨qc,qd,ca,ql,e2,z⟩:=tG z;have a1:=CU.mp z;have a2:=CU.mp a1.2;have a3:=CU.mp a2.2;have a4:=CU.mp a3.2;have a5:=CU.mp a4.2;have a6:=CU.mp a5.2;rw[AU a1.1] at e;exact X1 KI e (AU a2.1) (HG _▸a3.1) a4.1 (AU a6.1) (AU a6.2) (.own (KI _ _ e2) (.of_isNs (Ku KI (xV a5.1).1)) (HS KI (xV a5.1).1 (xV a5.1).2) .base)
section
variable {X:Cx}{pos:CD}{fa:DA}
noncomputable def uI (c:Ac)(fa:DA):DS:=λenv S=>(fa env S).toS env λds S1=>if ds.length<=lim then .ex c .non env S1 else .bad
inductive GotAS (X:Cx)(pins:Aa (Ad × AL))(σ : _L.St)(env:qE)(P:Hp)(α : Aa Ad)(us:Aa Ac)(s1:Af)(k:Aa D->Sto->Out)(E:Ends):Prop
 |mk (vs:Aa V) (H1 P1:Hp) (α1:Aa Ad) (ds:Aa D) (S1:Sto) (I:Inv X pins σ H1 s1) (rv:qK vs us) (r:Rel X.K H1 P1 α1 S1) (re:qS X.K P1 α1 σ env) (rp:qD X.K P1 α1 ds vs) (e1:qF P P1) (e2:α<+:α1) (q:qU X P1 α1 (k ds S1) E):GotAS X pins σ env P α us s1 k E
theorem ZD {es:Aa AE}{k:Aa D->Sto->Out}{pins:Aa (Ad × AL)}{s:Af}{σ:_L.St}{H P:Hp}{α:Aa Ad}{env:qE}{D:Ends}(he:PA X es (tDA X fa))(I:Inv X pins σ H s)(r:Rel X.K H P α S)
  (re:qS X.K P α σ env) (af:qU X P α ((fa env S).toS env k) D) (pos:CD) :
  Ao (Aq X.prog X.w) X.A (spliced (CB pos (Av es X.env))) (λus s1=>GotAS X pins σ env P α us s1 k D) X.xe s:=by
 have af1:qI X P α ((fa env S).bind λd S=>.ok d S) λd S=>qU X P α (k d S) D:=by
  have:=x8 af;cases q:fa env S <;> rw[q] at this <;> exact this
 exact thn (xB he I r re af1 pos) λu s1 ⟨vs,H1,P1,α1,ds,S1,I1,rv,r1,re1,rp,e1,e2,q⟩=>⟨vs,H1,P1,α1,ds,S1,I1,rv,r1,re1,rp,e1,e2,qU.base e1 e2 q⟩
theorem aR {x:An}{Ae:Ad}{e₀:AE}{rest:Aa AE}{np cpos:CD}(hc:X.calm=true)(hF:Fn1 X)(hg:Gl X x)(hm:X.mg x=Ab (.ref C))(hx:gD X.K C Ae=true)(ha:PA X (e₀::rest) (tDA X fa))
  (hdb:(x == ("__debug__" : An))=false:=by decide) (he:Av (e₀::rest) X.env=(false,eval e₀ X.env)::Av rest X.env:=by rfl) (hpl:(CB cpos (Av rest X.env)).any (·.1)=false:=by rfl) :
  PS X (.Raise (Ab (.Call (.Name x np) (e₀::rest) [] cpos)) none pos) (tDS X (uI (.ref C) fa)):=by
 intro pins s σ H D I h;obtain⟨P,α,env,S,r,re,af⟩:=h;obtain⟨nm,qn,N,bs,tl,hdct,sn,sub,ab,col,dd,k0,k1,k2,k3,k5,mN,hC,hN,hni,T⟩:=X2 I.mod.kin hx;refine wpAny_Raise_call_subT (C:=C) (nm:=nm) (q:=qn) (N:=N) (bs:=bs) (bm:=tl) (hdct:=hdct) (sn:=sn) (sub:=sub) (ab:=ab) (col:=col) (dd:=dd) (k0:=k0) (k1:=k1) (k2:=k2) (k3:=k3) (k5:=k5)
  H8 (mN:=mN) (T.hasType H8.hasBase) (I.ok.hd hc) (by rw[he];show (false||(CB cpos (Av rest X.env)).any (·.1))=false;rw[hpl];rfl) hni (wV I hg hm ⟨rfl,?_⟩ hdb)
 have run:=ZD ha I r re af cpos;rw[he] at run ⊢;refine Jn (thn run λus s2 ⟨vs,H1,P1,α1,ds,S1,I1,rv,r1,re1,rp,e1,e2,q⟩=>?_);have hl:us.length=ds.length:=by rw[rp.length,rv.length]
 by_cases hz:ds.length<=lim
 .rw[AA hz] at q
  refine⟨rfl,by rw[hl,<- zK];exact hz,I1.bk _ _ hC,hN.keeps I1.bk,T.keeps I1.bk,λh' e hm=>q _ _ ⟨e,pins,σ,H1,P1,α1,rfl,I1.kept (t':=s2.toks) hm.keeps,r1,qF.refl _,A3 _,hF,.new s2.heap us hm I1.stack λb o eb old=>?_⟩⟩
  obtain⟨o1,q1⟩:=Old.there I1 hF old;have q2:=hm.keeps b o1 q1;rw[eb] at q2;cases q2;exact q1
 .rw[AD hz] at q;exact Al q
end
section
variable {X:Cx}{pins:Aa (Ad × AL)}{σ : _L.St}{H:Hp}{s:Af}
theorem dW {M:EM}{A:AF}{E:Ac->Af->Prop}{base h:A8}{env:DD}{outer:Aa DD}{L e:Ad}{cls:Ac}{Q:Ho->Af->Prop}
  (hfr:A.frames=Ab (env::outer)) (hf:env.frame=Ab L) (hkb:base.StaysIn h) (hl:h.FunFrames base (env::outer)) (hx:Jg h s.heap e cls args)
  (hQ:∀ h' a0,NZ base (env::outer) e cls a0 L h'->s.heap.UpToSlots h'->Q () { s with heap:=h' }) : Ao M A (IX (.ref e) env) Q E s:=by
 obtain⟨t,he,htn,ht⟩:=hx.there;have fresh:∀ b,h.get? b=none->base.get? b=none:=λb hb=>by
  cases hq:base.get? b with
  |none=>rfl
  |some o'=>have z:=hkb b o' hq;rw[hb] at z;cases z
 unfold IX;simp only[hf];refine Ag (Bm he rfl (x:=.none) rfl ?_);rw[AD (by decide)]
 refine wpAny_entryW hfr (hl.of_keeps λb o hb _=>⟨o,hx.keeps b o hb,rfl⟩) hf he (λb o hb=>hx.keeps b o (hkb b o hb)) (fresh e hx.new) rfl (by simp) (a0:=.ref t) rfl λh' hN=>?_
 obtain⟨n1,n2,n3,n4⟩:=hN;exact hQ h' (.ref t) ⟨n1,fresh e hx.new,n2,n3⟩ n4
theorem iO {M:EM}{A:AF}{E:Ac->Af->Prop}{c:Ac}{e:Ad}{Q:Ho->Af->Prop}(I:Inv X pins σ H s)(F:Fn1 X)(hA:A.frames=Ab X.stack)(f:FlyX X pins H c e s.heap)
  (hQ:∀ h' B a0,Hl B X.stack e c a0 h'->Inv X pins σ H { s with heap:=h' } -> Cv X pins H B h'->Q () { s with heap:=h' }) :
  Ao M A (IX (.ref e) X.env) (λ_ s₂=>Ao M A (L5 (.ref e) none) Q E s₂) E s:=by
 have land:∀ (B:A8) (a0:Ac) (h1:A8),Cv X pins H B s.heap->NZ B X.stack e c a0 X.env.locals h1->s.heap.UpToSlots h1->Ao M A (L5 (.ref e) none) Q E { s with heap:=h1 }:=λB a0 h1 cv hh up=>by
  refine wpAny_landsW (s:={ s with heap:=h1 }) hh λh2 f2 u2=>?_
  obtain⟨I2,cv2⟩:=Inv.fly I F cv f2.1 (up.trans u2);exact hQ h2 B a0 f2 I2 cv2
 cases f with
 |new g args hm hf hk =>
  obtain⟨k1,k2,k3⟩:=eI I hm hf hk;rw[F.2.1] at hA;exact dW hA F.2.2 k1 (by rw[<- F.2.1];exact k2) hm λh' a0 x1 x2=>land _ a0 h' k3 (F.2.1▸x1) x2
 |fly B a0 fl cv =>
  rw[F.2.1] at hA;exact wpAny_looks_onW hA F.2.2 (by rw[<- F.2.1];exact fl) λh' x1 x2=>land B a0 h' cv (by rw[F.2.1];exact x1) x2
theorem l0 {B:A8}{c a0:Ac}{e:Ad}(I:Inv X pins σ H s)(F:Fn1 X)(fl:Hl B X.stack e c a0 s.heap)(cv:Cv X pins H B s.heap):¬ Old X pins H e/\e ∉ frs X.stack/\∃ ob,s.heap.get? e=Ab ob/\ob.cls=c:=by
 obtain⟨oe,vs,he,hc,hd,_⟩:=fl.first
 have nf:e ∉ frs X.stack:=λz=>by
  obtain⟨_,o,ho,hn⟩:=I.stack.mem z;rw[he] at ho;cases ho;exact hn vs hd
 refine⟨λz=>?_,nf,oe,he,hc⟩;have q:=cv e oe he z nf;rw[fl.2.1] at q;cases q
theorem Inv.track {e:Ad}{c:Ac}{ob:AL}(I:Inv X pins σ H s)(F:Fn1 X)(no:¬ Old X pins H e)(nf:e ∉ frs X.stack)(he:s.heap.get? e=Ab ob)(hc:ob.cls=c):Inv X pins σ (upd H e (mT e c)) s:=by
 have hn:H e=none:=by
  cases q:H e with
  |none=>rfl
  |some u=>exact absurd (.inr (.inl (by rw[q];intro z;cases z))) no
 have nL:e≠X.env.locals:=λz=>nf (F.mem.mpr (.inl z));have n0:∀ b o,X.s₀.heap.get? b=Ab o->b≠e:=λb o q z=>no (.inl ⟨o,z▸q⟩);refine⟨I.ok,I.os,I.bare,⟨I.base.keep,I.base.slot,λb o q n hx=>?_,I.base.there,λb xs q=>?_,λb o xs q=>?_,λb ps q=>?_⟩,I.loc,I.cell,?_,λx k q=>?_,λp hp=>?_,λb u q=>?_,I.len⟩
 .rw[qH (n0 b o q)];exact I.base.free b o q n hx
 .have z:=I.base.tups b xs q
  rw[qH (qM z hn)];exact z
 .have z:=I.base.frzs b o xs q
  rw[qH (qM z hn)];exact z
 .obtain⟨m,z⟩:=I.base.tbls b ps q
  exact⟨m,by rw[qH (qM z hn)];exact z⟩
 .rw[qH (Df nL)];exact I.free
 .have z:k≠e:=λz=>no (.inr (.inr (.inr ⟨x,z▸q⟩)))
  rw[qH z];exact I.freeC x k q
 .obtain⟨a1,a2,a3,a4,a5⟩:=I.pin p hp
  have z:p.1≠e:=λz=>no (.inr (.inr (.inl ⟨p,hp,z⟩)));exact⟨a1,by rw[qH z];exact a2,a3,a4,a5⟩
 .by_cases hb:b=e
  .subst hb
   rw[qR] at q;cases q;refine⟨⟨ob,he,hc⟩,⟨ob,he⟩,λh1 h2 ⟨o,q1,q2⟩ k=>⟨o,k o q1,q2⟩⟩
  .rw[qH hb] at q
   exact(I.hok b u q).stay (λ_ _ _ z=>z) (λk z=>by rw[qH (qM z hn)];exact z) λk xs z=>by rw[qH (qM z hn)];exact z
theorem Inv.gone {i t':Aj}{n:An}{h':A8}(I:Inv X pins σ H s)(hN:X.N.Nodup)(hi:X.N[i]? = Ab n){m:An->Ak Ac}{v:Ak Ac}(hl:∀ (j:Aj) (y:An) (w:V),X.N[j]? = Ab y->σ[j]? = Ab (Ab w)->Vis X.env.scope y->∃ u,qJ w u/\YG X.env s.heap m y u)(hv:h'.Ns X.env.locals λy=>if y=n then v else m y)(sb:CN X.env.locals s.heap h') :
  Inv X pins (σ.set i none) H { s with heap:=h',toks:=t' }:=by
 have neL:∀ b o,X.s₀.heap.get? b=Ab o->b≠X.env.locals:=λb o e=>AV (Aw (Ay e) I.ok.above);have kp:∀ b o,b≠X.env.locals->s.heap.get? b=Ab o->h'.get? b=Ab o:=λb o n e=>(sb.2 b n).trans e;refine⟨I.ok,I.os,I.bare,⟨λb o e n hb hx=>kp b o (neL b o e) (I.base.keep b o e n hb hx),λb o e n hb hx=>?_,I.base.free,λb o e hx=>?_,I.base.tups,I.base.frzs,I.base.tbls⟩,⟨_,hv,λj y w e1 e2 e3=>?_⟩,λx c e=>?_,I.free,I.freeC,λp hp=>?_,λb u q=>?_,by simpa using I.len⟩
 .obtain⟨sl,q⟩:=I.base.slot b o e n hb hx
  exact⟨sl,kp b _ (neL b o e) q⟩
 .obtain⟨o',q⟩:=I.base.there b o e hx
  exact⟨o',kp b o' (neL b o e) q⟩
 .have hj:i≠j:=λz=>by
   subst z;by_cases hs:i<σ.length
   .rw[CW hs] at e2;cases e2
   .rw[Gh (by simp;omega)] at e2;cases e2
  rw[Cg hj] at e2;obtain⟨u,r,l⟩:=hl j y w e1 e2 e3;refine⟨u,r,?_⟩;rcases l with⟨k,z⟩|⟨k,c,z,zc⟩
  .refine .inl ⟨k,?_⟩
   have:y≠n:=λz=>hj (gL hN hi (z▸e1));simp[this,z]
  .exact .inr ⟨k,c,z,zc.sameBut sb (I.cne y c z)⟩
 .obtain⟨w,z⟩:=I.cell x c e
  exact⟨w,z.sameBut sb (I.cne x c e)⟩
 .obtain⟨e,n,ne,nf,d⟩:=I.pin p hp
  exact⟨kp p.1 p.2 ne e,n,ne,nf,d⟩
 .refine(I.hok b u q).stay (λc w hc z=>kp c w ?_ z) (λ_ z=>z) λ_ _ z=>z
  rintro rfl;rcases hc with rfl|hc
  .rw[I.free] at q;cases q
  .rw[I.free] at hc;cases hc
theorem l5 {A:AF}{E:Ac->Af->Prop}{i:Aj}{n:An}{pos:CD}{Q:Ho->Af->Prop}(I:Inv X pins σ H s)(hN:X.N.Nodup)(hi:X.N[i]? = Ab n)(hlo:X.env.scope.names.lookup n=Ab .local)
  (h:∀ s',Inv X pins (σ.set i none) H s'->Q () s'):Ao M A (do bindName X.env n .none;unbindBehindTheSuite X.env n pos) Q E s:=by
 obtain⟨m,hm,hl⟩:=id I.loc;exact wpAny_nameGoes_keeps hlo hm (by rw[I.ok.kind];rfl) λh' v hv sb=>h _ (Inv.gone I hN hi hl hv sb)
end
abbrev Cx.tryIn (X:Cx)(E:Ac->Af->Prop)(pn:Aa (Ad × AL)):Cx:={ X with xe:=E,pn:=pn }
abbrev Cx.suite (X:Cx)(e:Ad):Cx:=Cx.re X (X.A.mark (Ab (.ref e))) false λ_ _=>Cp
noncomputable def gM (N i:Aj)(cs:Aa Ac)(f g:DS):DS:=λenv S=>match f env S with
 |.ex c x env1 S1=>if cs.contains c then (match g ((DH N none).set i (Ab (.exn c))) S1 with
   |.rt d S2=>.rt d S2
   |.nx env2 S2=>.nx (env2.set i none) S2
   |_=>.bad) else .bad
 |o=>o
section
variable {X:Cx}{pins:Aa (Ad × AL)}{σ : _L.St}{H:Hp}{s:Af}
theorem Inv.inTry (I:Inv X pins σ H s)(E:Ac->Af->Prop):Inv (Cx.tryIn X E (X.pn++pins)) [] σ H s:=
 ⟨⟨I.ok.mod,I.ok.kind,I.ok.glob,I.ok.blt,I.ok.above,I.ok.inj,I.ok.has,I.ok.cab,I.ok.hd,I.ok.frames,I.ok.stk,I.ok.exf,I.ok.bs,I.ok.bsz,I.ok.noex,I.ok.exfs,I.ok.funs,I.ok.frf⟩,I.os,I.bare,I.base,I.loc,I.cell,I.free,I.freeC,λp hp=>I.pin p (by simpa using hp),I.hok,I.len⟩
theorem Inv.outTry {E:Ac->Af->Prop}(I:Inv (Cx.tryIn X E (X.pn++pins)) more σ H s):Inv X pins σ H s:=
 ⟨⟨I.ok.mod,I.ok.kind,I.ok.glob,I.ok.blt,I.ok.above,I.ok.inj,I.ok.has,I.ok.cab,I.ok.hd,I.ok.frames,I.ok.stk,I.ok.exf,I.ok.bs,I.ok.bsz,I.ok.noex,I.ok.exfs,I.ok.funs,I.ok.frf⟩,I.os,I.bare,I.base,I.loc,I.cell,I.free,I.freeC,λp hp=>I.pin p (Bd _ hp),I.hok,I.len⟩
theorem SP.outTry {E:Ac->Af->Prop}{D:Ends}{f:Flow}{s':Af}(h:SP (Cx.tryIn X E (X.pn++pins)) [] D f s'):SP X pins D f s':=by
 cases f with
 |next=>obtain⟨σ',H',I,q⟩:=h;exact⟨σ',H',Inv.outTry I,q⟩
 |brk=>obtain⟨σ',H',I,q⟩:=h;exact⟨σ',H',Inv.outTry I,q⟩
 |cont=>obtain⟨σ',H',I,q⟩:=h;exact⟨σ',H',Inv.outTry I,q⟩
 |ret u=>obtain⟨v,σ',H',I,r,q⟩:=h;exact⟨v,σ',H',Inv.outTry I,r,q⟩
theorem FlyX.outTry {E:Ac->Af->Prop}{c:Ac}{e:Ad}{h:A8}(f:FlyX (Cx.tryIn X E (X.pn++pins)) more H c e h):FlyX X pins H c e h:=by
 have old:∀ b,Old X pins H b->Old (Cx.tryIn X E (X.pn++pins)) more H b:=λb o=>by
  rcases o with o|o|⟨p,hp,z⟩|o
  .exact .inl o
  .exact .inr (.inl o)
  .exact .inr (.inr (.inl ⟨p,Bd _ hp,z⟩))
  .exact .inr (.inr (.inr o))
 cases f with
 |new g args hm hf hk=>exact .new g args hm hf λb o e q=>hk b o e (old b q)
 |fly B a0 fl cv=>exact .fly B a0 fl λb o e q n=>cv b o e (old b q) n
theorem c8 {K:Ah}{P:Hp}{α:Aa Ad}{n:Aj}(h:σ.length=n):qS K P α σ (DH n none):=by
 refine⟨by simp[h],λi d e=>?_⟩
 rw[Fm] at e
 split at e <;> cases e
theorem qS.unset {K:Ah}{P:Hp}{α:Aa Ad}{env:qE}(re:qS K P α σ env)(i:Aj):qS K P α (σ.set i none) (env.set i none):=by
 refine⟨by simp[re.1],λj d e=>?_⟩
 by_cases hj:i=j
 .subst hj
  by_cases hi:i<env.length
  .rw[CW hi] at e;cases e
  .rw[Gh (by simp;omega)] at e;cases e
 .rw[Cg hj] at e ⊢
  exact re.2 j d e
end
section
variable {X:Cx}{pos:CD}{f g:DS}
theorem U0 {pins:Aa (Ad × AL)}{D:Ends}{c:Ac}{e C0:Ad}{s':Af}{σ:_L.St}{H P:Hp}{α:Aa Ad}{x n:An}{i:Aj}{b₀:Ca}{suite:Aa Ca}{hpos:CD}
  (F:Fn1 X) (hg:Gl X x) (hm:X.mg x=Ab (.ref C0)) (hcs:∀ c∈cs,Eh X.K c (.ref C0)=Ab true) (hN:X.N.Nodup) (hi:X.N[i]? = Ab n) (hlo:X.env.scope.names.lookup n=Ab .local)
  (hs:∀ e,PSs (Cx.suite X e) (b₀::suite) (tDS (Cx.suite X e) g)) (hc:cs.contains c=true) (I:Inv X pins σ H s') (r:Rel X.K H P α S1) (fl:FlyX X pins H c e s'.heap)
  (af:qU X P α (match g ((DH X.N.length none).set i (Ab (.exn c))) S1 with|.rt d S2=>.rt d S2|.nx env2 S2=>.nx (env2.set i none) S2|_=>.bad) D) (hdb:(x == ("__debug__" : An))=false) :
  Ao (Aq X.prog X.w) X.A (IX (.ref e) X.env) (λ_ s₂=>Ao (Aq X.prog X.w) X.A (L5 (.ref e) none) (λ_ s₃ =>
   Ao (Aq X.prog X.w) X.A (handleBy (.ref e) X.env [.ExceptHandler (Ab (.Name x np)) (Ab n) (b₀::suite) hpos]) (SP X pins D) X.xe s₃) X.xe s₂) X.xe s':=by
 have hcs':Eh X.K c (.ref C0)=Ab true:=hcs c (by simpa using hc)
 have Z:∀ {σ : _L.St} {H:Hp} {s:Af},Inv X pins σ H s->Inv (Cx.suite X e) pins σ H s:=λI=>Inv.re I _ false _ I.ok.frames λz=>nomatch z;refine iO I F I.ok.frames fl λh5 B a0 f5 I5 cv5=>?_;refine wpAny_handleBy_cons (codeAny_handlers_test (A:=X.A.mark (Ab (.ref e))) (wV (X:=Cx.suite X e) (Z I5) hg hm ?_ hdb)) (by intro q;cases q)
 obtain⟨no5,nf5,ob5,he5,hc5⟩:=l0 I5 F f5 cv5;refine(PySem.W.exm_one I5.kIn (by subst hc5;exact(Oe he5).andThen .now) hcs').at ?_
 refine codeAny_handlers_suite_as ?_;refine lands_againW (s:={ s' with heap:=h5 }) f5 λh6 f6 u6=>?_
 obtain⟨I6,cv6⟩:=Inv.fly I5 F cv5 f6.1 u6;obtain⟨no6,nf6,ob6,he6,hc6⟩:=l0 I6 F f6 cv6;have J6:Inv X pins σ (upd H e (mT e c)) { s' with heap:=h6 }:=Inv.track I6 F no6 nf6 he6 hc6
 have hn:H e=none:=by
  cases q:H e with
  |none=>rfl
  |some u=>exact absurd (.inr (.inl (by rw[q];intro z;cases z))) no6
 obtain⟨r1,sP⟩:=r.pure (o:=mT e c) hn;refine jH (X:=Cx.suite X e) (v:=.ref e) (Z J6) hN hi (.inl hlo) rfl (λs7 I7=>?_) (.inr hlo);have re7:qS X.K (upd P e (mT e c)) α (σ.set i (Ab (.ref e))) ((DH X.N.length none).set i (Ab (.exn c))):=(c8 I.len).set i (by simp only[Rep];exact⟨e,rfl,qR⟩)
 refine Dp (hs e pins s7 _ _ { nx:=λσ' H'=>D.nx (σ'.set i none) H',rt:=D.rt } I7 ⟨_,α,_,S1,r1,re7,?_⟩) (λfl s8 q=>?_) λ_ _ z=>Al z
 .cases q:g ((DH X.N.length none).set i (Ab (.exn c))) S1 with
  |rt d S2=>rw[q] at af;exact λv H' P' α' r' e1 e2 rp=>af v H' P' α' r' (sP.trans e1) e2 rp
  |nx env2 S2=>rw[q] at af;exact λσ' H' P' α' r' re' e1 e2=>af _ H' P' α' r' (qS.unset re' i) (sP.trans e1) e2
  |bk env2 S2=>rw[q] at af;exact Al af
  |ct env2 S2=>rw[q] at af;exact Al af
  |ex c' x' env2 S2=>rw[q] at af;exact Al af
  |bad=>rw[q] at af;exact Al af
 .cases fl with
  |next =>
   obtain⟨σ',H',I8,q⟩:=q;exact l5 (Inv.unre I8 I.ok.frames I.ok.hd) hN hi hlo λs9 I9=>⟨_,H',I9,q⟩
  |brk =>
   obtain⟨_,_,_,q⟩:=q;exact Al q
  |cont =>
   obtain⟨_,_,_,q⟩:=q;exact Al q
  |ret u =>
   obtain⟨v,σ',H',I8,rv,q⟩:=q;exact l5 (Inv.unre I8 I.ok.frames I.ok.hd) hN hi hlo λs9 I9=>⟨v,_,H',I9,rv,q⟩
set_option tactic.hygienic true in
theorem VO {x n:An}{C0:Ad}{i:Aj}{b₀:Ca}{suite:Aa Ca}{np hpos:CD}(F:Fn1 X)(hb:∀ E pn,Gy (Aq X.prog X.w) X.A X.env E->PSs (Cx.tryIn X E pn) body (tDS (Cx.tryIn X E pn) f))
  (hs:∀ e,PSs (Cx.suite X e) (b₀::suite) (tDS (Cx.suite X e) g)) (hg:Gl X x) (hm:X.mg x=Ab (.ref C0)) (hcs:∀ c∈cs,Eh X.K c (.ref C0)=Ab true) (hN:X.N.Nodup) (hi:X.N[i]? = Ab n:=by rfl) (hlo:X.env.scope.names.lookup n=Ab .local:=by rfl)
  (hdb:(x == ("__debug__" : An))=false:=by decide):PS X (.Try body [.ExceptHandler (Ab (.Name x np)) (Ab n) (b₀::suite) hpos] [] [] pos) (tDS X (gM X.N.length i cs f g)):=by
 intro pins s σ H D I h;obtain⟨P,α,env,S,r,re,af⟩:=h;refine wpAny_Try_except ?_;refine Dp (hb _ (X.pn++pins) (PassesOwn.looking (K:=λe s₂=>Ao (Aq X.prog X.w) X.A (L5 e none) (λ_ s₃=>Ao (Aq X.prog X.w) X.A (handleBy e X.env [.ExceptHandler (Ab (.Name x np)) (Ab n) (b₀::suite) hpos]) (SP X pins D) X.xe s₃) X.xe s₂) (E₁:=X.xe))
  [] s σ H D (Inv.inTry I _) ⟨P,α,env,S,r,re,?_⟩) (λfl s1 q=>?_) λ_ _ z=>z
 .unfold gM at af
  cases q:f env S with
  |rt d S2=>rw[q] at af;exact af
  |nx env2 S2=>rw[q] at af;exact af
  |bk env2 S2=>rw[q] at af;exact af
  |ct env2 S2=>rw[q] at af;exact af
  |bad=>rw[q] at af;exact af
  |ex c x' env2 S2 =>
   rw[q] at af;dsimp only at af;intro u s' k;obtain⟨e,pins',σ',H',P',α',rfl,I',r',e1,e2,F',fl⟩:=k
   split at af
   .rename_i hc
    exact U0 F hg hm hcs hN hi hlo hs hc (Inv.outTry I') r' (FlyX.outTry fl) (qU.base e1 e2 af) hdb
   .exact Al af
 .have q':=SP.outTry q
  cases fl with
  |next=>exact EZ q'
  |brk=>exact q'
  |cont=>exact q'
  |ret u=>exact q'
end
end _D
namespace _D
open PySem PySem.Spec PyProof.Rows _L PySem.W
variable {R:LL->Af->Prop}
structure ExnK (K:Ah)(C:Ad):Prop where
 ga:findIn K (.ref C) "__getattribute__" = Ab (Ab (.builtin "BaseException.__getattribute__"))
 hk:findIn K (.ref C) "__getattr__" = Ab none
 cl:findIn K (.ref C) "__class__" = Ab (Ab (.builtin "object.__class__"))
 sp:specialIn K (.builtin "object.__class__") "__get__" = Ab (Ab (.builtin "getset_descriptor.__get__"))
 tk:takesIn K (.builtin "object.__class__")=Ab true
 mo:mroIn K C (.type "object")=Ab true
 mb:mroIn K C (.type "BaseException")=Ab true
 isC:(clsIn K C).isSome=true
section
variable {prog:A0}{w:AH}{A:AF}{E:Ac->Af->Prop}{s:Af}{K:Ah}{x C:Ad}
abbrev wZ (x C:Ad)(h:A8):Prop:=∃ ob,h.get? x=Ab ob/\ob.cls=.ref C
theorem wZ.type {M:EM}{h:A8}(I:wZ x C h):Looks M h (typeOf (.ref x)) (.ref C):=by
 obtain⟨ob,e,c⟩:=I;rw[<- c];exact(Looks.ld e).andThen .now
theorem i6 {M:EM}{h:A8}(X:K.In h)(Z:ExnK K C):Looks M h (NI (.ref x) (.ref C) "__class__") (.bind (.builtin "getset_descriptor.__get__") (.builtin "object.__class__")):=by
 have l1:=Ld (M:=M) X Z.cl;have l2:Looks M h (ND (Ab (.builtin "object.__class__"))) (Ab (.builtin "getset_descriptor.__get__")):=looks_specialIn X Z.sp;have l3:=looks_takesIn (M:=M) X Z.tk;have l4:Looks M h (Lf (Ab (.builtin "object.__class__")) (Ab (.builtin "getset_descriptor.__get__"))) (Ab (.builtin "getset_descriptor.__get__",.builtin "object.__class__")):=l3.andThen .now;exact l1.andThen (l2.andThen (l4.andThen (Looks.tag .now)))
theorem X3 {tp:Ac}(X:K.In s.heap)(Z:ExnK K C)(I:wZ x C s.heap)(h:R (.ok (.ret (.ref C))) s) :
  D6 (Aq prog w) A (.call (.builtin "getset_descriptor.__get__") ⟨[.builtin "object.__class__",.ref x,tp],[]⟩) R s:=by
 have LT:=wZ.type (M:=Aq prog w) I;have LM:=looks_mroIn (M:=Aq prog w) X Z.mo;cases s;refine Jo KF.slot_gs.plain KF.entry_gs (KF.slot_gs.check _ _ _ _ _ _ _ _ KF.type_class (KF.args_gs _ _ _) ?_);unfold EH.«getset_descriptor.__get__» Lg;rw[dga_obj];refine Ag (As ?_);unfold Kg IC IJ isInstance;simp only[KF.owner_class]
 repeat lk
 refine⟨Code.quiet_builtin _ (by decide +kernel),IK KF.entry_class ?_⟩
 unfold EH.«object.__class__» shownTypeOf
 repeat lk
 exact h
theorem VV {tk:IS}(X:K.In s.heap)(Z:ExnK K C)(I:wZ x C s.heap)(h:R (.ok (.ret (.ref C))) s) :
  D6 (Aq prog w) A (.call (.builtin "BaseException.__getattribute__") ⟨[.ref x,.str "__class__" tk],[]⟩) R s:=by
 have LT:=wZ.type (M:=Aq prog w) I;have LM:=looks_mroIn (M:=Aq prog w) X Z.mb;have LF:=i6 (M:=Aq prog w) (x:=x) X Z;have hk:builtinKind "BaseException.__getattribute__" = Ab .slot:=by decide +kernel
 have hsp:splitId "BaseException.__getattribute__" = Ab ("BaseException","__getattribute__"):=by decide +kernel
 have chk:∀ (A:AF) (Q:Ho->Af->Prop) (E:Ac->Af->Prop),Q () s->Ao (Aq prog w) A (LR "BaseException.__getattribute__" ⟨[.ref x,.str "__class__" tk],[]⟩) Q E s:=by
  intro A Q E hq;have ha:=PySem.F.args_bexc_ga (.ref x) (.str "__class__" tk);simp only[LR,hk,hsp];unfold isInstance;refine Ag (Ag (LT.here (LM.here ?_)))
  repeat (any_goals (first|assumption|wp_step))
 refine Jo Iq.ga.plain PySem.F.entry_bexc_ga (chk _ _ _ ?_);cases s;unfold EH.«object.__getattribute__»;refine Ag (LS (show slotArgs "__getattribute__" 1 ⟨[.ref x,.str "__class__" tk],[]⟩=pure (.ref x,[.str "__class__" tk]) from by kernel_rfl) ?_)
 refine Ag (As (Ag (LT.at (Ag (LF.at ?_)))));show Ao _ _ (HH _ _ _ _) _ _ _;unfold HH;dsimp only;exact Ag (CZ (Kf (X3 X Z I (As h))))
theorem rN {Q:Ak Ac->Af->Prop}(X:K.In s.heap)(Z:ExnK K C)(I:wZ x C s.heap)(h:Q (Ab (.ref C)) { s with toks:=s.toks+1 }) : Ao (Aq prog w) A (getAttr? (.ref x) "__class__") Q E s:=by
 have LT:=wZ.type (M:=Aq prog w) I;have L1:=Ld (M:=Aq prog w) X Z.ga;have lk2:=Ld (M:=Aq prog w) X Z.hk;unfold getAttr? getAttrBy? getAttrBy;cases s;refine Ag (wpAny_mkText (Ag (Ez (CZ (Ag (LT.at (Ag (L1.at ?_))))))));dsimp only;have hx2:(Nr "BaseException.__getattribute__" == Nr "object.__getattribute__")=false:=by decide +kernel
 rw[hx2,Bool.and_false,AD DL];unfold getAttrByItsOwn hookBefore;rw[AA (show onTheHeap (.ref C)=true from rfl)]
 refine Ag (lk2.at (Ag (Ez (CZ ?_))));unfold callGetattribute;rw[Mz,AD DL];unfold boundAndCalled;refine Ag (LS (Iq.ga.bind (.ref x)) ?_);refine Kf (VV X Z I ?_);show Ao _ _ (handedOut (.ref C)) _ _ _;exact As (As h)
set_option tactic.hygienic true in
theorem tB (Z:ExnK K C):KitX K (.ref x) (.ref C) (wZ x C) where
 ty:=λ_ _ _ I=>I.type
 it:=λM h X _=>by
  have z:=Z.isC;unfold clsIn at z
  split at z
  .rename_i ho
   intro A' Q' E' s' k q;unfold isType loadHead;exact Ag (wpAny_loadPart (k _ _ (X _ _ ho)) (As q))
  .cases z
 ne:=λh tp dd its n sl X htp=>by
  have z:=Z.isC;unfold clsIn at z
  split at z
  .rename_i ho
   cases hq:(AN C == AN tp) with
   |false=>rfl
   |true =>
    obtain rfl:C=tp:=Value.ref.inj (Ia.mp hq);have y:=(X _ _ ho).symm.trans htp;cases y
  .cases z
 ca:=λX I k=>rN X Z I k
end
end _D
namespace _D
open PySem PySem.Spec PyProof.Rows _L
variable {w:AH}{o:AL}{cells:Aa (An × Ad)}{α α1:Aa Ad}{ds:Aa D}{E:Ac->Af->Prop}{C:Ad}{s:Af}{K:Ah}{H P P1:Hp}{S S1:Sto}
theorem jI {α:Type}{t:EE α}{Q Q':α->Af->Prop}{M:EM}{A:AF}(h:Ao M A t Q (λ_ _=>Cp) s)(hQ:∀ a s,Q a s->Q' a s):Ao M A t Q' E s:=Dp h hQ λ_ _ x=>x.elim
noncomputable def vE (ifs:Aa AE)(env:DD):EE Ap:=forIn ifs true λc r=>if r=true then do let ok <- NJ c env (eval c env);pure (E0 ok) else pure (E0 r)
def PTs (X:Cx)(ifs:Aa AE)(t:DT):Prop:=
 ∀ (pins:Aa (Ad × AL)) (s:Af) (σ : _L.St) (H:Hp) (Q:Ap->Hp->Prop),Inv X pins σ H s->tDT X t σ H Q->Ao (Aq X.prog X.w) X.A (vE ifs X.env) (TP X pins σ Q) X.xe s
noncomputable def w6:DT:=λ_ S=>.ok true S
section
variable {X:Cx}
theorem g9 {prog:A0}{A:AF}{env:DD}{Q:Ap->Af->Prop}:∀ (ifs:Aa AE) {s:Af},Q false s ->
  Ao (Aq prog w) A (forIn ifs false λc r=>if r=true then do let ok <- NJ c env (eval c env);pure (E0 ok) else pure (E0 r)) Q E s
 |[],s,h=>by rw[Ft];exact As h
 |c::cs,s,h=>by
  rw[Fc];rw[AD (by simp)]
  refine Ag (As ?_);exact g9 cs h
theorem ZZ:PTs X [] w6:=λpins s σ H Q I ⟨P,α,env,S,r,re,af⟩=>by
 unfold vE;rw[Ft];exact As ⟨H,I,af H P α r (qF.refl _) (A3 _)⟩
theorem aU {c:AE}{cs:Aa AE}{t u:DT}(h1:PT X c (tDT X t))(h2:PTs X cs u):PTs X (c::cs) (vK t u):=λpins s σ H Q I ⟨P,α,env,S,r,re,af⟩=>by
 unfold vE;rw[Fc,AA rfl];refine Ag (Ag (thn (gS (λQ' q=>h1 pins s σ H Q' I q) r re af) λb s1 ⟨H1,P1,α1,S1,I1,r1,re1,e1,e2,af1⟩=>As ?_));cases b with
 |true=>exact h2 pins s1 σ H1 Q I1 ⟨P1,α1,env,S1,r1,re1,u0.base e1 e2 af1⟩
 |false=>exact g9 cs ⟨H1,I1,af1 H1 P1 α1 r1 e1 e2⟩
theorem M7 {e:AE}{f:DE}{pins:Aa (Ad × AL)}{σ:_L.St}{env:qE}{d:D}(he:PE X e (tD X f))(I:Inv X pins σ H s)(r:Rel X.K H P α S)(re:qS X.K P α σ env)(q:f env S=.ok d S1) :
  Ao (Aq X.prog X.w) X.A (eval e X.env) (λu s1=>∃ v H1 P1 α1,Got X pins σ env P α u s1 v H1 P1 α1 d S1) X.xe s:=by
 refine thn (zP (g:=λd S=>Res.ok d S) (Ok:=λd' S'=>d'=d/\S'=S1) he I r re (by rw[q];exact⟨rfl,rfl⟩)) λu s1 ⟨v,H1,P1,α1,d',S',G,h1,h2⟩=>?_
 have e1:d'=d:=h1;have e2:S'=S1:=h2;subst e1;subst e2;exact⟨v,H1,P1,α1,G⟩
theorem B9 {ifs:Aa AE}{t:DT}{pins:Aa (Ad × AL)}{σ:_L.St}{env:qE}{b:Ap}(he:PTs X ifs t)(I:Inv X pins σ H s)(r:Rel X.K H P α S)(re:qS X.K P α σ env)(q:t env S=.ok b S1) :
  Ao (Aq X.prog X.w) X.A (vE ifs X.env) (λb' s1=>b'=b/\∃ H1 P1 α1,Inv X pins σ H1 s1/\Rel X.K H1 P1 α1 S1/\qS X.K P1 α1 σ env/\qF P P1/\α<+:α1) X.xe s:=by
 refine thn (he pins s σ H (λb' H1=>b'=b/\∃ P1 α1,Rel X.K H1 P1 α1 S1/\qS X.K P1 α1 σ env/\qF P P1/\α<+:α1) I ⟨P,α,env,S,r,re,?_⟩) λb' s1 ⟨H1,I1,e,P1,α1,q1,q2,q3,q4⟩=>⟨e,H1,P1,α1,I1,q1,q2,q3,q4⟩;rw[q];exact λH' P' α' r' e1 e2=>⟨rfl,P',α',r',re.mono e1 e2,e1,e2⟩
theorem M8 {tg:AE}{g:DG}{pins:Aa (Ad × AL)}{σ:_L.St}{env env1:qE}{d:D}{v:V}{u:Ac}(hg:PG X tg (tDG X g))(I:Inv X pins σ H s)(r:Rel X.K H P α S)(re:qS X.K P α σ env)(rv:qJ v u)
  (rp:Rep X.K P α d v) (q:g d env S=.ok env1 S1) :
  Ao (Aq X.prog X.w) X.A (assign tg X.env u) (λ_ s1=>∃ σ1 H1 P1 α1,Inv X pins σ1 H1 s1/\Rel X.K H1 P1 α1 S1/\qS X.K P1 α1 σ1 env1/\qF P P1/\α<+:α1) X.xe s:=by
 refine thn (hg pins s σ H v u (λσ1 H1=>∃ P1 α1,Rel X.K H1 P1 α1 S1/\qS X.K P1 α1 σ1 env1/\qF P P1/\α<+:α1) I rv ⟨P,α,env,S,d,r,re,rp,?_⟩) λ_ s1 ⟨σ1,H1,I1,P1,α1,q1,q2,q3,q4⟩=>⟨σ1,H1,P1,α1,I1,q1,q2,q3,q4⟩;rw[q];exact λσ' H' P' α' r' re' e1 e2=>⟨P',α',r',re',e1,e2⟩
def pK (K:Ah)(P:Hp)(α : Aa Ad)(ds:Aa D)(o:AL):Prop:=∃ (its:Aa Ac) (n:Aj) (vs:Aa V),o={ cls:=.type "list",data:=.seq its.toArray n } /\ qK vs its/\qD K P α ds vs/\ds.length<=lim
theorem pK.mono (e:qF P P1)(h:α<+:α1)(a:pK K P α ds o):pK K P1 α1 ds o:=by
 obtain⟨its,n,vs,q1,q2,q3,q4⟩:=a;exact⟨its,n,vs,q1,q2,qD.mono e h _ _ q3,q4⟩
theorem pK.cell (a:pK K P α ds o):∀ v,o.data≠.cell v:=by
 obtain⟨its,n,vs,rfl,_⟩:=a;intro v z;cases z
theorem Inv.pin1 {pins:Aa (Ad × AL)}{σ:_L.St}{a:Ad}(I:Inv X pins σ H s)(f:zS X pins H a)(e:s.heap.get? a=Ab o)(d:∀ v,o.data≠.cell v):Inv X (pins++[(a,o)]) σ H s:=
 I.pins_of λp hp=>(AX.mp hp).elim (λz=>I.pin p (AC _ z)) λz=>by
  have e':p=(a,o):=by simpa using z
  subst e';exact⟨e,f.1,f.2.1,f.2.2.1,d⟩
theorem Inv.pinned1 {pins:Aa (Ad × AL)}{σ:_L.St}{a:Ad}(I:Inv X (pins++[(a,o)]) σ H s):s.heap.get? a=Ab o/\H a=none:=by
 have:=I.pin (a,o) (AC _ (AC _ (by simp)))
 exact⟨this.1,this.2.1⟩
end
structure TurnSt (Y:Cx)(pins:Aa (Ad × AL))(P1:Hp)(α1:Aa Ad)(fp:Aa Ad)(acc:Ad)(env:qE)(S:Sto)(ds:Aa D)(s:Af)(σ : _L.St)(H P:Hp)(α : Aa Ad)(o:AL):Prop where
 inv:Inv Y pins σ H s
 rel:Rel Y.K H P α S
 env:qS Y.K P α σ env
 same:qF P1 P
 pre:α1<+:α
 fpn:∀ b∈fp,H b=none
 acn:H acc=none
 at':s.heap.get? acc=Ab o
 acc:pK Y.K P α ds o
noncomputable def xM (cells:Aa (An × Ad)):Aa (An × Dz)->Aa (An × Ad)->Aa (An × Ad)
 |[],cs=>cs
 |(n,k)::r,cs=>xM cells r (if k == .free then (n,(cells.lookup n).getD 0)::cs else cs)
theorem jN {env:DD}{scope:Bu}(h:∀ y∈scope.names,y.2=.free->∃ c,env.cells.lookup y.1=Ab c):Ib scope env=pure (xM env.cells scope.names []):=by
 have go:∀ (l:Aa (An × Dz)) (cs:Aa (An × Ad)),(∀ y∈l,y.2=.free->∃ c,env.cells.lookup y.1=Ab c) ->
   (forIn l cs λx cs=>match x with|(name,kind)=>if (kind == Dc)=true then do let a <- cellOf env name;pure (E0 ((name,a)::cs)) else pure (E0 cs):EE (Aa (An × Ad)))=pure (xM env.cells l cs):=by
  intro l
  induction l with
  |nil=>intro cs _;rfl
  |cons y r ih =>
   intro cs hl;obtain⟨n,k⟩:=y;rw[Fc];by_cases hk:k=.free
   .subst hk
    obtain⟨c,hc⟩:=hl (n,.free) CQ rfl;have hc':env.cells.lookup n=Ab c:=hc;have e:cellOf env n=pure c:=by unfold cellOf;rw[hc']
    simp only[Dk,Bq,e,pure_bind];rw[ih _ λz hz=>hl z (Ba _ hz)];simp only[xM,Dk,Bq,hc',Ic]
   .have hb:(k == Dc)=false:=by simpa using hk
    simp only[hb,Bj,D0,pure_bind];rw[ih _ λz hz=>hl z (Ba _ hz)];simp only[xM,hb,Bj,D0]
 unfold Ib;have:=go scope.names [] h;simp only[bind_pure];exact this
theorem vX {x:An}{c:Ad}:∀ (l:Aa (An × Dz)) (cs:Aa (An × Ad)),(xM cells l cs).lookup x=Ab c->cs.lookup x=Ab c\/((x,Dc)∈l/\c=(cells.lookup x).getD 0)
 |[],cs,h=>.inl h
 |(n,k)::r,cs,h=>by
  rcases vX r _ h with h|⟨h1,h2⟩
  .by_cases hk:k=.free
   .subst hk
    simp only[Dk,Bq,El] at h;cases hb:x == n with
    |true =>
     rw[hb] at h;have e:x=n:=by simpa using hb
     subst e;exact .inr ⟨CQ,(AQ h).symm⟩
    |false=>rw[hb] at h;exact .inl h
   .have hb:(k == Dc)=false:=by simpa using hk
    simp only[hb,Bj,D0] at h;exact .inl h
  .exact .inr ⟨Ba _ h1,h2⟩
theorem vJ {x:An}:∀ (l:Aa (An × Dz)) (cs:Aa (An × Ad)),((x,Dc)∈l\/∃ c,cs.lookup x=Ab c)->∃ c,(xM cells l cs).lookup x=Ab c
 |[],cs,h=>by
  rcases h with h|h
  .cases h
  .exact h
 |(n,k)::r,cs,h=>by
  refine vJ r _ ?_;rcases h with h|⟨c,h⟩
  .rcases AR.mp h with e|h
   .cases e
    exact .inr ⟨(cells.lookup x).getD 0,by simp only[Dk,Bq,El]⟩
   .exact .inl h
  .by_cases hk:k=.free
   .subst hk
    simp only[Dk,Bq,El];cases hb:x == n with
    |true=>exact .inr ⟨_,rfl⟩
    |false=>exact .inr ⟨c,h⟩
   .have hb:(k == Dc)=false:=by simpa using hk
    simp only[hb,Bj,D0];exact .inr ⟨c,h⟩
structure CompSc (scX:Bu)(NX:Aa An)(scope:Bu)(N':Aa An)(cap:Aa (Ak Aj)):Prop where
 kind:scope.kind=.function
 names:∀ y∈scope.names,y.2=.local -> scope.names.lookup y.1=Ab .local
 cel:∀ y∈scope.names,y.2=.cell->scope.names.lookup y.1=Ab .cell
 free:∀ y∈scope.names,y.2=.free->scX.names.lookup y.1=Ab .cell\/scX.names.lookup y.1=Ab .free
 fr2:∀ y∈scope.names,y.2=.free->scope.names.lookup y.1=Ab .free
 len:cap.length=N'.length
 caps:((cap.zip N').all λp=>match p.1 with|none=>true|some i=>NX[i]? == Ab p.2&&scope.names.lookup p.2 == Ab .free)=true
 nd:N'.Nodup
noncomputable def wN (cap:Aa (Ak Aj))(σ : _L.St):_L.St:=cap.map λo=>match o with
 |none=>none
 |some i=>(σ[i]?).join
noncomputable def zO (cap:Aa (Ak Aj))(env:qE):qE:=cap.map λo=>match o with
 |none=>none
 |some i=>(env[i]?).join
theorem c7 {σ:_L.St}{env:qE}(re:qS K P α σ env)(cap:Aa (Ak Aj)):qS K P α (wN cap σ) (zO cap env):=by
 refine⟨by simp[wN,zO],λj d e=>?_⟩
 unfold zO at e;unfold wN;rw[Ce] at e ⊢;cases q:cap[j]? with
 |none=>rw[q] at e;cases e
 |some o =>
  rw[q] at e;cases o with
  |none=>cases e
  |some i =>
   have e':(env[i]?).join=Ab d:=by simpa using e
   cases z:env[i]? with
   |none=>rw[z] at e';cases e'
   |some w =>
    rw[z] at e';have e'':w=Ab d:=e';subst e'';obtain⟨v,h1,h2⟩:=re.2 i d z;exact⟨v,by simp[h1],h2⟩
noncomputable def qV (X:Cx)(N':Aa An)(scope:Bu)(cl:Aa (An × Ad))(C:Ad)(ex:Aa Ad)(s₀:Af)(H₀:Hp):Cx:=
 { X with N:=N',s₀:=s₀,H₀:=H₀,env:=compEnvC scope cl C X.env,outer:=X.stack,stack:=X.stack,ex:=ex,fn:=λx=>decide (scope.names.lookup x=Ab .cell),pn:=[],xe:=λ_ _=>Cp }
theorem vA {scope:Bu}{env:DD}:∀ {names:Aa (An × Dz)} {x:An} {k:Dz},
  (names.map λ(n,k)=>if (k == Dc&&env.scope.kind == .function&&env.kindOf n == Ab .cell) then (n,Gk) else (n,k)).lookup x=Ab k ->
  names.lookup x=Ab k\/(k=.cell/\names.lookup x=Ab .free)
 |[],_,_,h=>by simp at h
 |(n,k0)::r,x,k,h=>by
  rw[Cf,El] at h;rw[El];dsimp only at h;cases hb:(k0 == Dc&&env.scope.kind == .function&&env.kindOf n == Ab .cell) with
  |true =>
   rw[hb] at h;simp only[Bq] at h;cases hx:x == n with
   |true =>
    rw[hx] at h;have e:Gk=k:=AQ h;have hk:k0=.free:=by
     have:=(A5 _ _).mp hb;have:=(A5 _ _).mp this.1;simpa using this.1
    subst hk;exact .inr ⟨e.symm,rfl⟩
   |false=>rw[hx] at h;exact vA (scope:=scope) h
  |false =>
   rw[hb] at h;simp only[Bj,D0] at h;cases hx:x == n with
   |true=>rw[hx] at h;exact .inl h
   |false=>rw[hx] at h;exact vA (scope:=scope) h
section
variable {X:Cx}{scope:Bu}{N':Aa An}{cap:Aa (Ak Aj)}{pins:Aa (Ad × AL)}{σ : _L.St}{H2:Hp}{s2:Af}{fp:Aa Ad}
theorem uP (S:CompSc X.env.scope X.N scope N' cap){x:An}{k:Dz}(h:(relabel scope X.env).names.lookup x=Ab k):scope.names.lookup x=Ab k\/(k=.cell/\scope.names.lookup x=Ab .free):=vA (scope:=scope) h
theorem rC (S:CompSc X.env.scope X.N scope N' cap)(ok:X.Ok){x:An}{c:Ad}(h:(xM X.env.cells scope.names []).lookup x=Ab c):X.env.cells.lookup x=Ab c/\(x,Dc)∈scope.names:=by
 rcases vX _ _ h with h|⟨hm,hc⟩
 .cases h
 .have:=S.free _ hm rfl
  obtain⟨c',hc'⟩:=ok.has x this;rw[hc',Ic] at hc;rw[hc',hc];exact⟨rfl,hm⟩
noncomputable def iX (scope:Bu)(C:Ad):Aa (An × Ad):=Dt (C+1) scope.names []
noncomputable def uN (X:Cx)(scope:Bu)(C:Ad):Aa (An × Ad):=Dt (C+1) scope.names (xM X.env.cells scope.names [])
theorem wB:∀ (names:Aa (An × Dz)) (lo:Aj) (acc:Aa (An × Ad)),Dt lo names acc=Dt lo names [] ++ acc
 |[],_,_=>rfl
 |(n,k)::r,lo,acc=>by
  unfold Dt
  split
  .rw[wB r _ ((n,lo)::acc),wB r _ [(n,lo)],AK];rfl
  .exact wB r lo acc
set_option tactic.hygienic true in
theorem jS:∀ (names:Aa (An × Dz)) (lo:Aj) {n:An} {c:Ad},(n,c)∈Dt lo names [] -> (n,Gk)∈names
 |[],_,_,_,h=>by cases h
 |(n0,k)::r,lo,n,c,h=>by
  unfold Dt at h
  split at h
  .rename_i hk
   rw[wB] at h;rcases AX.mp h with h|h
   .exact Ba _ (jS r _ h)
   .have e:(n,c)=(n0,lo):=by simpa using h
    cases e;have:k=Gk:=by simpa using hk
    rw[this];exact CQ
  .exact Ba _ (jS r _ h)
theorem zV (S:CompSc X.env.scope X.N scope N' cap)(ok:X.Ok){C:Ad}{x:An}{c:Ad}(h:(uN X scope C).lookup x=Ab c):((x,c)∈iX scope C/\scope.names.lookup x=Ab .cell)\/(X.env.cells.lookup x=Ab c/\(x,Dc)∈scope.names):=by
 unfold uN at h;rw[wB,Kv] at h;cases q:(Dt (C+1) scope.names []).lookup x with
 |some c' =>
  rw[q] at h;cases h;have m:=Cq q;exact .inl ⟨m,S.cel _ (jS _ _ m) rfl⟩
 |none =>
  rw[q] at h;exact .inr (rC S ok h)
theorem mK (S:CompSc X.env.scope X.N scope N' cap)(ok:X.Ok){C:Ad}{x:An}(h:scope.names.lookup x=Ab .cell\/scope.names.lookup x=Ab .free):∃ c,(uN X scope C).lookup x=Ab c:=by
 unfold uN;rw[wB,Kv];rcases h with h|h
 .have:=Ex scope.names (C+1) [] (x:=x) (.inl h)
  obtain⟨c,hc⟩:=Ef.mp this;exact⟨c,by rw[hc];rfl⟩
 .obtain⟨c',hc'⟩:=vJ (cells:=X.env.cells) scope.names [] (.inl (Cq h))
  rw[hc'];cases (Dt (C+1) scope.names []).lookup x with
  |none=>exact⟨c',rfl⟩
  |some c=>exact⟨c,rfl⟩
theorem ZC (S:CompSc X.env.scope X.N scope N' cap)(I2:Inv X pins σ H2 s2)(hf:∀ b∈fp,zS X pins H2 b)(hlt:∀ b∈fp,b<s2.heap.objs.size)(hC:s2.heap.objs.size<=C){h1:A8}(co:CellsOk h1 (C+1) (iX scope C)) :
  (qV X N' scope (uN X scope C) C fp s2 H2).Ok where
 mod:=I2.ok.mod
 kind:=S.kind
 glob:=I2.ok.glob
 blt:=I2.ok.blt
 above:=hC
 inj:=λx y c h1 h2=>by
  rcases zV S I2.ok h1 with⟨m1,_⟩|⟨m1,_⟩ <;> rcases zV S I2.ok h2 with⟨m2,_⟩|⟨m2,_⟩
  .exact PySem.name_of_addr co.apart m1 m2
  .obtain⟨v,ob,hob,_⟩:=I2.cell y c m2
   exact absurd (Aw (Ay hob) hC) (Ke.mpr (CM (co.empty x c m1).2))
  .obtain⟨v,ob,hob,_⟩:=I2.cell x c m1
   exact absurd (Aw (Ay hob) hC) (Ke.mpr (CM (co.empty y c m2).2))
  .exact I2.ok.inj x y c m1 m2
 has:=λx hx=>by
  have hx':(relabel scope X.env).names.lookup x=Ab .cell\/(relabel scope X.env).names.lookup x=Ab .free:=hx;refine mK S I2.ok ?_;rcases hx' with h|h
  .rcases uP S h with h|⟨_,h⟩
   .exact .inl h
   .exact .inr h
  .rcases uP S h with h|⟨z,_⟩
   .exact .inr h
   .cases z
 cab:=λx c h h2=>by
  have hx:scope.names.lookup x=Ab .cell:=AU h;rcases zV S I2.ok h2 with⟨m,_⟩|⟨_,m⟩
  .exact Bh hC (CM (co.empty x c m).2)
  .have:=S.fr2 _ m rfl
   have this':scope.names.lookup x=Ab .free:=this;rw[hx] at this';cases this'
 hd:=I2.ok.hd
 frames:=I2.ok.frames
 stk:=.inl rfl
 exf:=λb hb=>⟨AV (Aw (hlt b hb) hC),λx c h=>by
  rcases zV S I2.ok h with⟨m,_⟩|⟨m,_⟩
  .exact Df (AV (EJ (Aw (hlt b hb) hC) (co.empty x c m).2))
  .exact(hf b hb).2.2.2.2.1 x c m⟩
 bs:=I2.bs
 bsz:=Bh I2.ok.bsz I2.sz
 noex:=λb o e hb=>by
  obtain⟨_,_,_,h,_⟩:=hf b hb;rcases h with h|h
  .exact I2.ok.noex b o e h
  .exact absurd (Aw (Ay e) (Bh I2.ok.bsz h)) (Bn _)
 exfs:=λb hb hb2=>by
  obtain⟨_,h1,h2,_⟩:=hf b hb;rcases AR.mp (I2.stkSub b hb2) with z|z
  .exact h1 z
  .exact h2 z
 funs:=I2.stack
 frf:=I2.stkFree
theorem a8 {s4:Af}{m:An->Ak Ac}(S:CompSc X.env.scope X.N scope N' cap)(I2:Inv X pins σ H2 s2)(hf:∀ b∈fp,zS X pins H2 b)(hlt:∀ b∈fp,b<s2.heap.objs.size)(hC:s2.heap.objs.size<=C)
  (hn:s4.heap.Ns C m) (os:s4.os=s2.os) (gens:s4.gens=s2.gens) (keep:∀ b o,s2.heap.get? b=Ab o->s4.heap.get? b=Ab o) (co:CellsOk s4.heap (C+1) (iX scope C)) :
  Inv (qV X N' scope (uN X scope C) C fp s2 H2) [] (wN cap σ) H2 s4 where
 ok:=ZC S I2 hf hlt hC co
 os:=os
 bare:=gens▸I2.bare
 base:=Un.kept keep
 loc:=by
  refine⟨m,hn,λj x v h1 h2 h3=>?_⟩;have h1':N'[j]? = Ab x:=h1;unfold wN at h2;rw[Ce] at h2;cases q:cap[j]? with
  |none=>rw[q] at h2;cases h2
  |some o =>
   rw[q] at h2;cases o with
   |none=>cases h2
   |some i =>
    have e':(σ[i]?).join=Ab v:=by simpa using h2
    have hσ:σ[i]? = Ab (Ab v):=by
     cases z:σ[i]? with
     |none=>rw[z] at e';cases e'
     |some w=>rw[z] at e';have:w=Ab v:=e';rw[this]
    have hz:(Ab i,x)∈cap.zip N':=by
     refine E7.mpr ⟨j,?_⟩;rw[HI];exact⟨q,h1'⟩
    have hc:=AS.mp S.caps _ hz;simp only[A5,Ia] at hc;obtain⟨hN,hfr⟩:=hc;have hk:=S.free _ (Cq hfr) rfl;obtain⟨mo,hmo,hl⟩:=I2.loc;have vis:Vis X.env.scope x:=by
     rcases hk with k|k
     .exact .inr (.inl k)
     .exact .inr (.inr k)
    obtain⟨u,ru,lk⟩:=hl i x v hN hσ vis;refine⟨u,ru,?_⟩;rcases lk with⟨kl,_⟩|⟨_,c,hcl,hcell⟩
    .have kl':X.env.scope.names.lookup x=Ab .local:=kl
     rcases hk with k|k
     .have k':X.env.scope.names.lookup x=Ab .cell:=k
      rw[kl'] at k';cases k'
     .have k':X.env.scope.names.lookup x=Ab .free:=k
      rw[kl'] at k';cases k'
    .obtain⟨c',hc'⟩:=mK S I2.ok (C:=C) (.inr hfr)
     have e2:X.env.cells.lookup x=Ab c':=by
      rcases zV S I2.ok hc' with⟨_,z⟩|⟨z,_⟩
      .rw[hfr] at z;cases z
      .exact z
     rw[hcl] at e2;cases e2;refine .inr ⟨?_,c,hc',?_⟩
     .have h3':Vis (relabel scope X.env) x:=h3
      rcases h3' with h|h|h
      .rcases uP S h with h|⟨z,_⟩
       .rw[hfr] at h;cases h
       .cases z
      .exact .inl h
      .exact .inr h
     .obtain⟨ob,hob,hd⟩:=hcell
      exact⟨ob,keep c ob hob,hd⟩
 cell:=λx c h=>by
  rcases zV S I2.ok h with⟨m,_⟩|⟨m,_⟩
  .exact⟨none,(co.empty x c m).1⟩
  .obtain⟨v,ob,hob,hd⟩:=I2.cell x c m
   exact⟨v,ob,keep c ob hob,hd⟩
 free:=I2.hok.fresh hC
 freeC:=λx c h=>by
  rcases zV S I2.ok h with⟨m,_⟩|⟨m,_⟩
  .exact I2.hok.fresh (Bh hC (CM (co.empty x c m).2))
  .exact I2.freeC x c m
 pin:=λp hp=>absurd (show p∈([]:Aa (Ad × AL)) from hp) (by simp)
 hok:=I2.hok.kept keep
 len:=by
  show (wN cap σ).length=N'.length;simp[wN,S.len]
end
theorem rV {P:A0}{h:A8}{a:Ad}{o:HO}(x:HOk P w H h)(hn:H a=none)(new:qY P w (upd H a o) h a o):HOk P w (upd H a o) h:=λb u e=>by
 by_cases hb:b=a
 .subst hb;rw[qR] at e;cases e;exact new
 .rw[qH hb] at e
  exact(x b u e).stay (λc v _ q=>q) (λc q=>by rw[qH (qM q hn)];exact q) λc xs q=>by rw[qH (qM q hn)];exact q
theorem rT {P:A0}{h h':A8}(x:HOk P w H h)(hn:H C=none)(k:∀ b o,b≠C->h.get? b=Ab o->h'.get? b=Ab o):HOk P w H h':=λb u e =>
 (x b u e).stay (λc v hc q=>k c v (by
  rintro rfl;rcases hc with z|z
  .subst z;rw[hn] at e;cases e
  .rw[hn] at z;cases z) q) (λ_ q=>q) λ_ _ q=>q
section
variable {X:Cx}{elt tg iter:AE}{ifs:Aa AE}{scope:Bu}{pos:CD}{N':Aa An}{cap:Aa (Ak Aj)}{fi:DI}{g:DG}{t:DT}{fe:DE}
def kH (X:Cx)(pins:Aa (Ad × AL))(σ : _L.St)(P1:Hp)(α1:Aa Ad)(ds:Aa D)(SF:Sto)(acc C:Ad)(s:Af):Prop:=
 ∃ (H' P':Hp) (α' : Aa Ad) (vs:Aa V),Inv X pins σ (upd H' acc (.lst vs)) s/\Rel X.K H' P' α' SF/\H' acc=none/\qF P1 P'/\α1<+:α'/\qD X.K P' α' ds vs/\H' C=none
theorem cZ {Y:Cx}{pins:Aa (Ad × AL)}{σ σ':_L.St}{H2:Hp}{s2 s':Af}{fp:Aa Ad}{acc:Ad}{H' P':Hp}{α':Aa Ad}{envF:qE}{SF:Sto}{cl:Aa (An × Ad)}(I2:Inv X pins σ H2 s2)
  (hf:∀ b∈fp,zS X pins H2 b) (hY:Y=qV X N' scope cl C fp s2 H2) (hC:s2.heap.objs.size<=C) (hA:s2.heap.objs.size<=acc) (hne:acc≠C) (st:TurnSt Y [] P1 α1 fp acc envF SF ds s' σ' H' P' α' o)
  {h':A8} (sb:CN C s'.heap h'):kH X pins σ P1 α1 ds SF acc C { s' with heap:=h' }:=by
 subst hY;obtain⟨its,n,vs,rfl,rv,rp,hz⟩:=st.acc;have kC:∀ b o,b≠C->s'.heap.get? b=Ab o->h'.get? b=Ab o:=λb o hb e=>(sb.2 b hb).trans e;have nC:∀ b o,s2.heap.get? b=Ab o->b≠C:=λb o e=>AV (Aw (Ay e) hC);have nA:∀ b o,s2.heap.get? b=Ab o->b≠acc:=λb o e=>AV (Aw (Ay e) hA);have base:Un (frs X.stack) fp H2 H' s2.heap s'.heap:=st.inv.base;have nt:∀ b u,H' b=Ab u->b≠acc:=λb u e=>qM e st.acn;have un:Un (frs X.stack) fp H2 (upd H' acc (.lst vs)) s2.heap h':=by
  refine⟨λb ob q hn hb hx=>kC b ob (nC b ob q) (base.keep b ob q hn hb hx),λb ob q hn hb hx=>?_,λb ob q hn hx=>?_,λb ob q hx=>?_,λb xs q=>?_,λb ob u q=>?_,λb ps q=>?_⟩
  .obtain⟨sl,e⟩:=base.slot b ob q hn hb hx
   exact⟨sl,kC b _ (nC b ob q) e⟩
  .rw[qH (nA b ob q)];exact base.free b ob q hn hx
  .obtain⟨o',e⟩:=base.there b ob q hx
   exact⟨o',kC b o' (nC b ob q) e⟩
  .have:=base.tups b xs q;rw[qH (nt _ _ this)];exact this
  .have:=base.frzs b ob u q;rw[qH (nt _ _ this)];exact this
  .obtain⟨more,e⟩:=base.tbls b ps q
   exact⟨more,by rw[qH (nt _ _ e)];exact e⟩
 have hok':HOk X.prog X.w H' h':=rT st.inv.hok st.inv.free kC;have hat:h'.get? acc=Ab { cls:=.type "list",data:=.seq its.toArray n }:=kC acc _ hne st.at';have hok:HOk X.prog X.w (upd H' acc (.lst vs)) h':=rV hok' st.acn ⟨by rw[<- rp.length,<- zK];exact hz,its,n,rv,hat⟩
 refine⟨H',P',α',vs,?_,st.rel,st.acn,st.same,st.pre,rp,st.inv.free⟩;exact I2.call' (s':={ s' with heap:=h' }) (ch:=fp) (st.inv.os) un hok st.inv.bare λb hb=>by
  obtain⟨_,h1,h2,h3,h4,h5⟩:=hf b hb;exact⟨h3,h1,h4,h5⟩
theorem nR (S:CompSc X.env.scope X.N scope N' cap)(ok:X.Ok):Ib scope X.env=pure (xM X.env.cells scope.names []):=jN λy hy hk=>ok.has y.1 (S.free y hy hk)
theorem X0 {pins:Aa (Ad × AL)}{σ:_L.St}{SF:Sto}{acc:Ad}{Q:VK}(c:kH X pins σ P1 α1 ds SF acc C s)(ok:OkV X P1 α1 Q (.lst ds) SF):EP X pins σ Q (.ref acc) s:=by
 obtain⟨H',P',α',vs,I,r,hn,e1,e2,rp,_⟩:=c;exact⟨.ref acc,_,I,rfl,xR r hn rp λv H2 P2 α2 r2 q1 q2 q3=>ok v H2 P2 α2 r2 (e1.trans q1) (e2.trans q2) q3⟩
end
end _D
section
namespace _D
open PySem PySem.Spec PyProof.Rows _L PySem.SeqAt
noncomputable def b01 (b:Ap):Am:=if b then 1 else 0
mutual
noncomputable def eqD:D->D->Ap
 |.non,.non=>true
 |.bl a,.bl b=>a == b
 |.bl a,.int b=>b01 a == b
 |.int a,.bl b=>a == b01 b
 |.int a,.int b=>a == b
 |.str a,.str b=>a == b
 |.tup xs,.tup ys=>xK xs ys
 |.lst xs,.lst ys=>xK xs ys
 |_,_=>false
noncomputable def xK:Aa D->Aa D->Ap
 |[],[]=>true
 |x::xs,y::ys=>eqD x y&&xK xs ys
 |_,_=>false
end
noncomputable def pl:Aj->D->Ap
 |_,.non=>true
 |_,.bl _=>true
 |_,.int _=>true
 |_,.str _=>true
 |n+1,.tup xs=>xs.all (pl n)
 |n+1,.lst xs=>xs.all (pl n)
 |_,_=>false
theorem rL (x y:D)(xs ys:Aa D):xK (x::xs) (y::ys)=(eqD x y&&xK xs ys):=rfl
theorem yU:∀ (xs ys:Aa D),xK xs ys=((CJ (min xs.length ys.length)).all (λj=>eqD (xs.getD j .non) (ys.getD j .non))&&xs.length == ys.length)
 |[],[]=>rfl
 |[],y::ys=>rfl
 |x::xs,[]=>rfl
 |x::xs,y::ys=>by
  have ih:=yU xs ys;rw[rL,ih,AG,AG,Nat.succ_min_succ,Gc,HJ,Lh,Bool.and_assoc];have e:(xs.length+1 == ys.length+1)=(xs.length == ys.length):=by simp
  rw[e];rfl
theorem i3 {xs ys:Aa D}(h:xs.length≠ys.length):xK xs ys=false:=by
 rw[yU];simp[h]
theorem b0 (xs ys:Aa D):eqD (.tup xs) (.tup ys)=xK xs ys:=rfl
theorem pZ (xs ys:Aa D):eqD (.lst xs) (.lst ys)=xK xs ys:=rfl
section
variable {X:Cx}{pins:Aa (Ad × AL)}{σ : _L.St}{H P:Hp}{α : Aa Ad}{S:Sto}{s:Af}
inductive Kd (X:Cx)(P:Hp)(α : Aa Ad)(s:Af):D->Ac->Prop where
 |non:Kd X P α s .non .none
 |bl (b:Ap):Kd X P α s (.bl b) (.bool b)
 |int (i:Am) (t:IS):Kd X P α s (.int i) (.int i t)
 |str (x:An) (t:IS):Kd X P α s (.str x) (.str x t)
 |tup (a:Ad) (xs:Aa D) (its:Aa Ac) (vs:Aa V) (rp:qD X.K P α xs vs) (rv:qK vs its) (h:s.heap.IsTuple a its.toArray) (q:SqT X.K P a vs):Kd X P α s (.tup xs) (.ref a)
 |lst (a:Ad) (xs:Aa D) (its:Aa Ac) (vs:Aa V) (rp:qD X.K P α xs vs) (rv:qK vs its) (h:s.heap.IsList a its.toArray) (q:SqX X.K P a vs):Kd X P α s (.lst xs) (.ref a)
theorem vN (I:Inv X pins σ H s)(r:Rel X.K H P α S){n:Aj}{d:D}{v:V}{u:Ac}(h:pl n d=true)(p:Rep X.K P α d v)(rv:qJ v u):Kd X P α s d u:=by
 cases d with
 |non=>simp only[Rep] at p;subst p;cases rv;exact .non
 |bl b=>simp only[Rep] at p;subst p;cases rv;exact .bl b
 |int i=>simp only[Rep] at p;subst p;obtain⟨t,rfl⟩:=rv;exact .int i t
 |str x=>simp only[Rep] at p;subst p;obtain⟨t,rfl⟩:=rv;exact .str x t
 |tup xs =>
  simp only[Rep] at p;obtain⟨a,vs,rfl,q,t⟩:=p;cases rv;obtain⟨its,r1,p1,_⟩:=I.tuple (xF r.sub q);exact .tup a xs its vs t r1 p1 q
 |lst xs =>
  simp only[Rep] at p;obtain⟨a,vs,rfl,q,t⟩:=p;cases rv;obtain⟨its,r1,p1,_⟩:=I.list ((xA r.sub q).l);exact .lst a xs its vs t r1 p1.isList q
 |_=>cases n <;> exact DB h
theorem yX {ds:Aa D}{vs:Aa V}{its:Aa Ac}(rp:qD X.K P α ds vs)(rv:qK vs its){j:Aj}(h:j<its.toArray.size):∃ v,Rep X.K P α (ds.getD j .non) v/\qJ v its.toArray[j]/\ds.getD j .non∈ds:=by
 have l1:=rp.length;have l2:=rv.length;have hj:j<its.length:=by simpa using h
 have hd:j<ds.length:=by lia
 obtain⟨v,e1,p⟩:=rp.get (Ax hd);obtain⟨u,e2,q⟩:=rv.get e1;have e3:its.toArray[j]=u:=by
  have:its[j]? = Ab its[j]:=Ax hj;rw[this] at e2;simpa using AQ e2
 have e4:ds.getD j .non=ds[j]:=by simp[HK,hd]
 rw[e3,e4];exact⟨v,p,q,LU hd⟩
theorem vR {n:Aj}{ds:Aa D}(h:ds.all (pl n)=true){d:D}(hd:d∈ds):pl n d=true:=AS.mp h d hd
theorem XC {h:A8}{a:Ad}{xs ys:A6 Ac}(h1:h.IsTuple a xs)(h2:h.IsTuple a ys):xs=ys:=by
 obtain⟨o,e,_,n,d⟩:=h1;obtain⟨o',e',_,n',d'⟩:=h2;cases e.symm.trans e';cases d.symm.trans d';rfl
theorem XA {h:A8}{a:Ad}{xs ys:A6 Ac}(h1:h.IsList a xs)(h2:h.IsList a ys):xs=ys:=by
 obtain⟨o,e,_,n,d⟩:=h1;obtain⟨o',e',_,n',d'⟩:=h2;cases e.symm.trans e';cases d.symm.trans d';rfl
theorem U2 {h:A8}{a:Ad}{xs ys:A6 Ac}(h1:h.IsTuple a xs)(h2:h.IsList a ys):Cp:=by
 obtain⟨o,e,c,_⟩:=h1;obtain⟨o',e',c',_⟩:=h2;cases e.symm.trans e';exact absurd (c.symm.trans c') (by decide)
inductive Seqs (X:Cx)(P:Hp)(α : Aa Ad)(xs ys:Aa D)(its its2:Aa Ac):Prop
 |mk (vs ws:Aa V) (rp:qD X.K P α xs vs) (rv:qK vs its) (rp2:qD X.K P α ys ws) (rv2:qK ws its2):Seqs X P α xs ys its its2
theorem Seqs.len1 {xs ys:Aa D}{its its2:Aa Ac}(q:Seqs X P α xs ys its its2):xs.length=its.length:=by
 obtain⟨vs,ws,rp,rv,_,_⟩:=q;exact rp.length.trans rv.length
theorem Seqs.len2 {xs ys:Aa D}{its its2:Aa Ac}(q:Seqs X P α xs ys its its2):ys.length=its2.length:=by
 obtain⟨vs,ws,_,_,rp,rv⟩:=q;exact rp.length.trans rv.length
inductive SameR (X:Cx)(P:Hp)(α : Aa Ad):D->D->Prop
 |eq {d d':D} (h:eqD d d'=true):SameR X P α d d'
 |tt (xs ys:Aa D) (its:Aa Ac) (q:Seqs X P α xs ys its its):SameR X P α (.tup xs) (.tup ys)
 |ll (xs ys:Aa D) (its:Aa Ac) (q:Seqs X P α xs ys its its):SameR X P α (.lst xs) (.lst ys)
theorem lQ {d d':D}{u:Ac}(k1:Kd X P α s d u)(k2:Kd X P α s d' u):SameR X P α d d':=by
 cases k1 with
 |non=>cases k2;exact .eq rfl
 |bl b=>cases k2;exact .eq (Dk _)
 |int i t=>cases k2;exact .eq (Dk _)
 |str x t=>cases k2;exact .eq (Dk _)
 |tup a xs its vs rp rv h q =>
  cases k2 with
  |tup _ ys its2 ws rp2 rv2 h2 q2 =>
   cases XC h h2;exact .tt xs ys its ⟨vs,ws,rp,rv,rp2,rv2⟩
  |lst _ ys its2 ws rp2 rv2 h2 q2=>exact(U2 h h2).elim
 |lst a xs its vs rp rv h q =>
  cases k2 with
  |lst _ ys its2 ws rp2 rv2 h2 q2 =>
   cases XA h h2;exact .ll xs ys its ⟨vs,ws,rp,rv,rp2,rv2⟩
  |tup _ ys its2 ws rp2 rv2 h2 q2=>exact(U2 h2 h).elim
theorem bY (I:Inv X pins σ H s)(r:Rel X.K H P α S){m:Aj}(ih:∀ (d d':D) (u:Ac),pl m d=true->pl m d'=true->Kd X P α s d u->Kd X P α s d' u->eqD d d'=true){xs ys:Aa D}{its:Aa Ac}(h1:xs.all (pl m)=true)(h2:ys.all (pl m)=true)(q:Seqs X P α xs ys its its):xK xs ys=true:=by
 obtain⟨vs,ws,rp,rv,rp2,rv2⟩:=q;have l1:=rp.length.trans rv.length;have l2:=rp2.length.trans rv2.length;rw[yU,l1,l2,Li,A5];refine⟨AS.mpr λj hj=>?_,BEq.rfl⟩;have hj:j<its.toArray.size:=Dm.mp hj;obtain⟨w1,y1,z1,m1⟩:=yX rp rv hj;obtain⟨w2,y2,z2,m2⟩:=yX rp2 rv2 hj;exact ih _ _ _ (vR h1 m1) (vR h2 m2) (vN I r (vR h1 m1) y1 z1) (vN I r (vR h2 m2) y2 z2)
theorem nZ (I:Inv X pins σ H s)(r:Rel X.K H P α S):∀ (n:Aj) (d d':D) (u:Ac),pl n d=true->pl n d'=true->Kd X P α s d u->Kd X P α s d' u->eqD d d'=true:=by
 intro n
 induction n with
 |zero =>
  intro d d' u h1 h2 k1 k2;cases lQ k1 k2 with
  |eq h=>exact h
  |tt=>exact DB h1
  |ll=>exact DB h1
 |succ m ih =>
  intro d d' u h1 h2 k1 k2;cases lQ k1 k2 with
  |eq h=>exact h
  |tt xs ys its q=>exact(b0 xs ys).trans (bY I r ih h1 h2 q)
  |ll xs ys its q=>exact(pZ xs ys).trans (bY I r ih h1 h2 q)
structure E3 (A:AF)(s:Af)(u u':Ac)(b:Ap):Prop where
 eq:EqAt A s u u' b
 rc:RcAt A s u u' b
 ne:RcNeAt A s u u' (!b)
inductive EqR (X:Cx)(P:Hp)(α : Aa Ad)(A:AF)(s:Af):D->D->Ac->Ac->Prop
 |of {d d':D} {u u':Ac} (b:Ap) (e:eqD d d'=b) (h:E3 A s u u' b):EqR X P α A s d d' u u'
 |tt (a b:Ad) (xs ys:Aa D) (its its2:Aa Ac) (ha:s.heap.IsTuple a its.toArray) (hb:s.heap.IsTuple b its2.toArray) (q:Seqs X P α xs ys its its2):EqR X P α A s (.tup xs) (.tup ys) (.ref a) (.ref b)
 |ll (a b:Ad) (xs ys:Aa D) (its its2:Aa Ac) (ha:s.heap.IsList a its.toArray) (hb:s.heap.IsList b its2.toArray) (q:Seqs X P α xs ys its its2):EqR X P α A s (.lst xs) (.lst ys) (.ref a) (.ref b)
theorem Q5 {A:AF}{d d':D}{u u':Ac}(hu:A.units<D3)(k1:Kd X P α s d u)(k2:Kd X P α s d' u'):EqR X P α A s d d' u u':=by
 cases k1 with
 |non  =>
  cases k2 with
  |non  => exact .of _ rfl ⟨Nt _,RcAt.none_none,RcNeAt.none_none⟩
  |bl b=>exact .of _ rfl ⟨EqAt.none_bool b,RcAt.none_bool b,RcNeAt.none_bool b⟩
  |int b tb=>exact .of _ rfl ⟨EqAt.none_int b tb,RcAt.none_int b tb,RcNeAt.none_int b tb⟩
  |str b tb=>exact .of _ rfl ⟨EqAt.none_str b tb,RcAt.none_str b tb,RcNeAt.none_str b tb⟩
  |tup b ys its2 ws rp2 rv2 hb qb=>exact .of _ rfl ⟨EqAt.none_tuple hb hu,RcAt.none_tuple hb hu,RcNeAt.none_tuple hb hu⟩
  |lst b ys its2 ws rp2 rv2 hb qb=>exact .of _ rfl ⟨EqAt.none_list hb hu,RcAt.none_list hb hu,RcNeAt.none_list hb hu⟩
 |bl a =>
  cases k2 with
  |non  => exact .of _ rfl ⟨EqAt.bool_none a,RcAt.bool_none a,RcNeAt.bool_none a⟩
  |bl b=>exact .of _ rfl ⟨EqAt.bool_bool a b,RcAt.bool_bool a b,RcNeAt.bool_bool a b⟩
  |int b tb=>exact .of _ rfl ⟨EqAt.bool_int a b tb,RcAt.bool_int a b tb,RcNeAt.bool_int a b tb⟩
  |str b tb=>exact .of _ rfl ⟨EqAt.bool_str a b tb,RcAt.bool_str a b tb,RcNeAt.bool_str a b tb⟩
  |tup b ys its2 ws rp2 rv2 hb qb=>exact .of _ rfl ⟨EqAt.bool_tuple a hb hu,RcAt.bool_tuple a hb hu,RcNeAt.bool_tuple a hb hu⟩
  |lst b ys its2 ws rp2 rv2 hb qb=>exact .of _ rfl ⟨EqAt.bool_list a hb hu,RcAt.bool_list a hb hu,RcNeAt.bool_list a hb hu⟩
 |int a ta =>
  cases k2 with
  |non  => exact .of _ rfl ⟨EqAt.int_none a ta,RcAt.int_none a ta,RcNeAt.int_none a ta⟩
  |bl b=>exact .of _ rfl ⟨EqAt.int_bool a ta b,RcAt.int_bool a ta b,RcNeAt.int_bool a ta b⟩
  |int b tb=>exact .of _ rfl ⟨EqAt.int_int a ta b tb,RcAt.int_int a ta b tb,RcNeAt.int_int a ta b tb⟩
  |str b tb=>exact .of _ rfl ⟨EqAt.int_str a ta b tb,RcAt.int_str a ta b tb,RcNeAt.int_str a ta b tb⟩
  |tup b ys its2 ws rp2 rv2 hb qb=>exact .of _ rfl ⟨EqAt.int_tuple a ta hb hu,RcAt.int_tuple a ta hb hu,RcNeAt.int_tuple a ta hb hu⟩
  |lst b ys its2 ws rp2 rv2 hb qb=>exact .of _ rfl ⟨EqAt.int_list a ta hb hu,RcAt.int_list a ta hb hu,RcNeAt.int_list a ta hb hu⟩
 |str a ta =>
  cases k2 with
  |non  => exact .of _ rfl ⟨EqAt.str_none a ta,RcAt.str_none a ta,RcNeAt.str_none a ta⟩
  |bl b=>exact .of _ rfl ⟨EqAt.str_bool a ta b,RcAt.str_bool a ta b,RcNeAt.str_bool a ta b⟩
  |int b tb=>exact .of _ rfl ⟨EqAt.str_int a ta b tb,RcAt.str_int a ta b tb,RcNeAt.str_int a ta b tb⟩
  |str b tb=>exact .of _ rfl ⟨EqAt.str_str a ta b tb,RcAt.str_str a ta b tb,RcNeAt.str_str a ta b tb⟩
  |tup b ys its2 ws rp2 rv2 hb qb=>exact .of _ rfl ⟨EqAt.str_tuple a ta hb hu,RcAt.str_tuple a ta hb hu,RcNeAt.str_tuple a ta hb hu⟩
  |lst b ys its2 ws rp2 rv2 hb qb=>exact .of _ rfl ⟨EqAt.str_list a ta hb hu,RcAt.str_list a ta hb hu,RcNeAt.str_list a ta hb hu⟩
 |tup a xs its vs rp rv ha qa =>
  cases k2 with
  |non  => exact .of _ rfl ⟨EqAt.tuple_none ha hu,RcAt.tuple_none ha hu,RcNeAt.tuple_none ha hu⟩
  |bl b=>exact .of _ rfl ⟨EqAt.tuple_bool b ha hu,RcAt.tuple_bool b ha hu,RcNeAt.tuple_bool b ha hu⟩
  |int b tb=>exact .of _ rfl ⟨EqAt.tuple_int b tb ha hu,RcAt.tuple_int b tb ha hu,RcNeAt.tuple_int b tb ha hu⟩
  |str b tb=>exact .of _ rfl ⟨EqAt.tuple_str b tb ha hu,RcAt.tuple_str b tb ha hu,RcNeAt.tuple_str b tb ha hu⟩
  |tup b ys its2 ws rp2 rv2 hb qb=>exact .tt a b xs ys its its2 ha hb ⟨vs,ws,rp,rv,rp2,rv2⟩
  |lst b ys its2 ws rp2 rv2 hb qb=>exact .of _ rfl ⟨EqAt.tuple_list ha hb hu,RcAt.tuple_list ha hb hu,RcNeAt.tuple_list ha hb hu⟩
 |lst a xs its vs rp rv ha qa =>
  cases k2 with
  |non  => exact .of _ rfl ⟨EqAt.list_none ha hu,RcAt.list_none ha hu,RcNeAt.list_none ha hu⟩
  |bl b=>exact .of _ rfl ⟨EqAt.list_bool b ha hu,RcAt.list_bool b ha hu,RcNeAt.list_bool b ha hu⟩
  |int b tb=>exact .of _ rfl ⟨EqAt.list_int b tb ha hu,RcAt.list_int b tb ha hu,RcNeAt.list_int b tb ha hu⟩
  |str b tb=>exact .of _ rfl ⟨EqAt.list_str b tb ha hu,RcAt.list_str b tb ha hu,RcNeAt.list_str b tb ha hu⟩
  |tup b ys its2 ws rp2 rv2 hb qb=>exact .of _ rfl ⟨EqAt.list_tuple ha hb hu,RcAt.list_tuple ha hb hu,RcNeAt.list_tuple ha hb hu⟩
  |lst b ys its2 ws rp2 rv2 hb qb=>exact .ll a b xs ys its its2 ha hb ⟨vs,ws,rp,rv,rp2,rv2⟩
theorem E3.cast {A:AF}{u u':Ac}{b c:Ap}(e:c=b)(h:E3 A s u u' b):E3 A s u u' c:=e▸h
theorem GU {A:AF}{a b:Ad}{xs ys:Aa D}{its its2:Aa Ac}(hu:A.units<D3)(ha:s.heap.IsTuple a its.toArray)(hb:s.heap.IsTuple b its2.toArray)(l1:xs.length=its.length)(l2:ys.length=its2.length)
  (sub:∀ j (h1:j<its.toArray.size) (h2:j<its2.toArray.size),EqAt A.in1 s its.toArray[j] its2.toArray[j] (eqD (xs.getD j .non) (ys.getD j .non))) (same:a=b->xK xs ys=true):E3 A s (.ref a) (.ref b) (xK xs ys):=by
 have e:xK xs ys=((CJ (min its.toArray.size its2.toArray.size)).all (λj=>eqD (xs.getD j .non) (ys.getD j .non))&&its.toArray.size == its2.toArray.size):=by rw[yU,l1,l2];rfl
 have R1:=RcAt.tuples ha hb hu sub;have R2:=RcNeAt.tuples ha hb hu sub;rw[<- e] at R1 R2;refine⟨?_,R1,R2⟩;by_cases hab:a=b
 .rw[same hab,hab]
  exact Nt _
 .exact NK hab R1
theorem GT {A:AF}{a b:Ad}{xs ys:Aa D}{its its2:Aa Ac}(hu:A.units<D3)(ha:s.heap.IsList a its.toArray)(hb:s.heap.IsList b its2.toArray)(l1:xs.length=its.length)(l2:ys.length=its2.length)
  (sub:∀ j (h1:j<its.toArray.size) (h2:j<its2.toArray.size),EqAt A.in1 s its.toArray[j] its2.toArray[j] (eqD (xs.getD j .non) (ys.getD j .non))) (same:a=b->xK xs ys=true):E3 A s (.ref a) (.ref b) (xK xs ys):=by
 have R:RcAt A s (.ref a) (.ref b) (xK xs ys)/\RcNeAt A s (.ref a) (.ref b) (!xK xs ys):=by
  by_cases hl:its.length=its2.length
  .have e:xK xs ys=(CJ its.toArray.size).all (λj=>eqD (xs.getD j .non) (ys.getD j .non)):=by rw[yU,l1,l2,<- hl,Li,BEq.rfl,Nu];rfl
   rw[e];exact⟨RcAt.lists ha hb hl hu sub,RcNeAt.lists ha hb hl hu sub⟩
  .rw[i3 (by rw[l1,l2];exact hl)]
   have hn:(its.toArray.size != its2.toArray.size)=true:=bne_iff_ne.mpr hl;exact⟨RcAt.lists_lengths ha hb hn hu,RcNeAt.lists_lengths ha hb hn hu⟩
 refine⟨?_,R.1,R.2⟩;by_cases hab:a=b
 .rw[same hab,hab]
  exact Nt _
 .exact NK hab R.1
theorem rK (I:Inv X pins σ H s)(r:Rel X.K H P α S):∀ (n:Aj) (A:AF) (d d':D) (u u':Ac),A.units+n<D3->pl n d=true->pl n d'=true->Kd X P α s d u->Kd X P α s d' u'->E3 A s u u' (eqD d d'):=by
 intro n
 induction n with
 |zero =>
  intro A d d' u u' hu h1 h2 k1 k2;cases Q5 hu k1 k2 with
  |of b e h=>exact h.cast e
  |tt=>exact DB h1
  |ll=>exact DB h1
 |succ m ih =>
  intro A d d' u u' hu h1 h2 k1 k2;have hu0:A.units<D3:=Fj (Ie _ _) hu;have hu1:A.in1.units+m<D3:=by show A.units+1+m<D3;lia
  have sub:∀ {xs ys:Aa D} {its its2:Aa Ac},xs.all (pl m)=true->ys.all (pl m)=true->Seqs X P α xs ys its its2 ->
    ∀ j (h1:j<its.toArray.size) (h2:j<its2.toArray.size),EqAt A.in1 s its.toArray[j] its2.toArray[j] (eqD (xs.getD j .non) (ys.getD j .non)):=λ{xs ys its its2} a1 a2 ⟨vs,ws,b1,b2,c1,c2⟩ j g1 g2=>by
   obtain⟨w1,y1,z1,m1⟩:=yX b1 b2 g1;obtain⟨w2,y2,z2,m2⟩:=yX c1 c2 g2;exact(ih A.in1 _ _ _ _ hu1 (vR a1 m1) (vR a2 m2) (vN I r (vR a1 m1) y1 z1) (vN I r (vR a2 m2) y2 z2)).eq
  cases Q5 hu0 k1 k2 with
  |of b e h=>exact h.cast e
  |tt a b xs ys its its2 ha hb q=>exact(GU hu0 ha hb q.len1 q.len2 (sub h1 h2 q) λe=>by subst e;exact(b0 xs ys).symm.trans (nZ I r (m+1) _ _ _ h1 h2 k1 k2)).cast (b0 xs ys)
  |ll a b xs ys its its2 ha hb q=>exact(GT hu0 ha hb q.len1 q.len2 (sub h1 h2 q) λe=>by subst e;exact(pZ xs ys).symm.trans (nZ I r (m+1) _ _ _ h1 h2 k1 k2)).cast (pZ xs ys)
noncomputable def xW:Aj:=30
noncomputable def gEq:G2:=λa b S=>if pl xW a&&pl xW b then .ok (.bl (eqD a b)) S else .bad
noncomputable def gNe:G2:=λa b S=>if pl xW a&&pl xW b then .ok (.bl (!eqD a b)) S else .bad
set_option tactic.hygienic true in
theorem PU (hu:X.A.units+64<D3):OpD X (Cd .Eq) gEq:=by
 intro pins σ H s P α S v u vv uu a b Q I r rv ru pa pb af;unfold gEq at af
 split at af
 .rename_i h
  rw[A5] at h;exact(rK I r xW X.A a b vv uu (by unfold xW;lia) h.1 h.2 (vN I r h.1 pa rv) (vN I r h.2 pb ru)).rc _ _ _ _ ⟨.bl _,H,I,rfl,xr af r (by simp only[Rep])⟩
 .exact Al af
set_option tactic.hygienic true in
theorem B0 (hu:X.A.units+64<D3):OpD X (Cd .NotEq) gNe:=by
 intro pins σ H s P α S v u vv uu a b Q I r rv ru pa pb af;unfold gNe at af
 split at af
 .rename_i h
  rw[A5] at h;exact(rK I r xW X.A a b vv uu (by unfold xW;lia) h.1 h.2 (vN I r h.1 pa rv) (vN I r h.2 pb ru)).ne _ _ _ _ ⟨.bl _,H,I,rfl,xr af r (by simp only[Rep])⟩
 .exact Al af
end
end _D
end
namespace _D
open PySem PySem.Spec PyProof.Rows _L
variable {pins:Aa (Ad × AL)}{kvs:Aa (Key × D)}{its us:Aa Ac}{xs ds:Aa D}{vs:Aa V}{s:Af}{d:D}{v:V}{Q:VK}{σ:_L.St}
section
variable {X:Cx}
noncomputable def i2 (C:Am->Am->Ap)(f:Am->Am->D):G2:=λa b S=>match a,b with
 |.int i,.int j=>if C i j then .ok (f i j) S else .bad
 |_,_=>.bad
theorem dO {C:Am->Am->Ap}{f:Am->Am->D}{a b:D}{S:Sto}{P:Hp}{α:Aa Ad}{Ok:D->Sto->Prop}(h:qI X P α (i2 C f a b S) Ok):∃ i j,a=.int i/\b=.int j/\C i j=true/\Ok (f i j) S:=by
 cases a with
 |int i =>
  cases b with
  |int j =>
   obtain⟨hc,h⟩:=xD (X:=X) h;exact⟨i,j,rfl,rfl,hc,h⟩
  |_=>exact Al h
 |_=>exact Al h
theorem zW {P:Hp}{α:Aa Ad}{i:Am}(r:Rep X.K P α (.int i) v):v=.int i:=by simpa only [Rep] using r
theorem pB {f:Ac->Ac->EE Ac}{C':Am->Am->Prop}{v:Am->Am->V}{C:Am->Am->Ap}{d:Am->Am->D}(h:OpR X f (rI C' v))(hC:∀ i j,C i j=true->C' i j)(hv:∀ P α i j,Rep X.K P α (d i j) (v i j)):OpD X f (i2 C d):=
 OpD.of h λH P α S x y a b Q r p1 p2 af=>by
  obtain⟨i,j,rfl,rfl,hc,ok⟩:=dO af;exact⟨i,j,zW p1,zW p2,hC i j hc,xr ok r (hv P α i j)⟩
theorem pA {f:Ac->Ac->EE Ac}{v:Am->Am->V}{d:Am->Am->D}(h:OpR X f (rI0 v))(hv:∀ P α i j,Rep X.K P α (d i j) (v i j)):OpD X f (i2 (λ_ _=>true) d):=
 OpD.of h λH P α S x y a b Q r p1 p2 af=>by
  obtain⟨i,j,rfl,rfl,_,ok⟩:=dO af;exact⟨i,j,zW p1,zW p2,xr ok r (hv P α i j)⟩
noncomputable def yH:G2:=i2 (λ_ _=>true) λi j=>.int (i-j)
theorem UV:OpD X (CC .Sub) yH:=pA JA λP α i j=>by simp only[Rep]
noncomputable def mD (i j:Am):Ap:=decide (-(2 ^ 64)<i/\i<2 ^ 64)||decide (-(2 ^ 64)<j/\j<2 ^ 64)
theorem W0:OpD X (CC .Mult) (i2 mD λi j=>.int (i*j)):=pB J8 (λi j h=>by
 unfold mD at h;rw[IL] at h;rcases h with h|h
 .exact .inl (AU h)
 .exact .inr (AU h)) λP α i j=>by simp only[Rep]
noncomputable def YL (i j:Am):Ap:=decide (0<j/\j<1073741824)
noncomputable def gH:G2:=i2 YL λi j=>.int (i/j)
theorem US:OpD X (CC .FloorDiv) gH:=pB W3 (λi j h=>(AU h:0<j/\j<1073741824)) λP α i j=>by simp only[Rep]
noncomputable def uV:G2:=i2 (λ_ j=>decide (0<j)) λi j=>.int (i % j)
theorem UT:OpD X (CC .Mod) uV:=pB J7 (λi j h=>AU h) λP α i j=>by simp only[Rep]
noncomputable def FE (i j:Am):Ap:=decide (0<=j/\j<=1000000/\i.natAbs<2 ^ 64)
noncomputable def t7:G2:=i2 FE λi j=>.int (i ^ j.toNat)
theorem UU:OpD X (CC .Pow) t7:=pB J9 (λi j h=>(AU h:0<=j/\j<=1000000/\i.natAbs<2 ^ 64)) λP α i j=>by simp only[Rep]
noncomputable def gLt:G2:=i2 (λ_ _=>true) λi j=>.bl (decide (i<j))
noncomputable def gLe:G2:=i2 (λ_ _=>true) λi j=>.bl (decide (i<=j))
noncomputable def gGe:G2:=i2 (λ_ _=>true) λi j=>.bl (decide (j<=i))
theorem PZ:OpD X (Cd .Lt) gLt:=pA B5 λP α i j=>by simp only[Rep]
theorem PY:OpD X (Cd .LtE) gLe:=pA B4 λP α i j=>by simp only[Rep]
theorem PV:OpD X (Cd .GtE) gGe:=pA B3 λP α i j=>by simp only[Rep]
noncomputable def bA:D->Sto->Res D:=λa S=>match a with
 |.int i=>.ok (.int (-i)) S
 |_=>.bad
theorem KO:UnD X (LH .USub) bA:=by
 intro pins σ H s P α S v vv a Q I r rv p af;cases a with
 |int i=>exact KP pins s σ H v vv Q I rv ⟨i,zW p,xr af r (by simp only[Rep])⟩
 |_=>exact Al af
noncomputable def gIs:G2:=λa b S=>match b with
 |.non=>match a with
  |.non=>.ok (.bl true) S
  |_=>.ok (.bl false) S
 |_=>.bad
theorem XW {P:Hp}{α:Aa Ad}(r:Rep X.K P α d v):decide (v=.non)=(match d with|.non=>true|_=>false):=by
 cases d <;> simp only[Rep] at r
 case non=>subst r;rfl
 case bl=>subst r;rfl
 case int=>subst r;rfl
 case str=>subst r;rfl
 case ty=>subst r;rfl
 case clo=>obtain⟨rfl,_⟩:=r;rfl
 case obj=>obtain⟨rfl,_⟩:=r;rfl
 case tup=>obtain⟨a,vs,rfl,_⟩:=r;rfl
 case lst=>obtain⟨a,vs,rfl,_⟩:=r;rfl
 case dct0=>obtain⟨a,rfl,_⟩:=r;rfl
 case loc=>obtain⟨a,rfl,_⟩:=r;rfl
 case exn=>obtain⟨a,rfl,_⟩:=r;rfl
 case fd=>obtain⟨a,o,vs,rfl,_⟩:=r;rfl
theorem PX:OpD X (Cd .Is) gIs:=OpD.of J3 λH P α S x y a b Q r p1 p2 af=>by
 cases b with
 |non =>
  simp only[Rep] at p2;refine⟨p2,?_⟩;rw[XW p1];cases a <;> exact xr af r (by simp only[Rep])
 |_=>exact Al af
noncomputable def zI:G2:=λa b S=>match a,b with
 |.int i,.int j=>.ok (.int (i+j)) S
 |.str x,.str y=>if x.length+y.length<=lim then .ok (.str (x++y)) S else .bad
 |.tup xs,.tup ys=>if xs.length+ys.length<=lim then .ok (.tup (xs++ys)) S else .bad
 |.lst xs,.lst ys=>if xs.length+ys.length<=lim then .ok (.lst (xs++ys)) S else .bad
 |_,_=>.bad
theorem kE {H P:Hp}{α:Aa Ad}{S:Sto}(I:Inv X pins σ H s)(r:Rel X.K H P α S)(p:Rep X.K P α (.tup xs) v) :
  ∃ a vs its,v=.ref a/\SqT X.K P a vs/\qD X.K P α xs vs/\qK vs its/\Lq s.heap a its.toArray/\xs.length=its.length/\xs.length<=lim:=by
 simp only[Rep] at p;obtain⟨a,vs,rfl,q,t⟩:=p;obtain⟨its,rv,p1,z⟩:=I.tuple (xF r.sub q);exact⟨a,vs,its,rfl,q,t,rv,p1,by rw[t.length,rv.length],by rw[t.length,zK];exact z⟩
theorem v3 {H P:Hp}{α:Aa Ad}{S:Sto}(I:Inv X pins σ H s)(r:Rel X.K H P α S)(p:Rep X.K P α (.lst xs) v) :
  ∃ a vs its n,v=.ref a/\SqX X.K P a vs/\qD X.K P α xs vs/\qK vs its/\s.heap.get? a=Ab { cls:=.type "list",data:=.seq its.toArray n } /\ xs.length=its.length/\xs.length<=lim:=by
 simp only[Rep] at p;obtain⟨a,vs,rfl,q,t⟩:=p;have:∃ its n,qK vs its/\s.heap.get? a=Ab { cls:=.type "list",data:=.seq its.toArray n } /\ vs.length<=sizeLine:=by
  rcases q with q|⟨its,n,e,z,rv⟩
  .obtain⟨z,its,n,rv,e⟩:=(lK r.sub q).ok I.hok
   exact⟨its,n,rv,e,z⟩
  .exact⟨its,n,rv,I.kIn _ _ e,z⟩
 obtain⟨its,n,rv,e,z⟩:=this;exact⟨a,vs,its,n,rfl,q,t,rv,e,by rw[t.length,rv.length],by rw[t.length,zK];exact z⟩
theorem iH {H P:Hp}{α:Aa Ad}{S:Sto}(I:Inv X pins σ H s)(r:Rel X.K H P α S)(t:qD X.K P α xs vs)(rv:qK vs its)(hz:xs.length<=lim)
  (ok:OkV X P α Q (.tup xs) S):EP X pins σ Q (.ref s.heap.objs.size) { s with heap:=s.heap.push { cls:=.type "tuple",data:=.seq its.toArray } }:=by
 refine⟨.ref s.heap.objs.size,_,I.laid (t':=s.toks) (o:=.tup vs) (λb ob q=>Ai _ q) (Ar _) ⟨by rw[<- t.length,<- zK];exact hz,its,rv,Np _ _⟩,rfl,jD r (I.hok.fresh (Ar _)) t ok⟩
theorem iG {H P:Hp}{α:Aa Ad}{S:Sto}(I:Inv X pins σ H s)(r:Rel X.K H P α S)(t:qD X.K P α xs vs)(rv:qK vs its)(hz:xs.length<=lim)
  (ok:OkV X P α Q (.lst xs) S):EP X pins σ Q (.ref s.heap.objs.size) { s with heap:=s.heap.push { cls:=.type "list",data:=.seq its.toArray } }:=by
 refine⟨.ref s.heap.objs.size,_,I.laid (t':=s.toks) (o:=.lst vs) (λb ob q=>Ai _ q) (Ar _) ⟨by rw[<- t.length,<- zK];exact hz,its,0,rv,AB _ rfl⟩,rfl,xR r (I.hok.fresh (Ar _)) t ok⟩
theorem YJ {H P:Hp}{α:Aa Ad}{S:Sto}{ys:Aa D}{u:V}{vv uu:Ac}(I:Inv X pins σ H s)(r:Rel X.K H P α S)(rv:qJ v vv)(ru:qJ u uu)(pa:Rep X.K P α (.tup xs) v)(pb:Rep X.K P α (.tup ys) u)(hl:xs.length+ys.length<=lim)(af:OkV X P α Q (.tup (xs++ys)) S) :
  Ao (Aq X.prog X.w) X.A (CC .Add vv uu) (EP X pins σ Q) X.xe s:=by
 obtain⟨a,vs,its,rfl,q1,t1,rv1,h1,l1,_⟩:=kE I r pa;obtain⟨b,ws,its2,rfl,q2,t2,rv2,h2,l2,_⟩:=kE I r pb;cases rv;cases ru;by_cases hx:its=[]
 .obtain⟨⟨cls,dd,data,sl⟩,ho,hc,n,hd⟩:=id h1
  obtain⟨⟨cls2,dd2,data2,sl2⟩,ho2,hc2,n2,hd2⟩:=id h2;simp only at hc hd hc2 hd2;subst hc hd hc2 hd2;have hxs:xs=[]:=Fo.mp (by rw[l1,hx];rfl)
  subst hxs;exact La ⟨_,ho,rfl⟩ ⟨_,ho2,rfl⟩ HY Jy Ga Fn (Fg _ _) (tuple_addW0 a b its.toArray its2.toArray n n2 dd dd2 sl sl2 (by simp[hx]))
   ⟨ho,ho2,⟨.ref b,H,I,rfl,xr af r pb⟩⟩
 .refine _H.cat_tup h1 h2 hx (λz=>⟨.ref a,H,I,rfl,xr af r ?_⟩) (λz=>?_) (by rw[<- l1,<- l2,<- zK];exact hl)
  .have hys:ys=[]:=Fo.mp (by rw[l2,z];rfl)
   rw[hys,CG];exact pa
  .exact iH I r (t1.append t2) (rv1.append rv2) (by rw[AT];exact hl) af
theorem YI {H P:Hp}{α:Aa Ad}{S:Sto}{ys:Aa D}{u:V}{vv uu:Ac}(I:Inv X pins σ H s)(r:Rel X.K H P α S)(rv:qJ v vv)(ru:qJ u uu)(pa:Rep X.K P α (.lst xs) v)(pb:Rep X.K P α (.lst ys) u)(hl:xs.length+ys.length<=lim)(af:OkV X P α Q (.lst (xs++ys)) S) :
  Ao (Aq X.prog X.w) X.A (CC .Add vv uu) (EP X pins σ Q) X.xe s:=by
 obtain⟨a,vs,its,n,rfl,q1,t1,rv1,h1,l1,_⟩:=v3 I r pa;obtain⟨b,ws,its2,n2,rfl,q2,t2,rv2,h2,l2,_⟩:=v3 I r pb;cases rv;cases ru;refine PySem.P.add_list h1 h2 ?_ (by rw[A9,A9,<- l1,<- l2,<- zK];exact hl)
 rw[List.append_toArray];exact iG I r (t1.append t2) (rv1.append rv2) (by rw[AT];exact hl) af
inductive AddV (a b:D)(S:Sto):Prop
 |bad (e:zI a b S=.bad)
 |int (i j:Am) (ea:a=.int i) (eb:b=.int j)
 |str (x y:An) (ea:a=.str x) (eb:b=.str y)
 |tup (x y:Aa D) (ea:a=.tup x) (eb:b=.tup y)
 |lst (x y:Aa D) (ea:a=.lst x) (eb:b=.lst y)
theorem FC (a b:D)(S:Sto):AddV a b S:=by
 cases a with
 |int i=>cases b with
  |int j=>exact .int i j rfl rfl
  |_=>exact .bad rfl
 |str i=>cases b with
  |str j=>exact .str i j rfl rfl
  |_=>exact .bad rfl
 |tup i=>cases b with
  |tup j=>exact .tup i j rfl rfl
  |_=>exact .bad rfl
 |lst i=>cases b with
  |lst j=>exact .lst i j rfl rfl
  |_=>exact .bad rfl
 |_=>exact .bad rfl
theorem UR:OpD X (CC .Add) zI:=by
 intro pins σ H s P α S v u vv uu a b Q I r rv ru pa pb af;cases FC a b S with
 |bad e=>rw[e] at af;exact Al af
 |int i j ea eb =>
  subst ea eb;exact J2 pins s σ H v u vv uu Q I rv ru ⟨i,j,zW pa,zW pb,xr af r (by simp only[Rep])⟩
 |str x y ea eb =>
  subst ea eb;obtain⟨hl,af⟩:=xD (X:=X) af;simp only[Rep] at pa pb;exact sD pins s σ H v u vv uu Q I rv ru ⟨x,y,pa,pb,by rw[<- zK];exact hl,xr af r (by simp only[Rep])⟩
 |tup xs ys ea eb =>
  subst ea eb;obtain⟨hl,af⟩:=xD (X:=X) af;exact YJ I r rv ru pa pb hl af
 |lst xs ys ea eb =>
  subst ea eb;obtain⟨hl,af⟩:=xD (X:=X) af;exact YI I r rv ru pa pb hl af
noncomputable def gIx:G2:=λa b S=>match b with
 |.int k=>match a with
  |.tup xs=>wW (atI xs k) S
  |.lst xs=>wW (atI xs k) S
  |.loc i=>match S[i]? with
   |some (.lst xs)=>wW (atI xs k) S
   |_=>.bad
  |_=>.bad
 |_=>.bad
theorem pP {P:Hp}{α:Aa Ad}{k:Am}(rp:qD X.K P α ds vs)(h:atI ds k=Ab d):∃ v,atI vs k=Ab v/\Rep X.K P α d v:=by
 unfold atI at h ⊢;rw[<- rp.length];cases q:ixN ds.length k with
 |none=>rw[q] at h;cases h
 |some j =>
  rw[q] at h;obtain⟨v,h1,h2⟩:=rp.get (show ds[j]? = Ab d from h)
  exact⟨v,h1,h2⟩
theorem FU:IxD X gIx:=by
 intro value slice pins σ H s P α S v u vv uu a b Q I r rv ru pa pb af hs;cases b with
 |int k =>
  have hk:=zW pb;cases a with
  |tup xs =>
   obtain⟨d,e,ok⟩:=wX (X:=X) af;simp only[Rep] at pa;obtain⟨p,vs,rfl,q,t⟩:=pa;obtain⟨w,e1,rw'⟩:=pP t e;exact U4 value slice pins s σ H _ u vv uu Q I rv ru ⟨p,vs,k,w,rfl,hk,xF r.sub q,e1,xr ok r rw'⟩ hs
  |lst xs =>
   obtain⟨d,e,ok⟩:=wX (X:=X) af;simp only[Rep] at pa;obtain⟨p,vs,rfl,q,t⟩:=pa;obtain⟨w,e1,rw'⟩:=pP t e;exact lA value slice pins s σ H _ u vv uu Q I rv ru ⟨p,vs,k,w,rfl,hk,(xA r.sub q).l,e1,xr ok r rw'⟩ hs
  |loc i =>
   obtain⟨xs,hS,af⟩:=jC (X:=X) (f:=λxs=>wW (atI xs k) S) af;obtain⟨d,e,ok⟩:=wX (X:=X) af;simp only[Rep] at pa;obtain⟨p,rfl,q⟩:=pa;obtain⟨vs,z,t⟩:=r.at' i p _ q hS;obtain⟨w,e1,rw'⟩:=pP t e;exact lA value slice pins s σ H _ u vv uu Q I rv ru ⟨p,vs,k,w,rfl,hk,.of z,e1,xr ok r rw'⟩ hs
  |_=>exact Al af
 |_=>exact Al af
noncomputable def bB:G3:=λo i d S=>match o,i with
 |.loc n,.int k=>match S[n]? with
  |some (.lst xs)=>match ixN xs.length k with
   |some j=>.ok () (S.set n (.lst (xs.set j d)))
   |none=>.bad
  |_=>.bad
 |_,_=>.bad
theorem BJ:fZ X (fX X bB):=by
 intro pins s σ H o i v ov iv u Q I ro ri rv h;obtain⟨P,α,S,a,b,d,r,pa,pb,pd,af⟩:=h;cases a with
 |loc n =>
  cases b with
  |int k =>
   obtain⟨xs,hS,af⟩:=jC (X:=X) (f:=λxs=>match ixN xs.length k with|some j=>.ok () (S.set n (.lst (xs.set j d)))|none=>.bad) af
   cases hj:ixN xs.length k with
   |none=>rw[hj] at af;exact Al af
   |some j =>
    rw[hj] at af;simp only[Rep] at pa;obtain⟨p,rfl,q⟩:=pa;obtain⟨vs,z,t⟩:=r.at' n p _ q hS;refine oO pins s σ H _ i v ov iv u Q I ro ri rv ⟨p,vs,k,j,rfl,zW pb,z,by rw[<- t.length];exact hj,?_⟩
    refine af _ P α (r.put (m':=.lst (xs.set j d)) q hS (by intro z;cases z) ⟨vs.set j v,qR,t.set pd j⟩) (qF.refl _) (A3 _)
  |_=>exact Al af
 |_=>exact Al af
noncomputable def UG:D->Sto->Ak Aj
 |.tup xs,_=>Ab xs.length
 |.lst xs,_=>Ab xs.length
 |.str x,_=>if x.length<=lim then Ab x.length else none
 |.dct0,_=>Ab 0
 |.loc i,S=>match S[i]? with
  |some (.lst xs)=>Ab xs.length
  |_=>none
 |_,_=>none
noncomputable def mX:DF:=λds S=>match ds with
 |[d]=>match UG d S with
  |some n=>.ok (.int n) S
  |none=>.bad
 |_=>.bad
end
section
variable {X:Cx}
theorem y9 {P:Hp}{α:Aa Ad}(rp:qD X.K P α [d] vs)(rv:qK vs us):∃ v u,vs=[v]/\us=[u]/\Rep X.K P α d v/\qJ v u:=by
 obtain⟨v,ws,rfl,p,t⟩:=rp.cons_inv;have:=t.nil_inv;subst this;obtain⟨u,rfl,q⟩:=vV rv;exact⟨v,u,rfl,rfl,p,q⟩
theorem kR {P:Hp}{α:Aa Ad}{e:D}(rp:qD X.K P α [d,e] vs)(rv:qK vs us):∃ v w u x,vs=[v,w]/\us=[u,x]/\Rep X.K P α d v/\Rep X.K P α e w/\qJ v u/\qJ w x:=by
 obtain⟨v,ws,rfl,p,t⟩:=rp.cons_inv;obtain⟨w,ws,rfl,p',t⟩:=t.cons_inv;have:=t.nil_inv;subst this;obtain⟨u,x,rfl,q,q'⟩:=pH rv;exact⟨v,w,u,x,rfl,rfl,p,p',q,q'⟩
noncomputable def dR (d:D)(S:Sto):Ak Aj:=match d with
 |.dct0=>none
 |_=>UG d S
theorem UH {H P:Hp}{α:Aa Ad}{S:Sto}{n:Aj}(r:Rel X.K H P α S)(p:Rep X.K P α d v)(hn:dR d S=Ab n):YF X.K v H n:=by
 cases d with
 |str x =>
  cases (show v=.str x from p)
  obtain⟨hl,rfl⟩:=uZ hn;exact⟨by rw[<- zK];exact hl,rfl⟩
 |tup xs =>
  simp only[Rep] at p;obtain⟨a,ws,rfl,sq,t⟩:=p;cases hn;exact .inr ⟨ws,xF r.sub sq,t.length⟩
 |lst xs =>
  simp only[Rep] at p;obtain⟨a,ws,rfl,sq,t⟩:=p;cases hn;exact .inl ⟨ws,(xA r.sub sq).l,t.length⟩
 |loc i =>
  simp only[Rep] at p;obtain⟨a,rfl,e⟩:=p;obtain⟨xs,hS,hn⟩:=UJ (f:=λxs=>Ab xs.length) hn;cases hn;obtain⟨ws,z,t⟩:=r.at' i a _ e hS;exact .inl ⟨ws,.of z,t.length⟩
 |_=>exact nn hn
inductive LenD1 (ds:Aa D)(S:Sto)(r:Res D):Prop
 |bad (e:r=.bad)
 |of (d:D) (n:Aj) (ed:ds=[d]) (hn:dR d S=Ab n) (e:r=.ok (.int n) S)
theorem P9 (ds:Aa D)(S:Sto):LenD1 ds S (match ds with|[.dct0]=>.bad|_=>mX ds S):=by
 cases ds with
 |nil=>exact .bad rfl
 |cons d ds =>
  cases ds with
  |cons _ _=>cases d <;> exact .bad rfl
  |nil =>
   have z:(match [d] with|[D.dct0]=>Res.bad|_=>mX [d] S)=(match dR d S with|some n=>Res.ok (D.int n) S|none=>.bad):=by cases d <;> rfl
   rw[z];cases hn:dR d S with
   |none=>exact .bad rfl
   |some n=>exact .of d n rfl hn rfl
theorem YO (hD:Fy):xS X (.builtin "len") (λds S=>match ds with|[.dct0]=>.bad|_=>mX ds S):=by
 intro pins σ H s P α S vs us ds Q I r rv rp af;have af1:qI X P α (match ds with|[D.dct0]=>Res.bad|_=>mX ds S) (OkV X P α Q):=af
 clear af;cases P9 ds S with
 |bad e=>rw[e] at af1;exact Al af1
 |of d n ed hn e =>
  rw[e] at af1;subst ed;obtain⟨v,u,rfl,rfl,p,q⟩:=y9 rp rv;exact cV pins s σ H _ _ Q I rv ⟨v,n,rfl,UH r p hn,xr af1 r (by simp only[Rep])⟩
noncomputable def tyD:D->Sto->Ak Bg
 |.non,_=>Ab "NoneType"
 |.bl _,_=>Ab "bool"
 |.int _,_=>Ab "int"
 |.str _,_=>Ab "str"
 |.tup _,_=>Ab "tuple"
 |.lst _,_=>Ab "list"
 |.dct0,_=>Ab "dict"
 |.loc i,S=>match S[i]? with
  |some (.lst _)=>Ab "list"
  |some (.dct _)=>Ab "dict"
  |_=>none
 |_,_=>none
noncomputable def xG (a b:Bg):Ap:=a == b||(a == "bool" && b == "int")
noncomputable def v9 (b:Bg):Ap:=b == "int" || b == "bool" || b == "tuple" || b == "list" || b == "str" || b == "dict"
noncomputable def UA (a b:Bg):Ak Ap:=if (DR a == DR b)=true then Ab true else if PySem.W.kitMeta b=true then (fastBuiltinMro a).map (·.contains (.type b)) else none
noncomputable def tyL:Aa Bg:=["NoneType","bool","int","str","tuple","list","dict"]
noncomputable def okL:Aa Bg:=["int","bool","tuple","list","str","dict"]
theorem XG:(tyL.all λa=>okL.all λb=>decide (UA a b=Ab (xG a b)))=true:=by decide +kernel
theorem UX {b:Bg}(hb:v9 b=true):b∈okL:=by simpa [v9,okL,or_assoc] using hb
theorem bF {K:Ah}{a b:Bg}(ha:a∈tyL)(hb:v9 b=true):EF K (.type a) (.type b)=Ab (xG a b):=
 AU (p:=UA a b=Ab (xG a b)) (AS.mp (AS.mp XG a ha) b (UX hb))
noncomputable def zX:DF:=λds S=>match ds with
 |[d,.ty b]=>if v9 b then match tyD d S with
   |some a=>.ok (.bl (xG a b)) S
   |none=>.bad
  else .bad
 |_=>.bad
inductive TyV (X:Cx)(H:Hp)(v:V)(a:Bg):Prop
 |of (t:TyOf X.K H v (.type a))
 |tup (p:Ad) (vs:Aa V) (e:v=.ref p) (q:SqT X.K H p vs) (ea:a = "tuple")
 |lst (p:Ad) (vs:Aa V) (e:v=.ref p) (q:SqL X.K H p vs) (ea:a = "list")
theorem tW {S:Sto}{a:Bg}(h:tyD d S=Ab a):a∈tyL:=by
 cases d with
 |non=>cases h;exact .head _
 |bl b=>cases h;exact .tail _ (.head _)
 |int i=>cases h;exact .tail _ (.tail _ (.head _))
 |str x=>cases h;exact .tail _ (.tail _ (.tail _ (.head _)))
 |tup xs=>cases h;exact .tail _ (.tail _ (.tail _ (.tail _ (.head _))))
 |lst xs=>cases h;exact .tail _ (.tail _ (.tail _ (.tail _ (.tail _ (.head _)))))
 |dct0=>cases h;exact .tail _ (.tail _ (.tail _ (.tail _ (.tail _ (.tail _ (.head _))))))
 |loc i =>
  rcases bJ (f:=λ_=>Ab "list") (g:=λ_=>Ab "dict") h with⟨_,_,h⟩|⟨_,_,h⟩
  .cases h;exact .tail _ (.tail _ (.tail _ (.tail _ (.tail _ (.head _)))))
  .cases h;exact .tail _ (.tail _ (.tail _ (.tail _ (.tail _ (.tail _ (.head _))))))
 |_=>exact nn h
theorem QZ {H P:Hp}{α:Aa Ad}{S:Sto}{a:Bg}(r:Rel X.K H P α S)(p:Rep X.K P α d v)(h:tyD d S=Ab a):TyV X H v a:=by
 cases d with
 |non=>cases h;cases (show v=.non from p);exact .of .non
 |bl b=>cases h;cases (show v=.bl b from p);exact .of (.bl b)
 |int i=>cases h;cases (show v=.int i from p);exact .of (.int i)
 |str x=>cases h;cases (show v=.str x from p);exact .of (.str x)
 |tup xs =>
  cases h;simp only[Rep] at p;obtain⟨a,vs,e,q,t⟩:=p;exact .tup a vs e (xF r.sub q) rfl
 |lst xs =>
  cases h;simp only[Rep] at p;obtain⟨a,vs,e,q,t⟩:=p;exact .lst a vs e (xA r.sub q).l rfl
 |dct0 =>
  cases h;simp only[Rep] at p;obtain⟨a,rfl,q⟩:=p;exact .of (.dK (r.sub _ _ q))
 |loc i =>
  simp only[Rep] at p;obtain⟨a,rfl,q⟩:=p;rcases bJ (f:=λ_=>Ab "list") (g:=λ_=>Ab "dict") h with⟨xs,hS,h⟩|⟨kvs,hS,h⟩
  .cases h
   obtain⟨vs,z,t⟩:=r.at' i a _ q hS;exact .of (.lst z)
  .cases h
   obtain⟨vs,z,t⟩:=r.at' i a _ q hS;exact .of (.dK z)
 |_=>exact nn h
inductive IsiV (ds:Aa D)(S:Sto):Prop
 |bad (e:zX ds S=.bad)
 |of (d:D) (b a:Bg) (ed:ds=[d,.ty b]) (hb:v9 b=true) (ha:tyD d S=Ab a) (e:zX ds S=.ok (.bl (xG a b)) S)
theorem FR (ds:Aa D)(S:Sto):IsiV ds S:=by
 cases ds with
 |nil=>exact .bad rfl
 |cons d ds =>
  cases ds with
  |nil=>exact .bad rfl
  |cons e ds =>
   cases ds with
   |cons _ _=>cases e <;> exact .bad rfl
   |nil =>
    cases e with
    |ty b =>
     have z:zX [d,.ty b] S=if v9 b then (match tyD d S with|some a=>.ok (.bl (xG a b)) S|none=>.bad) else .bad:=rfl
     by_cases hb:v9 b=true
     .rw[AA hb] at z
      cases ha:tyD d S with
      |none=>rw[ha] at z;exact .bad z
      |some a=>rw[ha] at z;exact .of d b a rfl hb ha z
     .rw[AD hb] at z
      exact .bad z
    |_=>exact .bad rfl
theorem rA:xS X (.builtin "isinstance") zX:=by
 intro pins σ H s P α S vs us ds Q I r rv rp af;cases FR ds S with
 |bad e=>rw[e] at af;exact Al af
 |of d b a ed hb ha e =>
  subst ed;rw[e] at af;obtain⟨v,w,u,x,rfl,rfl,p,p',q,q'⟩:=kR rp rv;simp only[Rep] at p';subst p';cases (show x=DR b from q')
  have kit:=bF (K:=X.K) (tW ha) hb;have fin:∀ tk,EP X pins σ Q (.bool (xG a b)) { s with toks:=tk }:=λtk=>⟨.bl _,H,I.tok tk,rfl,xr af r (by simp only[Rep])⟩
  cases QZ r p ha with
  |of ht=>exact rW I q ht kit fin
  |tup p' ws e sq ea =>
   subst e ea;cases (show u=AN p' from q)
   obtain⟨its,rv',⟨o,h1,h2,_⟩,_⟩:=I.tuple sq;exact Bp Fh I.kIn ⟨o,h1,h2⟩ kit (λz=>nomatch z) fin
  |lst p' ws e sq ea =>
   subst e ea;cases (show u=AN p' from q)
   obtain⟨its,rv',⟨o,_,h1,h2,_⟩,_⟩:=I.list sq;exact Bp Ea I.kIn ⟨o,h1,h2⟩ kit (λz=>nomatch z) fin
noncomputable def zN:Aa D->Ak (Aa Ap)
 |[]=>Ab []
 |.bl b::r=>(zN r).map (b::·)
 |_=>none
theorem wD {P:Hp}{α:Aa Ad}:∀ {ds:Aa D} {bs:Aa Ap} {vs:Aa V} {us:Aa Ac},zN ds=Ab bs->qD X.K P α ds vs->qK vs us->us=bs.map CP
 |[],bs,vs,us,h,rp,rv=>by
  cases h;have:=rp.nil_inv;subst this;cases rv;rfl
 |d::ds,bs,vs,us,h,rp,rv=>by
  cases d with
  |bl b =>
   obtain⟨bs',q,rfl⟩:=Br.mp (show (zN ds).map (b::·)=Ab bs from h)
   obtain⟨w,ws,rfl,p,t⟩:=rp.cons_inv;simp only[Rep] at p;subst p;cases rv with
   |cons q1 q2 =>
    cases (show _=CP b from q1)
    rw[wD q t q2];rfl
  |_=>exact nn h
noncomputable def mW (any:Ap):DF:=λds S=>match ds with
 |[d]=>match (xO d).bind zN with
  |some bs=>.ok (.bl (if any then bs.any id else bs.all id)) S
  |none=>.bad
 |_=>.bad
theorem fF (bs:Aa Ap):((CJ bs.length).all λi=>bs.getD i false)=bs.all id:=by
 induction bs with
 |nil=>rfl
 |cons b bs ih =>
  rw[AG,Gc,HJ,Lh,HJ,<- ih];rfl
theorem fG (bs:Aa Ap):((CJ bs.length).any λi=>bs.getD i false)=bs.any id:=by
 induction bs with
 |nil=>rfl
 |cons b bs ih =>
  rw[AG,Gc,Ey,List.any_map,Ey,<- ih];rfl
theorem rX {H:Hp}{o:AL}{h':A8}{tk:Aj}(I:Inv X pins σ H s)(k:∀ b ob,b ∉ [s.heap.objs.size]->(s.heap.push o).get? b=Ab ob->h'.get? b=Ab ob):Inv X pins σ H { s with heap:=h',toks:=tk }:=
 I.kept λb u e=>k b u (by simp;exact AV (Ay e)) (Ai _ e)
theorem vT {bs:Aa Ap}(hi:its=bs.map CP){A:AF}:TruthOf X.prog X.w A (λi v=>its.toArray[i]? = Ab v) (λi=>bs.getD i false):=λi v s' Q' E' hv hQ=>by
 subst hi;have hv':(bs.map CP)[i]? = Ab v:=by simpa using hv
 rw[Ce] at hv';cases e:bs[i]? with
 |none=>rw[e] at hv';exact nn hv'
 |some b =>
  rw[e] at hv';cases AQ hv';have:bs.getD i false=b:=by simp[HK,e]
  have hQ':Q' (bs.getD i false) s':=hQ;rw[this] at hQ';exact Ls hQ'
theorem X4 {any:Ap}{S:Sto}{P:Hp}{α:Aa Ad}{Ok:D->Sto->Prop}(h:qI X P α (mW any ds S) Ok):∃ d xs bs,ds=[d]/\ItV d xs/\zN xs=Ab bs/\Ok (.bl (if any then bs.any id else bs.all id)) S:=by
 obtain⟨d,rfl,h1⟩:=UY (X:=X) (β:=D) (g:=λd=>match (xO d).bind zN with|some bs=>.ok (D.bl (if any then bs.any id else bs.all id)) S|none=>.bad) h
 cases hb:(xO d).bind zN with
 |none=>rw[hb] at h1;exact Al h1
 |some bs =>
  rw[hb] at h1;obtain⟨xs,hx,hbs⟩:=Cz.mp hb;exact⟨d,xs,bs,rfl,itV hx,hbs,h1⟩
theorem YM (any:Ap)(hc:X.calm=true):xS X (.builtin (if any then "any" else "all")) (mW any):=by
 intro pins σ H s P α S vs us ds Q I r rv rp af;obtain⟨d,xs,bs,ed,hd,hbs,ok⟩:=X4 af;clear af;subst ed;obtain⟨v,u,rfl,rfl,p,q⟩:=y9 rp rv;clear rp;have fin:∀ {o:AL} (h':A8) (tk:Aj),(∀ b ob,b ∉ [s.heap.objs.size]->(s.heap.push o).get? b=Ab ob->h'.get? b=Ab ob)->EP X pins σ Q (.bool (if any then bs.any id else bs.all id)) { s with heap:=h',toks:=tk }:=
  λ{o} h' tk k=>⟨.bl _,H,rX I k,rfl,xr ok r (by simp only[Rep])⟩
 clear rv ok;have hh:X.A.in1.handled=none:=I.ok.hd hc;cases hd with
 |tup ed =>
  subst ed;obtain⟨a,ws,its,rfl,sq,t,rvi,ht,hl,_⟩:=kE I r p;cases (show u=AN a from q)
  have hi:=wD hbs t rvi;have hlen:its.toArray.size=bs.length:=by rw[hi];simp
  have hne:a≠s.heap.objs.size:=by obtain⟨o,e,_⟩:=ht;exact AV (Ay e)
  have W:=Walks.tuple (prog:=X.prog) (w:=X.w) hh s.heap.objs.size a hne its.toArray;have hT:∀ o,(s.heap.push o).IsTuple a its.toArray:=λo=>by obtain⟨o,e,c⟩:=ht;exact⟨o,Ai _ e,c⟩
  have ht':s.heap.IsTuple a its.toArray:=ht;cases any with
  |false =>
   refine call_all_walk (D1 ht' ⟨s.heap.objs.size,_,_,_,_,_,_,rfl,W,⟨⟨_,AB _ rfl,rfl,rfl⟩,hT _⟩,vT hi,λh' tk k=>?_⟩);rw[hlen,fF];exact fin h' tk k
  |true =>
   refine call_any_walk (D1 ht' ⟨s.heap.objs.size,_,_,_,_,_,_,rfl,W,⟨⟨_,AB _ rfl,rfl,rfl⟩,hT _⟩,vT hi,λh' tk k=>?_⟩);rw[hlen,fG];exact fin h' tk k
 |lst ed =>
  subst ed;obtain⟨a,ws,its,n,rfl,sq,t,rvi,ht,hl,_⟩:=v3 I r p;cases (show u=AN a from q)
  have hL:s.heap.IsList a its.toArray:=⟨_,ht,rfl,n,rfl⟩;have hi:=wD hbs t rvi;have hlen:its.toArray.size=bs.length:=by rw[hi];simp
  have hne:a≠s.heap.objs.size:=AV (Ay ht);have W:=Walks.list (prog:=X.prog) (w:=X.w) hh s.heap.objs.size a hne its.toArray;have hL':∀ o,(s.heap.push o).IsList a its.toArray:=λo=>⟨_,Ai _ ht,rfl,n,rfl⟩;cases any with
  |false =>
   refine call_all_walk (Do hL ⟨s.heap.objs.size,_,_,_,_,_,_,rfl,W,⟨⟨_,AB _ rfl,rfl,rfl⟩,hL' _⟩,vT hi,λh' tk k=>?_⟩);rw[hlen,fF];exact fin h' tk k
  |true =>
   refine call_any_walk (Do hL ⟨s.heap.objs.size,_,_,_,_,_,_,rfl,W,⟨⟨_,AB _ rfl,rfl,rfl⟩,hL' _⟩,vT hi,λh' tk k=>?_⟩);rw[hlen,fG];exact fin h' tk k
noncomputable def dM:DF:=λds S=>match ds with
 |[.int i]=>.ok (.int i) S
 |[.bl b]=>.ok (.int (b01 b)) S
 |_=>.bad
inductive IntV (ds:Aa D)(S:Sto):Prop
 |bad (e:dM ds S=.bad)
 |int (i:Am) (e:ds=[.int i])
 |bl (b:Ap) (e:ds=[.bl b])
theorem FO (ds:Aa D)(S:Sto):IntV ds S:=by
 cases ds with
 |nil=>exact .bad rfl
 |cons d ds =>
  cases ds with
  |cons _ _=>cases d <;> exact .bad rfl
  |nil =>
   cases d with
   |int i=>exact .int i rfl
   |bl b=>exact .bl b rfl
   |_=>exact .bad rfl
theorem YN:xS X (.type "int") dM:=by
 intro pins σ H s P α S vs us ds Q I r rv rp af;cases FO ds S with
 |bad e=>rw[e] at af;exact Al af
 |int i e =>
  subst e;obtain⟨v,u,rfl,rfl,p,q⟩:=y9 rp rv;exact bW pins s σ H _ _ Q I rv (.inl ⟨_,by rw[zW p],xr af r (by simp only[Rep])⟩)
 |bl b e =>
  subst e;obtain⟨v,u,rfl,rfl,p,q⟩:=y9 rp rv;simp only[Rep] at p;subst p;exact bW pins s σ H _ _ Q I rv (.inr ⟨_,rfl,xr af r (by simp only[Rep];rfl)⟩)
end
section
variable {X:Cx}
structure ClsK (K:Ah)(cl:Aa Ad):Prop where
 ex:∀ C∈cl,ExnK K C
 one:∀ C∈cl,∀ B∈cl,EF K (.ref C) (.ref B)=Ab (C == B)
 ve:∀ C∈cl,EF K (.ref C) (.type "ValueError")=Ab true
noncomputable def zE (cl:Aa Ad):DF:=λds S=>match ds with
 |[.exn (.ref C),.obj B]=>if cl.contains C&&cl.contains B then .ok (.bl (C == B)) S else .bad
 |[.exn (.ref C),.ty b]=>if cl.contains C&&(b == "ValueError") then .ok (.bl true) S else .bad
 |_=>zX ds S
theorem rM {H P:Hp}{α:Aa Ad}{S:Sto}{C:Ad}{u:Ac}(I:Inv X pins σ H s)(r:Rel X.K H P α S)(p:Rep X.K P α (.exn (.ref C)) v)(q:qJ v u):∃ a,u=.ref a/\wZ a C s.heap:=by
 simp only[Rep] at p;obtain⟨a,rfl,z⟩:=p;obtain⟨y,_⟩:=I.hok a _ (r.sub _ _ z);exact⟨a,q,y⟩
inductive IsiE (cl:Aa Ad)(ds:Aa D)(S:Sto):Prop
 |bad (e:zE cl ds S=.bad)
 |old (e:zE cl ds S=zX ds S)
 |obj (C B:Ad) (ed:ds=[.exn (.ref C),.obj B]) (h1:C∈cl) (h2:B∈cl) (e:zE cl ds S=.ok (.bl (C == B)) S)
 |ve (C:Ad) (ed:ds=[.exn (.ref C),.ty "ValueError"]) (h1:C∈cl) (e:zE cl ds S=.ok (.bl true) S)
theorem P6 (cl:Aa Ad)(C:Ad)(d:D)(S:Sto):IsiE cl [.exn (.ref C),d] S:=by
 cases d with
 |obj B =>
  have z:zE cl [.exn (.ref C),.obj B] S=if (cl.contains C&&cl.contains B)=true then .ok (.bl (C == B)) S else .bad:=rfl
  by_cases h:(cl.contains C&&cl.contains B)=true
  .rw[AA h] at z
   have h':=CU.mp h;exact .obj C B rfl (Ct.mp h'.1) (Ct.mp h'.2) z
  .rw[AD h] at z
   exact .bad z
 |ty b =>
  have z:zE cl [.exn (.ref C),.ty b] S=if (cl.contains C&&(b == "ValueError"))=true then .ok (.bl true) S else .bad:=rfl
  by_cases h:(cl.contains C&&(b == "ValueError"))=true
  .rw[AA h] at z
   have h':=CU.mp h;cases (Ia.mp h'.2);exact .ve C rfl (Ct.mp h'.1) z
  .rw[AD h] at z
   exact .bad z
 |_=>exact .old rfl
theorem FQ (cl:Aa Ad)(ds:Aa D)(S:Sto):IsiE cl ds S:=by
 cases ds with
 |nil=>exact .old rfl
 |cons a ds =>
  cases a with
  |exn c =>
   cases c with
   |ref C =>
    cases ds with
    |nil=>exact .old rfl
    |cons b ds =>
     cases ds with
     |nil=>exact P6 cl C b S
     |cons _ _=>cases b <;> exact .old rfl
   |_=>exact .old rfl
  |_=>exact .old rfl
theorem Z5 {cl:Aa Ad}(hK:ClsK X.K cl):xS X (.builtin "isinstance") (zE cl):=by
 intro pins σ H s P α S vs us ds Q I r rv rp af;cases FQ cl ds S with
 |bad e=>rw[e] at af;exact Al af
 |old e=>rw[e] at af;exact rA pins σ H s P α S vs us ds Q I r rv rp af
 |obj C B ed h1 h2 e =>
  rw[e] at af;subst ed;obtain⟨v,w,u,x,rfl,rfl,p,p',q,q'⟩:=kR rp rv;simp only[Rep] at p';obtain⟨rfl,_⟩:=p';cases (show x=AN B from q')
  obtain⟨a,rfl,ha⟩:=rM I r p q;exact Bp (tB (hK.ex C h1)) I.kIn ha (hK.one C h1 B h2) (λz=>nomatch z) λtk=>⟨.bl _,H,I.tok tk,rfl,xr af r (by simp only[Rep])⟩
 |ve C ed h1 e =>
  rw[e] at af;subst ed;obtain⟨v,w,u,x,rfl,rfl,p,p',q,q'⟩:=kR rp rv;simp only[Rep] at p';subst p';cases (show x=DR "ValueError" from q')
  obtain⟨a,rfl,ha⟩:=rM I r p q;exact Bp (tB (hK.ex C h1)) I.kIn ha (hK.ve C h1) (λz=>nomatch z) λtk=>⟨.bl _,H,I.tok tk,rfl,xr af r (by simp only[Rep])⟩
def MtD (X:Cx)(id:Bg)(g:D->Aa D->Sto->Res D):Prop:=
 ∀ (pins:Aa (Ad × AL)) (σ : _L.St) (H:Hp) (s:Af) (P:Hp) (α : Aa Ad) (S:Sto) (v:V) (vv:Ac) (vs:Aa V) (us:Aa Ac) (a:D) (ds:Aa D) (Q:VK),Inv X pins σ H s->Rel X.K H P α S->qJ v vv->Rep X.K P α a v->qK vs us->qD X.K P α ds vs->qP X P α (g a ds S) Q ->
  Ao (Aq X.prog X.w) X.A (call (.builtin id) (vv::us)) (EP X pins σ Q) X.xe s
noncomputable def dBm (T:Bg)(g:D->Aa D->Sto->Res D)(fo:DE)(fa:DA):DE:=λenv S=>(fo env S).bind λa S1=>if (tyD a S1 == Ab T)=true then (fa env S1).bind λds S2=>g a ds S2 else .bad
theorem KN {H P:Hp}{α:Aa Ad}{S:Sto}{a:D}{T:Bg}(r:Rel X.K H P α S)(p:Rep X.K P α a v)(h:tyD a S=Ab T)(hT:T = "list" \/ T = "dict" \/ T = "int" \/ T = "str"):tyV X.K T v H:=by
 cases a with
 |int i=>cases h;simp only[Rep] at p;subst p;rfl
 |str x=>cases h;simp only[Rep] at p;subst p;rfl
 |lst xs =>
  cases h;simp only[Rep] at p;obtain⟨b,vs,rfl,q,t⟩:=p;exact .inl ⟨rfl,vs,(xA r.sub q).l⟩
 |dct0 =>
  cases h;simp only[Rep] at p;obtain⟨b,rfl,q⟩:=p;exact .inr (.inr (.inl ⟨rfl,.inl ⟨[],r.sub _ _ q⟩⟩))
 |loc i =>
  simp only[Rep] at p;obtain⟨b,rfl,q⟩:=p;rcases bJ (f:=λ_=>Ab "list") (g:=λ_=>Ab "dict") h with⟨xs,hS,h⟩|⟨kvs,hS,h⟩
  .cases h
   obtain⟨vs,z,t⟩:=r.at' i b _ q hS;exact .inl ⟨rfl,vs,SqL.of z⟩
  .cases h
   obtain⟨vs,z,t⟩:=r.at' i b _ q hS;exact .inr (.inr (.inl ⟨rfl,.inl ⟨vs,z⟩⟩))
 |non=>cases h;exact absurd hT (by decide)
 |bl b=>cases h;exact absurd hT (by decide)
 |tup xs=>cases h;exact absurd hT (by decide)
 |_=>exact nn h
variable {o e:AE}{es:Aa AE}{fo:DE}{fa:DA}{name:An}{apos cpos:CD}{T id:Bg}{g:D->Aa D->Sto->Res D}
theorem YX {P:Hp}{α:Aa Ad}{a:D}{S:Sto}{β:Type}{k:Res β}{Ok:β->Sto->Prop}(h:qI X P α (if (tyD a S == Ab T)=true then k else .bad) Ok):tyD a S=Ab T/\qI X P α k Ok:=by
 by_cases z:(tyD a S == Ab T)=true
 .rw[AA z] at h;exact⟨Ia.mp z,h⟩
 .rw[AD z] at h;exact Al h
theorem GF (pa:PlainAttrs T)(slot:Slot T name id)(hty:typeOf (.builtin id)=pure (.type "method_descriptor"))(hT:T = "list" \/ T = "dict" \/ T = "int" \/ T = "str")(hm:MtD X id g)(ho:PE X o (tD X fo))(ha:PA X (e::es) (tDA X fa))
  (hbase:attributeBase o name X.env (eval o X.env)=eval o X.env:=by rfl)
  (hfew:((CB cpos (Av (e::es) X.env)).all (λx=>!x.1)&&(backToKw cpos (keywordEach [] X.env)).all (λx=>x.1.isSome)
   && decide ((e::es).length+([]:Aa Nv).length+(if ([] : Aa Nv).isEmpty then 0 else 1)<30))=true:=by rfl)
  (hline:(apos.endLine == cpos.line)=true:=by rfl) (hs:Av (e::es) X.env=(false,eval e X.env)::Av es X.env:=by rfl) (hplain:(CB cpos (Av es X.env)).any (·.1)=false:=by rfl) :
  PE X (.Call (.Attribute o name apos) (e::es) [] cpos) (tD X (dBm T g fo fa)):=by
 intro pins s σ H Q I h;obtain⟨P,α,env,S,r,re,af⟩:=h;refine wpAny_Call_method_late hbase hfew hline rfl (thn (zP ho I r re af) λvv s1 ⟨v,H1,P1,α1,d,S1,G1,af1⟩=>?_);obtain⟨ht,af2⟩:=YX af1;obtain⟨h1,h2⟩:=KM G1.inv G1.val (KN G1.rel G1.rep ht hT);refine⟨T,id,pa,slot,hty,h1,h2,?_⟩;have hA:=xB ha G1.inv G1.rel G1.env (P:=P1) (α:=α1) (Ok:=OkV X P1 α1 Q) (qP.base G1.same G1.pre (r:=(fa env S1).bind λds S2=>g d ds S2) af2) cpos;rw[hs] at hA ⊢;refine Calls.callWith_builtin (by show (false||(CB cpos (Av es X.env)).any (·.1))=false;rw[hplain] <;> rfl) (Jn ?_)
 exact thn hA λus s2 ⟨vs,H2,P2,α2,ds,S2,I2,rv,r2,re2,rp2,e1,e2,af3⟩=>hm pins σ H2 s2 P2 α2 S2 v vv vs us d ds Q I2 r2 G1.val (Rep.mono e1 e2 _ _ G1.rep) rv rp2 (qP.base e1 e2 af3)
noncomputable def wU:D->Aa D->Sto->Res D:=λa ds S=>match a,ds with
 |.loc i,[d]=>match S[i]? with
  |some (.lst xs)=>if xs.length<lim then .ok .non (S.set i (.lst (xs++[d]))) else .bad
  |_=>.bad
 |_,_=>.bad
inductive ApV (a:D)(ds:Aa D)(S:Sto):Prop
 |bad (e:wU a ds S=.bad)
 |of (i:Aj) (d:D) (xs:Aa D) (ea:a=.loc i) (ed:ds=[d]) (hS:S[i]? = Ab (.lst xs)) (hl:xs.length<lim) (e:wU a ds S=.ok .non (S.set i (.lst (xs++[d]))))
theorem apV (a:D)(ds:Aa D)(S:Sto):ApV a ds S:=by
 cases a with
 |loc i =>
  cases ds with
  |nil=>exact .bad rfl
  |cons d ds =>
   cases ds with
   |cons _ _=>exact .bad rfl
   |nil =>
    have z:wU (.loc i) [d] S=(match S[i]? with|some (.lst xs)=>(if xs.length<lim then .ok .non (S.set i (.lst (xs++[d]))) else .bad)|_=>.bad):=rfl
    cases hS:S[i]? with
    |none=>rw[hS] at z;exact .bad z
    |some m =>
     rw[hS] at z;cases m with
     |lst xs =>
      by_cases hl:xs.length<lim
      .exact .of i d xs rfl rfl hS hl (z.trans (AA hl))
      .exact .bad (z.trans (AD hl))
     |_=>exact .bad z
 |_=>exact .bad rfl
theorem eE:MtD X "list.append" wU:=by
 intro pins σ H s P α S v vv vs us a ds Q I r rv p rvs rps af;cases apV a ds S with
 |bad e=>rw[e] at af;exact Al af
 |of i d xs ea ed hS hl e =>
  rw[e] at af;subst ea ed;obtain⟨w,u,rfl,rfl,p',q'⟩:=y9 rps rvs;simp only[Rep] at p;obtain⟨b,rfl,q⟩:=p;obtain⟨ws,z,t⟩:=r.at' i b _ q hS;refine eG pins s σ H (.ref b) [w] vv [u] Q I rv (.cons q' .nil) ⟨b,ws,w,rfl,rfl,z,by rw[<- t.length,<- zK];exact hl,?_⟩
  exact xr af (r.put (m':=.lst (xs++[d])) q hS (by intro z;cases z) ⟨ws++[w],qR,t.append (.cons p' .nil)⟩) (by simp only[Rep])
end
noncomputable def bE:D->Ak Key
 |.int i=>Ab (.inl i)
 |.str x=>Ab (.inr x)
 |_=>none
noncomputable def MS (kvs:Aa (Key × D))(k:Key):Ak D:=(kvs.find? λkv=>decide (kv.1=k)).map (·.2)
noncomputable def bL (kvs:Aa (Key × D))(k:Key)(v:D):Aa (Key × D):=
 if (kvs.any λkv=>decide (kv.1=k))=true then kvs.map (λkv=>if kv.1=k then (kv.1,v) else kv) else kvs++[(k,v)]
section
variable {K:Ah}{P:Hp}{α : Aa Ad}
theorem XJ {vs:Aa (Key × V)}(r:KVs K P α kvs vs):kvs.length=vs.length:=Paired.length r
theorem XH {k:Key}{vs:Aa (Key × V)}(h:KVs K P α kvs vs):(kvs.any λkv=>decide (kv.1=k))=(vs.any λkv=>decide (kv.1=k)):=by
 induction h with
 |nil=>rfl
 |cons z t ih=>rw[Ey,Ey,ih,z.1]
theorem XM {k:Key}(q:Rep K P α d v){kvs:Aa (Key × D)}{vs:Aa (Key × V)}(h:KVs K P α kvs vs):KVs K P α (kvs.map λkv=>if kv.1=k then (kv.1,d) else kv) (vs.map λkv=>if kv.1=k then (kv.1,v) else kv):=by
 induction h with
 |nil=>exact .nil
 |cons z t ih =>
  rw[Cf,Cf];refine .cons ?_ ih;rw[<- z.1]
  split
  .exact⟨rfl,q⟩
  .exact z
theorem XI {k:Key}(q:Rep K P α d v){kvs:Aa (Key × D)}{vs:Aa (Key × V)}(h:KVs K P α kvs vs):KVs K P α (kvs++[(k,d)]) (vs++[(k,v)]):=by
 induction h with
 |nil=>exact .cons ⟨rfl,q⟩ .nil
 |cons z t ih=>exact .cons z ih
theorem XN {k:Key}(q:Rep K P α d v){kvs:Aa (Key × D)}{vs:Aa (Key × V)}(r:KVs K P α kvs vs):KVs K P α (bL kvs k d) (wJ vs k v):=by
 unfold bL wJ;rw[XH r]
 split
 .exact XM q r
 .exact XI q r
theorem U5 {k:Key}(h:bE d=Ab k)(r:Rep K P α d v):v=kV k:=by
 cases d with
 |int i=>cases h;simp only[Rep] at r;exact r
 |str x=>cases h;simp only[Rep] at r;exact r
 |_=>cases h
end
section
variable {X:Cx}{o i e:AE}{pos:CD}{fo fi:DE}
noncomputable def fP:DE:=λ_ S=>.ok .dct0 S
theorem ZJ:PE X (.Dict [] [] pos) (tD X fP):=by
 refine peW iY λσ H Q ⟨P,α,env,S,r,re,af⟩ p hp=>?_;obtain⟨r1,e1⟩:=r.pure (o:=.dK []) hp;refine af _ _ _ α r1 e1 (A3 _) ?_;simp only[Rep];exact⟨p,rfl,qR⟩
noncomputable def y7:G3:=λo i d S=>match o with
 |.loc n=>match S[n]? with
  |some (.dct kvs)=>match bE i with
   |some k=>if kvs.length<lim then .ok () (S.set n (.dct (bL kvs k d))) else .bad
   |none=>.bad
  |_=>bB o i d S
 |_=>bB o i d S
inductive Set2V (a b d:D)(S:Sto):Prop
 |bad (e:y7 a b d S=.bad)
 |old (e:y7 a b d S=bB a b d S)
 |of (n:Aj) (kvs:Aa (Key × D)) (k:Key) (ea:a=.loc n) (hS:S[n]? = Ab (.dct kvs)) (hk:bE b=Ab k) (hl:kvs.length<lim) (e:y7 a b d S=.ok () (S.set n (.dct (bL kvs k d))))
theorem BI (a b d:D)(S:Sto):Set2V a b d S:=by
 cases a with
 |loc n =>
  have z:y7 (.loc n) b d S=(match S[n]? with|some (.dct kvs)=>(match bE b with|some k=>(if kvs.length<lim then .ok () (S.set n (.dct (bL kvs k d))) else .bad)|none=>.bad)|_=>bB (.loc n) b d S):=rfl
  cases hS:S[n]? with
  |none=>rw[hS] at z;exact .old z
  |some m =>
   rw[hS] at z;cases m with
   |dct kvs =>
    cases hk:bE b with
    |none=>rw[hk] at z;exact .bad z
    |some k =>
     rw[hk] at z;by_cases hl:kvs.length<lim
     .exact .of n kvs k rfl hS hk hl (z.trans (AA hl))
     .exact .bad (z.trans (AD hl))
   |_=>exact .old z
 |_=>exact .old rfl
theorem KB (hu:X.A.units+1<D3):fZ X (fX X y7):=by
 intro pins s σ H o i v ov iv u Q I ro ri rv h;obtain⟨P,α,S,a,b,d,r,pa,pb,pd,af⟩:=h;cases BI a b d S with
 |bad e=>rw[e] at af;exact Al af
 |old e =>
  rw[e] at af;exact BJ pins s σ H o i v ov iv u Q I ro ri rv ⟨P,α,S,a,b,d,r,pa,pb,pd,af⟩
 |of n kvs k ea hS hk hl e =>
  rw[e] at af;subst ea;simp only[Rep] at pa;obtain⟨p,rfl,q⟩:=pa;obtain⟨vs,z,t⟩:=r.at' n p _ q hS;cases U5 hk pb;cases (show ov=AN p from ro)
  refine rE hu I (pL.k (v:=v) z (by rw[<- XJ t,<- zK];exact hl)) ri rv λs' I'=>⟨_,I',?_⟩
  exact af _ P α (r.put (m':=.dct (bL kvs k d)) q hS (by intro z;cases z) ⟨_,qR,XN pd t⟩) (qF.refl _) (A3 _)
noncomputable def TR:D->Aa D->Sto->Res D:=λa ds S=>match a,ds with
 |.loc n,[i,x]=>match S[n]? with
  |some (.dct kvs)=>match bE i with
   |some k=>.ok ((MS kvs k).getD x) S
   |none=>.bad
  |_=>.bad
 |_,_=>.bad
noncomputable def gV:D->Aa D->Sto->Res D:=λa ds S=>match a,ds with
 |.lst xs,[.bl k]=>match zN xs with
  |some bs=>.ok (.int (bs.countP (· == k):Aj)) S
  |none=>.bad
 |_,_=>.bad
noncomputable def bD (k:Ap):Aa Ap->Ak Aj
 |[]=>none
 |b::r=>if b=k then Ab 0 else (bD k r).map (· + 1)
noncomputable def gW:D->Aa D->Sto->Res D:=λa ds S=>match a,ds with
 |.lst xs,[.bl k]=>match (zN xs).bind (bD k) with
  |some j=>.ok (.int j) S
  |none=>.bad
 |_,_=>.bad
theorem mS (k:Ap){bs:Aa Ap}{y:Ac}(hy:y∈(bs.map CP).toArray):NP y (.bool k) (IM k y):=by
 have hy':y∈bs.map CP:=by rwa [List.mem_toArray] at hy
 obtain⟨b,_,rfl⟩:=Bs.mp hy';exact λprog w A E s Q h=>Ni b k prog w E Q h
theorem nD (k:Ap)(bs:Aa Ap):(bs.map CP).countP (IM k)=bs.countP (· == k):=by
 rw[List.countP_map];rfl
theorem sV {β:Type}{r:Res β}{P:Hp}{α:Aa Ad}{Ok:β->Sto->Prop}(e:r=.bad)(h:qI X P α r Ok):Cp:=by
 rw[e] at h;exact h
inductive BlV (a:D)(ds:Aa D):Prop
 |no (h:∀ (g:Aa D->Ap->Res D),(match a,ds with|.lst xs,[.bl k]=>g xs k|_,_=>.bad)=.bad)
 |of (xs:Aa D) (k:Ap) (ea:a=.lst xs) (ed:ds=[.bl k])
theorem blV (a:D)(ds:Aa D):BlV a ds:=by
 cases a with
 |lst xs =>
  cases ds with
  |nil=>exact .no λ_=>rfl
  |cons d ds =>
   cases ds with
   |cons _ _=>cases d <;> exact .no λ_=>rfl
   |nil =>
    cases d with
    |bl k=>exact .of xs k rfl rfl
    |_=>exact .no λ_=>rfl
 |_=>exact .no λ_=>rfl
theorem iP:MtD X "list.count" gV:=by
 intro pins σ H s P α S v vv vs us a ds Q I r rv p rvs rps af;cases blV a ds with
 |no h=>exact(sV (X:=X) (r:=gV a ds S) (h _) af).elim
 |of xs k ea ed =>
  subst ea ed;have af:qI X P α (match zN xs with|some bs=>Res.ok (D.int (bs.countP (· == k):Aj)) S|none=>.bad) (OkV X P α Q):=af
  cases hb:zN xs with
  |none=>rw[hb] at af;exact Al af
  |some bs =>
   rw[hb] at af;obtain⟨vx,ux,rfl,rfl,px,qx⟩:=y9 rps rvs;simp only[Rep] at px;subst px;cases (show ux=CP k from qx)
   obtain⟨b,ws,its,n,rfl,sq,t,rvi,ht,hl,_⟩:=v3 I r p;cases (show vv=AN b from rv)
   have hi:=wD hb t rvi;subst hi;refine Kb Ir ⟨_,ht,rfl⟩ PySem.F.entry_list_count (PySem.F.args_list_count_2 _ _) (PySem.SeqAt.list_countAt b (bs.map CP).toArray n none #[] (.bool k) (IM k)) ⟨ht,λy hy=>(mS k hy).at _ _,?_⟩;refine⟨.int _,H,I.tok _,⟨_,rfl⟩,?_⟩;rw[show (bs.map CP).toArray.toList=bs.map CP from rfl,nD]
   exact xr af r (by simp only[Rep])
theorem l6 {k:Ap}:∀ {bs:Aa Ap} {j:Aj},bD k bs=Ab j->∃ h:j<bs.length,bs[j]=k/\∀ m (hm:m<bs.length),m<j->bs[m]≠k
 |[],j,h=>by cases h
 |b::r,j,h=>by
  unfold bD at h;by_cases hb:b=k
  .rw[AA hb] at h
   cases h;exact⟨by simp,by simpa using hb,λm hm z=>absurd z (Nat.not_lt_zero _)⟩
  .rw[AD hb] at h
   obtain⟨i,hi,rfl⟩:=Br.mp h;obtain⟨h1,h2,h3⟩:=l6 hi;refine⟨by simp;lia,by simpa using h2,λm hm hl=>?_⟩
   cases m with
   |zero=>simpa using hb
   |succ m=>simpa using h3 m (by simp at hm;lia) li
theorem iQ:MtD X "list.index" gW:=by
 intro pins σ H s P α S v vv vs us a ds Q I r rv p rvs rps af;cases blV a ds with
 |no h=>exact(sV (X:=X) (r:=gW a ds S) (h _) af).elim
 |of xs k ea ed =>
  subst ea ed;have af:qI X P α (match (zN xs).bind (bD k) with|some j=>Res.ok (D.int j) S|none=>.bad) (OkV X P α Q):=af
  cases hj:(zN xs).bind (bD k) with
  |none=>rw[hj] at af;exact Al af
  |some j =>
   rw[hj] at af;obtain⟨bs,hb,hi⟩:=Cz.mp hj;obtain⟨vx,ux,rfl,rfl,px,qx⟩:=y9 rps rvs;simp only[Rep] at px;subst px;cases (show ux=CP k from qx)
   obtain⟨b,ws,its,n,rfl,sq,t,rvi,ht,hl,hz⟩:=v3 I r p;cases (show vv=AN b from rv)
   have hi':=wD hb t rvi;subst hi';obtain⟨h1,h2,h3⟩:=l6 hi;have hlen:bs.length<=sizeLine:=by
    have e1:=t.length;have e2:=rvi.length;rw[Az] at e2;rw[zK] at hz
    lia
   refine Kb Iu ⟨_,ht,rfl⟩ PySem.F.entry_list_index (PySem.F.args_list_index_2 _ _) (Nw b (bs.map CP).toArray n (.bool k) (IM k) (λy hy=>mS k hy) j (by simpa using h1) ?_ ?_ ?_) ⟨ht,?_⟩
   .rw[Ch] at hlen;lia
   .simp[IM,h2]
   .intro m hm hl'
    have hm':m<bs.length:=by simpa using hm
    have:=h3 m hm' hl';simp[IM,this]
   .exact⟨.int _,H,I.tok _,⟨_,rfl⟩,xr af r (by simp only[Rep])⟩
end
noncomputable def uR (S:Sto):Sto:=S.map λ_=>.dead
noncomputable def oY:D->Ap
 |.non=>true
 |.bl _=>true
 |.int _=>true
 |.str _=>true
 |_=>false
noncomputable def mapO {β γ:Type}(f:β->Ak γ) : Aa β -> Ak (Aa γ)
 |[]=>Ab []
 |b::r=>match f b,mapO f r with
  |some c,Ab cs=>Ab (c::cs)
  |_,_=>none
noncomputable def w8:Aj->Sto->D->Ak D
 |n+1,S,.tup xs=>(mapO (w8 n S) xs).map .tup
 |n+1,S,.lst xs=>(mapO (w8 n S) xs).map .lst
 |n+1,S,.loc i=>match S[i]? with
  |some (.lst xs)=>(mapO (w8 n S) xs).map .lst
  |_=>none
 |_,_,.non=>Ab .non
 |_,_,.bl b=>Ab (.bl b)
 |_,_,.int i=>Ab (.int i)
 |_,_,.str x=>Ab (.str x)
 |_,_,.ty n=>Ab (.ty n)
 |_,_,.obj a=>Ab (.obj a)
 |_,_,.dct0=>Ab .dct0
 |_,_,.exn c=>Ab (.exn c)
 |_,_,_=>none
noncomputable def wR (H P:Hp)(α : Aa Ad):Hp:=λb=>if (P b).isSome then P b else if b∈α then H b else none
section
variable {K:Ah}{H P:Hp}{α : Aa Ad}{S:Sto}
theorem yW (H P:Hp)(α : Aa Ad):qF P (wR H P α):=λb o e=>by
 unfold wR;rw[e];rfl
theorem i8 (r:Rel K H P α S):qF (wR H P α) H:=λb o e=>by
 unfold wR at e
 split at e
 .exact r.sub b o e
 .split at e
  .exact e
  .cases e
theorem b9 {a:Ad}(h:P a=none)(ha:a∈α):wR H P α a=H a:=by
 unfold wR;rw[h];simp[ha]
theorem Rel.frz (r:Rel K H P α S):Rel K H (wR H P α) α (uR S) where
 tb:=r.tb.keep (λ_ _ q _=>q) λb u q _ p n=>⟨by unfold wR;rw[p];simp[n],n⟩
 sub:=i8 r
 len:=by rw[r.len];simp[uR]
 nd:=r.nd
 sep:=λi a o h1 h2 h3=>by
  unfold uR at h2;rw[Ce] at h2;cases q:S[i]? with
  |none=>rw[q] at h2;cases h2
  |some m=>rw[q] at h2;cases h2;exact absurd rfl h3
 at':=λi a o h1 h2=>by
  unfold uR at h2;rw[Ce] at h2;cases q:S[i]? with
  |none=>rw[q] at h2;cases h2
  |some m=>rw[q] at h2;cases h2;trivial
 own:=r.own
theorem Rel.unfrz {H' P1:Hp}{α1:Aa Ad}{S1:Sto}(r:Rel K H P α S)(r1:Rel K H' P1 α1 S1)(e:qF (wR H P α) P1):Rel K H' P α S:=by
 have mem:∀ i a,α[i]? = Ab a->a∈α:=λi a h=>Be h;have kp:∀ (i:Aj) (a:Ad) (o:MO) (u:HO),α[i]? = Ab a->S[i]? = Ab o->o≠MO.dead->H a=Ab u->H' a=Ab u:=λi a o u h1 h2 h3 h4 =>
  r1.sub a u (e a u (by rw[b9 (r.sep i a o h1 h2 h3) (mem i a h1)];exact h4))
 refine⟨λx hx c T h=>let ⟨ps,e,_,_,ok,cd⟩:=r1.tb x hx c T h;let ⟨_,_,pn,an,_,_⟩:=r.tb x hx c T h;⟨ps,e,pn,an,ok,cd⟩,(yW H P α).trans (e.trans r1.sub),r.len,r.nd,r.sep,λi a o h1 h2=>?_,λi a h1=>?_⟩
 .have m:=r.at' i a o h1 h2
  cases o with
  |dead=>trivial
  |lst ds=>obtain⟨vs,q,t⟩:=m;exact⟨vs,kp i a _ _ h1 h2 (by intro z;cases z) q,t⟩
  |dct kvs=>obtain⟨vs,q,t⟩:=m;exact⟨vs,kp i a _ _ h1 h2 (by intro z;cases z) q,t⟩
  |ins C fs=>obtain⟨dx,vs,q,t⟩:=m;exact⟨dx,vs,kp i a _ _ h1 h2 (by intro z;cases z) q,t⟩
 .have h:=r.own i a h1
  cases q:H a with
  |none=>exact absurd q h
  |some u =>
   have z:∃ u',wR H P α a=Ab u':=by
    cases q2:P a with
    |none=>exact⟨u,by rw[b9 q2 (mem i a h1)];exact q⟩
    |some u'=>exact⟨u',yW H P α a u' q2⟩
   obtain⟨u',z⟩:=z;rw[r1.sub a u' (e a u' z)];intro w;cases w
set_option tactic.hygienic true in
theorem qD.mapO {f:D->Ak D}{P':Hp}(h:∀ d t v,f d=Ab t->Rep K P α d v->Rep K P' α t v):∀ {ds ts:Aa D} {vs:Aa V},_D.mapO f ds=Ab ts->qD K P α ds vs->qD K P' α ts vs
 |[],ts,vs,e,r=>by cases e;rw[r.nil_inv];exact .nil
 |d::ds,ts,vs,e,r=>by
  obtain⟨w,ws,rfl,r1,r2⟩:=r.cons_inv;unfold _D.mapO at e
  split at e
  .rename_i c cs h1 h2
   cases e;exact .cons (h d c w h1 r1) (qD.mapO h h2 r2)
  .cases e
theorem WX (r:Rel K H P α S):∀ (n:Aj) (d t:D) (v:V),w8 n S d=Ab t->Rep K P α d v->Rep K (wR H P α) α t v:=by
 have mono:∀ (d:D) (v:V),Rep K P α d v->Rep K (wR H P α) α d v:=λd v=>Rep.mono (yW H P α) (A3 _) d v;intro n
 induction n with
 |zero =>
  intro d t v h p;cases d <;> first|(cases h;exact mono _ _ p)|exact nn h
 |succ n ih =>
  intro d t v h p;cases d with
  |tup xs =>
   obtain⟨ts,h1,rfl⟩:=Br.mp h;simp only[Rep] at p ⊢;obtain⟨a,vs,rfl,q,t⟩:=p;exact⟨a,vs,rfl,w9 (yW H P α) q,qD.mapO (λd t v=>ih d t v) h1 t⟩
  |lst xs =>
   obtain⟨ts,h1,rfl⟩:=Br.mp h;simp only[Rep] at p ⊢;obtain⟨a,vs,rfl,q,t⟩:=p;exact⟨a,vs,rfl,xA (yW H P α) q,qD.mapO (λd t v=>ih d t v) h1 t⟩
  |loc i =>
   have h:(match S[i]? with|some (.lst xs)=>(_D.mapO (w8 n S) xs).map D.lst|_=>none)=Ab t:=h
   cases hS:S[i]? with
   |none=>rw[hS] at h;exact nn h
   |some m =>
    rw[hS] at h;cases m with
    |lst xs =>
     obtain⟨ts,h1,rfl⟩:=Br.mp h;simp only[Rep] at p ⊢;obtain⟨a,rfl,q⟩:=p;obtain⟨vs,z,t⟩:=r.at' i a _ q hS;refine⟨a,vs,rfl,.inl (.inl ?_),qD.mapO (λd t v=>ih d t v) h1 t⟩;rw[b9 (r.sep i a _ q hS (by intro z;cases z)) (Be q)]
     exact z
    |_=>exact nn h
  |fd ks ds=>exact nn h
  |clo a vs ds=>exact nn h
  |_=>cases h;exact mono _ _ p
theorem cT {P':Hp}{α':Aa Ad}(h:oY d=true)(p:Rep K P α d v):Rep K P' α' d v:=by
 cases d with
 |non=>simpa only [Rep] using p
 |bl b=>simpa only [Rep] using p
 |int i=>simpa only [Rep] using p
 |str x=>simpa only [Rep] using p
 |_=>cases h
end
noncomputable def mQ:Aj:=20
noncomputable def dS (r:Res D)(S:Sto):Res D:=match r with
 |.ok d _=>if oY d then .ok d S else .bad
 |_=>.bad
theorem dU {X:Cx}{H P:Hp}{α:Aa Ad}{S:Sto}{r:Res D}(rl:Rel X.K H P α S)(af:qP X P α (dS r S) Q):qP X (wR H P α) α r Q:=by
 cases r with
 |ok d S' =>
  obtain⟨ha,af⟩:=xD (X:=X) af;exact λv H' P' α' r' e1 e2 rp=>af v H' P α (rl.unfrz r' e1) (qF.refl _) (A3 _) (cT ha rp)
 |ex c x S'=>exact Al af
 |bad=>exact Al af
section
variable {X:Cx}
noncomputable def vP (F:DF):DF:=λds S=>match mapO (w8 mQ S) ds with
 |some ts=>dS (F ts (uR S)) S
 |none=>.bad
variable {cm:Ap}{k:Aj}{f:Ad}{fd:CF}{ps:Aa An}{F:DF}{x:An}{p pos:CD}{e:AE}{es:Aa AE}{fa:DA}{n:Aj}
set_option tactic.hygienic true in
theorem aG (G:FnX X.prog X.w X.K X.mg X.base cm k f fd ps (spD X.K n F))(hr:RoomC cm k X.A)(hF:Fn1 X)(hg:Gl X x)(hm:X.mg x=Ab (.ref f))(hk:Bz X.K (.ref f)=true)(hb:wC X.K fd ps [])
  (ha:PA X (e::es) (tDA X fa)) (hdb:(x == ("__debug__" : An))=false:=by decide) (he:Av (e::es) X.env=(false,eval e X.env)::Av es X.env:=by rfl) (hpl:(CB pos (Av es X.env)).any (·.1)=false:=by rfl) :
  PE X (.Call (.Name x p) (e::es) [] pos) (tD X (qN n (vP F) fa)):=by
 intro pins s σ H Q I h;obtain⟨P,α,env,S,r,re,af⟩:=h;refine Dh (wV I hg hm ?_ hdb);refine Fi (h₀:=X.base) I.ok.mod.kin hk (thn (xB ha I r re af pos) λus s1 ⟨vs,H1,P1,α1,ds,S1,I1,rv,r1,re1,rp,e1,e2,af1⟩=>⟨I1.kIn,?_⟩) he hpl;obtain⟨hn,af2⟩:=jX (env:=env) (S:=S) af1;have af3:=qP.base e1 e2 af2;unfold vP at af3
 split at af3
 .rename_i ts ht
  have rp':=qD.mapO (λd t v=>WX r1 mQ d t v) ht rp;have hl:ts.length=n:=by rw[rp'.length,<- rp.length];exact hn
  exact lP G hr hb hF I1 r1.frz rv rp' hl (dU r1 af3)
 .exact Al af3
end
noncomputable def yF (t:DT)(f:DS):Aj->qE->Sto->Out
 |0,_,_=>.bad
 |n+1,env,S=>(t env S).toS env λb S1=>if b then (match f env S1 with
   |.nx env2 S2=>yF t f n env2 S2
   |.ct env2 S2=>yF t f n env2 S2
   |.bk env2 S2=>.nx env2 S2
   |o=>o) else .nx env S1
theorem sZ:∃ n:Aj,n=2 ^ 60:=⟨_,rfl⟩
def big:Aj:=Ig sZ
theorem sY:big=2 ^ 60:=Gm sZ
def kD (t:DT)(f:DS):DS:=λenv S=>yF t f big env S
section
variable {X:Cx}{pos:CD}
inductive WhI (X:Cx)(P:Hp)(α : Aa Ad)(t:DT)(f:DS)(D:Ends)(m:Aj)(σ : _L.St)(H:Hp):Prop
 |mk (P2:Hp) (α2:Aa Ad) (env2:qE) (S2:Sto) (r:Rel X.K H P2 α2 S2) (re:qS X.K P2 α2 σ env2) (e1:qF P P2) (e2:α<+:α2) (af:qU X P2 α2 (yF t f m env2 S2) D):WhI X P α t f D m σ H
theorem aS {c:AE}{body:Aa Ca}{t:DT}{f:DS}(hp:Gy (Aq X.prog X.w) X.A X.env X.xe)(hc:PT X c (tDT X t))(hb:PSs X body (tDS X f)):PS X (.While c body [] pos) (tDS X (kD t f)):=
 psW (o6 hp hc hb) λD σ H ⟨P,α,env,S,r,re,af⟩=>by
  refine⟨WhI X P α t f D,⟨big,P,α,env,S,r,re,qF.refl _,A3 _,af⟩,?_⟩;rintro m σ2 H2 ⟨P2,α2,env2,S2,r2,re2,e1,e2,af2⟩;cases m with
  |zero=>exact Al af2
  |succ m =>
   have af3:=x8 af2;refine⟨P2,α2,env2,S2,r2,re2,?_⟩;cases q:t env2 S2 with
   |bad=>rw[q] at af3;exact af3
   |ex c x S'=>rw[q] at af3;exact af3
   |ok b S3 =>
    rw[q] at af3;intro H3 P3 α3 r3 e3 e4;have af4:qU X P3 α3 (if b then (match f env2 S3 with|.nx env2 S2=>yF t f m env2 S2|.ct env2 S2=>yF t f m env2 S2|.bk env2 S2=>.nx env2 S2|o=>o) else .nx env2 S3) D:=qU.base e3 e4 af3
    cases b with
    |false=>exact af4 σ2 H3 P3 α3 r3 (re2.mono e3 e4) (qF.refl _) (A3 _)
    |true =>
     simp only[Bq] at af4 ⊢;refine⟨WhI X P α t f D m,λσ' H' w=>⟨m,LV _,w⟩,P3,α3,env2,S3,r3,re2.mono e3 e4,?_⟩;cases q2:f env2 S3 with
     |bad=>rw[q2] at af4;exact af4
     |ex c x env4 S4=>rw[q2] at af4;exact af4
     |rt d4 S4=>rw[q2] at af4;exact af4
     |bk env4 S4=>rw[q2] at af4;exact af4
     |nx env4 S4 =>
      rw[q2] at af4;exact λσ5 H5 P5 α5 r5 re5 e8 e9=>⟨P5,α5,env4,S4,r5,re5,(e1.trans e3).trans e8,(e2.trans e4).trans e9,qU.base e8 e9 af4⟩
     |ct env4 S4 =>
      rw[q2] at af4;exact λσ5 H5 P5 α5 r5 re5 e8 e9=>⟨P5,α5,env4,S4,r5,re5,(e1.trans e3).trans e8,(e2.trans e4).trans e9,qU.base e8 e9 af4⟩
end
section
variable {X:Cx}{a b c e:AE}{pos:CD}{fa fe:DE}
def MI (X:Cx)(g:G2):TIp:=λx y H Q=>∃ P α S a b,Rel X.K H P α S/\Rep X.K P α a x/\Rep X.K P α b y/\qP X P α (g a b S) Q
def IpD (X:Cx)(op:Fz)(g:G2):Prop:=PIp X op (MI X g)
noncomputable def kB (i:Aj)(g:G2)(fe:DE):DS:=λenv S=>match env[i]? with
 |some (Ab x)=>(fe env S).toS env λy S1=>(g x y S1).toS env λz S2=>.nx (env.set i (Ab z)) S2
 |_=>.bad
set_option tactic.hygienic true in
theorem VH {i:Aj}{x:An}{op:Fz}{g:G2}{pos':CD}(hN:X.N.Nodup)(he:PE X e (tD X fe))(ho:IpD X op g)(hi:X.N[i]? = Ab x:=by rfl)(hx:Loc X.env.scope x:=by first|exact LQ rfl|exact Kn rfl)
  (hf:X.fn x=true\/X.env.scope.names.lookup x=Ab .local:=by first|exact .inl rfl|exact .inr rfl|assumption):PS X (.AugAssign (.Name x pos') op e pos) (tDS X (kB i g fe)):=
 psW (JK hN hi hx he ho hf) λD σ H ⟨P,α,env,S,r,re,af⟩=>by
  unfold kB at af
  split at af
  .rename_i d hd
   obtain⟨v,hv,pv⟩:=re.2 i d hd;refine⟨v,hv,P,α,env,S,r,re,?_⟩;have af1:=x8 af;cases q:fe env S with
   |bad=>rw[q] at af1;exact af1
   |ex c x S'=>rw[q] at af1;exact af1
   |ok y S1 =>
    rw[q] at af1;intro u H1 P1 α1 r1 e1 e2 rp;refine⟨P1,α1,S1,d,y,r1,Rep.mono e1 e2 _ _ pv,rp,?_⟩;have af2:=x8 (qU.base e1 e2 af1);cases q2:g d y S1 with
    |bad=>rw[q2] at af2;exact af2
    |ex c x S'=>rw[q2] at af2;exact af2
    |ok z S2 =>
     rw[q2] at af2;exact λw H2 P2 α2 r2 e3 e4 rp2=>af2 _ H2 P2 α2 r2 (((re.mono e1 e2).mono e3 e4).set i rp2) e3 e4
  .exact Al af
noncomputable def gU:G2:=i2 (λ_ _=>true) λi j=>.int (i+j)
theorem X9:IpD X .Add gU:=by
 intro pins s σ H x y v u Q I rx ry h;obtain⟨P,α,S,a,b,r,pa,pb,af⟩:=h;obtain⟨i,j,rfl,rfl,_,ok⟩:=dO af;exact U1 pins s σ H x y v u Q I rx ry ⟨i,j,zW pa,zW pb,xr ok r (by simp only[Rep])⟩
noncomputable def wF (xs:Aa D)(lo hi:Ak Am):Aa D:=(xs.drop (_H.sIx xs.length 0 lo)).take (_H.sIx xs.length xs.length hi-_H.sIx xs.length 0 lo)
abbrev DO:=qE->Sto->Res (Ak Am)
def OkO (X:Cx)(P:Hp)(α : Aa Ad)(Q:Ak Am->Hp->Prop)(o:Ak Am)(S':Sto):Prop:=∀ H' P' α',Rel X.K H' P' α' S'->qF P P'->α<+:α'->Q o H'
def tDO (X:Cx)(f:DO):TO:=λσ H Q=>∃ P α env S,Rel X.K H P α S/\qS X.K P α σ env/\qI X P α (f env S) (OkO X P α Q)
noncomputable def mR:DO:=λ_ S=>.ok none S
noncomputable def yD (f:DE):DO:=λenv S=>(f env S).bind λd S1=>match d with
 |.int i=>.ok (Ab i) S1
 |_=>.bad
theorem ZT:PO X none (tDO X mR):=λpins s σ H Q I ⟨P,α,env,S,r,re,af⟩=>WA pins s σ H Q I (af H P α r (qF.refl _) (A3 _))
theorem ZU (he:PE X e (tD X fe)):PO X (Ab e) (tDO X (yD fe)):=by
 intro pins s σ H Q I h;obtain⟨P,α,env,S,r,re,af⟩:=h;refine WB (te:=tD X fe) he pins s σ H Q I ⟨P,α,env,S,r,re,?_⟩;have af':qI X P α ((fe env S).bind λd S1=>match d with|.int i=>.ok (Ab i) S1|_=>.bad) (OkO X P α Q):=af
 cases q:fe env S with
 |bad=>rw[q] at af';exact af'
 |ex c x S'=>rw[q] at af';exact af'
 |ok d S1 =>
  rw[q] at af';intro v H1 P1 α1 r1 e1 e2 rp;cases d with
  |int i=>exact⟨i,zW rp,af' H1 P1 α1 r1 e1 e2⟩
  |_=>exact Al af'
theorem qD.cut {K:Ah}{P:Hp}{α:Aa Ad}(r:qD K P α ds vs)(lo hi:Ak Am):qD K P α (wF ds lo hi) (jT vs lo hi):=by
 unfold wF jT;rw[r.length];exact(r.drop _).take _
noncomputable def gSl (d:D)(lo hi:Ak Am)(S:Sto):Res D:=match d with
 |.lst xs=>.ok (.lst (wF xs lo hi)) S
 |.loc i=>match S[i]? with
  |some (.lst xs)=>.ok (.lst (wF xs lo hi)) S
  |_=>.bad
 |.tup xs=>.ok (.tup (wF xs lo hi)) S
 |_=>.bad
noncomputable def dSl (fe:DE)(fl fh:DO):DE:=λenv S=>(fe env S).bind λd S1=>(fl env S1).bind λlo S2=>(fh env S2).bind λhi S3=>gSl d lo hi S3
end
end _D
namespace _D
open PySem PySem.Spec PyProof.Rows _L _H
section
variable {prog:A0}{w:AH}{A:AF}{E:Ac->Af->Prop}{s:Af}
theorem jP {t sl:Ad}{items:A6 Ac}{vl vu:Ac}{lo hi:Ak Am}{Q:Ac->Af->Prop}(ht:Lq s.heap t items)(hs:s.heap.IsSliceOf sl vl vu .none)(pl:Hy vl lo)(pu:Hy vu hi)
  (hw:sIx items.size 0 lo=0/\sIx items.size items.size hi=items.size) (h:Q (.ref t) s):Ao (Aq prog w) A (HC (.ref t) (.ref sl)) Q E s:=by
 obtain⟨ob,hob,hcb,_⟩:=id hs;have hTs:s.TypeIs (.ref sl) "slice":=⟨ob,hob,hcb⟩;unfold HC
 try with_reducible refine CZ ?_
 first|refine Ag (As ?_)|skip
 refine Ag (Ly ht.typeIs (by decide) ?_)
 refine Ag (Cy (name:=Eo "__getitem__") ht.typeIs Cs
  (CV Cs ht.typeIs Jz ?_ (Kr _ _)))
 show Ao _ _ (H0 (.ref t) >>= _) _ _ s;refine Ag (tupleItemsOf_ ht ?_);refine Ag (Lb hTs ?_);rw[AA (by decide)]
 refine Ag (vC hs pl pu ?_);show Ao _ _ (if (((sIx items.size 0 lo:Aj):Am) == 0&&(1:Am) == 1&&(sIx items.size items.size hi-sIx items.size 0 lo) == items.size)=true then _ else _) _ _ s
 rw[hw.1,hw.2,AA (by simp)]
 unfold Nj;refine Ag (Ag (Lb ht.typeIs (As ?_)));rw[AA (by decide)]
 exact Ag (D7 (As ⟨_,rfl,As h⟩))
end
section
variable {X:Cx}{e:AE}{fe:DE}{pos p2:CD}
def MB (X:Cx):V->Ak Am->Ak Am->Hp->VK->Prop:=λx lo hi H Q=>∃ P α S d,Rel X.K H P α S/\Rep X.K P α d x/\qP X P α (gSl d lo hi S) Q
theorem MF:SlR X (MB X):=by
 intro pins s σ H x v vl vu lo hi sl Q I rx hs pl pu h;obtain⟨P,α,S,d,r,p,af⟩:=h;cases d with
 |lst xs =>
  simp only[Rep] at p;obtain⟨a,vs,rfl,q,t⟩:=p;exact lT pins s σ H _ v vl vu lo hi sl Q I rx hs pl pu ⟨a,vs,rfl,(xA r.sub q).l,λb hb=>xR r hb (qD.cut t lo hi) af⟩
 |loc i =>
  obtain⟨xs,hS,af⟩:=jC (X:=X) (f:=λxs=>Res.ok (D.lst (wF xs lo hi)) S) af;simp only[Rep] at p;obtain⟨a,rfl,q⟩:=p;obtain⟨vs,z,t⟩:=r.at' i a _ q hS;exact lT pins s σ H _ v vl vu lo hi sl Q I rx hs pl pu ⟨a,vs,rfl,SqL.of z,λb hb=>xR r hb (qD.cut t lo hi) af⟩
 |tup xs =>
  have p0:=p;simp only[Rep] at p;obtain⟨a,vs,rfl,q,t⟩:=p;by_cases hw:sIx vs.length 0 lo=0/\sIx vs.length vs.length hi=vs.length
  .cases rx
   obtain⟨its,rv,ht,hz⟩:=I.tuple (xF r.sub q);have hlen:its.toArray.size=vs.length:=by rw[A9];exact rv.length.symm
   refine⟨"tuple",_,Cs.lookup,ht.typeIs,jP ht hs pl pu (by rw[hlen];exact hw) ⟨.ref a,H,I,rfl,xr af r ?_⟩⟩
   have e:wF xs lo hi=xs:=by
    unfold wF;rw[t.length,hw.1,hw.2,<- t.length];simp
   rw[e];exact p0
  .exact KC pins s σ H _ v vl vu lo hi sl Q I rx hs pl pu ⟨a,vs,rfl,xF r.sub q,hw,λb hb=>jD r hb (qD.cut t lo hi) af⟩
 |_=>exact Al af
theorem aJ {lo hi:Ak AE}{fl fh:DO}(he:PE X e (tD X fe))(hl:PO X lo (tDO X fl))(hu:PO X hi (tDO X fh)):PE X (.Subscript e (.Slice lo hi none p2) pos) (tD X (dSl fe fl fh)):=
 peW (iZ MF he hl hu) λσ H Q ⟨P,α,env,S,r,re,af⟩=>by
  refine⟨P,α,env,S,r,re,?_⟩;have af':qI X P α ((fe env S).bind λd S1=>(fl env S1).bind λlo S2=>(fh env S2).bind λhi S3=>gSl d lo hi S3) (OkV X P α Q):=af;cases q:fe env S with
  |bad=>rw[q] at af';exact af'
  |ex c x S'=>rw[q] at af';exact af'
  |ok d S1 =>
   rw[q] at af';intro v H1 P1 α1 r1 e1 e2 rp;refine⟨P1,α1,env,S1,r1,re.mono e1 e2,?_⟩;have af2:qI X P1 α1 ((fl env S1).bind λlo S2=>(fh env S2).bind λhi S3=>gSl d lo hi S3) (OkV X P1 α1 Q):=qP.base e1 e2 af';cases q2:fl env S1 with
   |bad=>rw[q2] at af2;exact af2
   |ex c x S'=>rw[q2] at af2;exact af2
   |ok l S2 =>
    rw[q2] at af2;intro H2 P2 α2 r2 e3 e4;refine⟨P2,α2,env,S2,r2,(re.mono e1 e2).mono e3 e4,?_⟩;have af3:qI X P2 α2 ((fh env S2).bind λhi S3=>gSl d l hi S3) (OkV X P2 α2 Q):=qP.base e3 e4 af2;cases q3:fh env S2 with
    |bad=>rw[q3] at af3;exact af3
    |ex c x S'=>rw[q3] at af3;exact af3
    |ok u S3 =>
     rw[q3] at af3;intro H3 P3 α3 r3 e5 e6;exact⟨P3,α3,S3,d,r3,Rep.mono (e3.trans e5) (e4.trans e6) _ _ rp,qP.base e5 e6 af3⟩
noncomputable def vY (d:D)(S:Sto):Res D:=match d with
 |.int i=>if i.natAbs.log2<1920 then .ok (.str (toString i)) S else .bad
 |.str x=>if x.length<=lim then .ok (.str x) S else .bad
 |_=>.bad
set_option tactic.hygienic true in
theorem V2 (he:PE X e (tD X fe)):PE X (.FormattedValue e (-1) none pos) (tD X (d1 vY fe)):=by
 intro pins s σ H Q I h;obtain⟨P,α,env,S,r,re,af⟩:=h;refine FormattedValue_plain (thn (zP he I r re af) λvv s1 ⟨v,H1,P1,α1,d,S1,G1,af1⟩=>?_);have p:=G1.rep;have rv:=G1.val;have af2:=qP.base G1.same G1.pre af1;cases d with
 |int i =>
  simp only[vY] at af2
  split at af2
  .rename_i hd
   simp only[Rep] at p;subst p;obtain⟨t,rfl⟩:=rv;exact formatField_int_small hd ⟨.str _,H1,G1.inv.tok _,⟨_,rfl⟩,xr af2 G1.rel (by simp only[Rep])⟩
  .exact Al af2
 |str x =>
  simp only[vY] at af2
  split at af2
  .rename_i hd
   simp only[Rep] at p;subst p;obtain⟨t,rfl⟩:=rv;exact formatField_str (λt' tk=>⟨.str _,H1,G1.inv.tok _,⟨_,rfl⟩,xr af2 G1.rel (by simp only[Rep])⟩) (by rw[<- zK];exact hd)
  .exact Al af2
 |_=>exact Al af2
noncomputable def j7 (out:An):Aa DE->qE->Sto->Res D
 |[],_,S=>if out.length<=lim then .ok (.str out) S else .bad
 |p::ps,env,S=>(p env S).bind λd S1=>match d with
  |.str y=>if (out++y).length<=lim then j7 (out++y) ps env S1 else .bad
  |_=>.bad
def PJ (X:Cx)(es:Aa AE)(fs:Aa DE):Prop:=
 ∀ (out:An) (pins:Aa (Ad × AL)) (s:Af) (σ : _L.St) (H P:Hp) (α : Aa Ad) (env:qE) (S:Sto) (Q:VK),Inv X pins σ H s->Rel X.K H P α S->qS X.K P α σ env->qP X P α (j7 out fs env S) Q ->
  Ao (Aq X.prog X.w) X.A (joinParts out (evalEach es X.env)) (EP X pins σ Q) X.xe s
theorem JJ:PJ X [] []:=by
 intro out pins s σ H P α env S Q I r re af;obtain⟨hl,af⟩:=xD (X:=X) af;exact joinParts_nil ⟨.str _,H,I.tok _,⟨_,rfl⟩,xr af r (by simp only[Rep])⟩ (by rw[<- zK];exact hl)
theorem W8 {es:Aa AE}{fs:Aa DE}(he:PE X e (tD X fe))(hr:PJ X es fs):PJ X (e::es) (fe::fs):=by
 intro out pins s σ H P α env S Q I r re af;have af:qI X P α ((fe env S).bind λd S1=>match d with|.str y=>if (out++y).length<=lim then j7 (out++y) fs env S1 else .bad|_=>.bad) (OkV X P α Q):=af
 refine joinParts_cons (thn (zP he I r re af) λvv s1 ⟨v,H1,P1,α1,d,S1,G1,af1⟩=>?_);cases d with
 |str y =>
  have p:=G1.rep;simp only[Rep] at p;subst p;obtain⟨t,rfl⟩:=G1.val;obtain⟨hl,af1⟩:=xD (X:=X) af1;exact⟨by rw[<- zK];exact hl,hr (out++y) pins s1 σ H1 P1 α1 env S1 Q G1.inv G1.rel G1.env (qP.base G1.same G1.pre af1)⟩
 |_=>exact Al af1
noncomputable def fR (fs:Aa DE):DE:=λenv S=>j7 ES fs env S
theorem ZK {v₁ v₂:AE}{rest:Aa AE}{fs:Aa DE}(h:PJ X (v₁::v₂::rest) fs):PE X (.JoinedStr (v₁::v₂::rest) pos) (tD X (fR fs)):=by
 intro pins s σ H Q I hq;obtain⟨P,α,env,S,r,re,af⟩:=hq;exact JoinedStr_many (h ES pins s σ H P α env S Q I r re af)
end
end _D
namespace _D
open PySem PySem.Spec PyProof.Rows _L
variable {xs ys:A6 Ac}{h':A8}{α:Aa Ad}{N:Aa An}{body:Aa Ca}{its ds dsF:Aa D}{vs:Aa V}{Q:Ac->Af->Prop}{C:Ad}{Qa Qd:Af->Prop}{m:Aj}{o':Ak (Aj × MO)}{tp:Ap}{R:It->Hp->Prop}{S SF:Sto}{env envF:qE}
def z0 (tp:Ap)(h:A8)(it l:Ad)(k:Aj):Prop:=if tp then h.IsTupleIter it l k else h.IsListIter it l k
def zY (tp:Ap)(h:A8)(l:Ad)(xs:A6 Ac):Prop:=if tp then h.IsTuple l xs else h.IsList l xs
theorem z0.keep {h:A8}{it l:Ad}{k:Aj}(x:z0 tp h it l k)(q:∀ o,h.get? it=Ab o->h'.get? it=Ab o):z0 tp h' it l k:=by
 cases tp <;> (obtain⟨o,e,r⟩:=x;exact⟨o,q o e,r⟩)
theorem zY.keep {h:A8}{l:Ad}(x:zY tp h l xs)(q:∀ o,h.get? l=Ab o->h'.get? l=Ab o):zY tp h' l xs:=by
 cases tp <;> (obtain⟨o,e,r⟩:=x;exact⟨o,q o e,r⟩)
theorem z0.there {h:A8}{it l:Ad}{k:Aj}(x:z0 tp h it l k):∃ o,h.get? it=Ab o/\∀ v,o.data≠.cell v:=by
 cases tp <;> (obtain⟨o,e,_,d⟩:=x;exact⟨o,e,λv z=>by rw[d] at z;cases z⟩)
section
variable {prog:A0}{w:AH}{A:AF}{E:Ac->Af->Prop}{s:Af}
theorem iT {it t:Ad}{i:Aj}{items:A6 Ac}{x:Ac}(hit:s.heap.IsTupleIter it t i)(ht:s.heap.IsTuple t items)(hx:items[i]? = Ab x)
  (hQ:∀ h',h'.IsTupleIter it t (i+1)->CN it s.heap h'->Q x { s with heap:=h' }) : Ao (Aq prog w) A (Bi (.ref it)) Q E s:=by
 obtain⟨o,e,c,d⟩:=id hit;obtain⟨u,eu,_,m,du⟩:=ht;unfold Bi;refine Ag (Cy (name:=Eo "__next__") hit.typeIs DN (CV DN hit.typeIs Ht ?_ (Hq _)));show Ao _ _ (field (.ref it) 0 >>= _) _ _ s;refine Ag (Bm e d (x:=.ref t) rfl ?_);show Ao _ _ (if (AN t == Bk)=true then _ else _) _ _ s;rw[AD (show ¬ ((AN t == Bk)=true) from DL)]
 show Ao _ _ (field (.ref it) 1 >>= _) _ _ s;refine Ag (Bm e d (x:=.int i 0) rfl ?_);show Ao _ _ (seqItems? (.ref t) >>= _) _ _ s;refine Ag (DJ eu du ?_);simp only[Fv,hx];refine Ag (wpAny_setField e d (by simp) (As ⟨x,rfl,As (hQ _ ⟨_,IW _ e (Obj.isFreed_of_fields (Kw d _)),(Obj.cls_mapFields ..).trans c,?_⟩ (Kh ..))⟩))
 rw[Kw d];simp[Dj]
theorem tE {it t:Ad}{i:Aj}{items:A6 Ac}{Q:Ac->Af->Prop}(hh:A.handled=none)(hit:s.heap.IsTupleIter it t i)(ht:s.heap.IsTuple t items)(hx:items[i]? = none)
  (hE:∀ h' e,NV it s.heap h'->(∃ o,h'.get? e=Ab o/\o.cls=.type "StopIteration")->E (.ref e) { s with heap:=h' }) : Ao (Aq prog w) A (Bi (.ref it)) Q E s:=by
 obtain⟨o,e,c,d⟩:=id hit;obtain⟨u,eu,_,m,du⟩:=ht;unfold Bi;refine Ag (Cy (name:=Eo "__next__") hit.typeIs DN (CV DN hit.typeIs Ht ?_ (Hq _)));show Ao _ _ (field (.ref it) 0 >>= _) _ _ s;refine Ag (Bm e d (x:=.ref t) rfl ?_);show Ao _ _ (if (AN t == Bk)=true then _ else _) _ _ s;rw[AD (show ¬ ((AN t == Bk)=true) from DL)]
 show Ao _ _ (field (.ref it) 1 >>= _) _ _ s;refine Ag (Bm e d (x:=.int i 0) rfl ?_);show Ao _ _ (seqItems? (.ref t) >>= _) _ _ s;refine Ag (DJ eu du ?_);simp only[Fv,hx];refine Ag (D7 (Ag (wpAny_setField e d (by simp) ?_)))
 show Ao _ _ (newExc (.type "StopIteration") [] >>= _) _ _ _;refine Ag ?_;simp only[newExc,newTuple];refine Ag (Dn ?_ (by size_fits))
 refine Ag (m:=firstArgMember _ _) (LS (a:=Bk) (by first|rfl|(simp only[firstArgMember];rfl)) (Dn ?_ (by size_fits)))
 simp only[raiseNew];refine Ag (wpAny_handled ?_)
 first|rw[show A.in1.handled=none from hh]|rw[hh]
 exact Ag (As (wpAny_throw (hE _ _ (((Kh ..).extBut.push _).push _) ⟨_,AB _ rfl,rfl⟩)))
theorem jB {it l:Ad}{k:Aj}{x:Ac}(hit:z0 tp s.heap it l k)(hl:zY tp s.heap l xs)(hx:xs[k]? = Ab x)
  (hQ:∀ h',z0 tp h' it l (k+1)->CN it s.heap h'->Q x { s with heap:=h' }) : Ao (Aq prog w) A (Bi (.ref it)) Q E s:=by
 cases tp with
 |false=>exact wpAny_nextOf_list_item hit hl hx hQ
 |true=>exact iT hit hl hx hQ
theorem v7 {it l:Ad}{k:Aj}{Q:Ac->Af->Prop}(hh:A.handled=none)(hit:z0 tp s.heap it l k)(hl:zY tp s.heap l xs)(hx:xs[k]? = none)
  (hE:∀ h' e,NV it s.heap h'->(∃ o,h'.get? e=Ab o/\o.cls=.type "StopIteration")->E (.ref e) { s with heap:=h' }) : Ao (Aq prog w) A (Bi (.ref it)) Q E s:=by
 cases tp with
 |false=>exact wpAny_nextOf_list_end hh hit hl hx hE
 |true=>exact tE hh hit hl hx hE
structure ZA (z I O i j:Ad):Prop where
 Iz:I≠z
 Oz:O≠z
 iz:i≠z
 jz:j≠z
 IO:I≠O
 Ii:I≠i
 Ij:I≠j
 Oi:O≠i
 Oj:O≠j
 ij:i≠j
structure Off (z O i j a:Ad):Prop where
 z:a≠z
 O:a≠O
 i:a≠i
 j:a≠j
abbrev cR (z O i j:Ad)(h h':A8):Prop:=∀ c o,c≠z->c≠O->c≠i->c≠j->h.get? c=Ab o->h'.get? c=Ab o
theorem oV {tq:Ap}{z I O i j a b:Ad}{k:Aj}{x y p q:Ac}(D:ZA z I O i j)(Da:Off z O i j a)(Db:Off z O i j b)
  (hz:Hu s.heap z I O .none) (hI:DP s.heap I (.ref i) (.ref j)) (hO:DP s.heap O p q) (h1:z0 tp s.heap i a k) (h2:z0 tq s.heap j b k) (ha:zY tp s.heap a xs) (hb:zY tq s.heap b ys) (hx:xs[k]? = Ab x) (hy:ys[k]? = Ab y)
  (hQ:∀ h',Hu h' z I O (Dj s.heap.objs.size)->DP h' O x y->z0 tp h' i a (k+1)->z0 tq h' j b (k+1)->DP h' s.heap.objs.size x y->h'.objs.size=s.heap.objs.size+1->cR z O i j s.heap h'->Q (.ref s.heap.objs.size) { s with heap:=h' }) :
  Ao (Aq prog w) A (EH.«zip.__next__» ⟨[.ref z],[]⟩) (λfin s'=>∃ v,fin=.done (.ret v)/\Q v s') E s:=by
 show Ao _ _ (field (.ref z) 2 >>= _) _ _ _;refine Ag (Bm hz rfl (x:=.bool false) rfl ?_);show Ao _ _ (field (.ref z) 3 >>= _) _ _ _;refine Ag (Bm hz rfl (x:=.ref I) rfl (Ag (DJ hI rfl ?_)));show Ao _ _ (Bv (.ref z) >>= _) _ _ _;refine Ag ?_;unfold Bv;refine Ag (Bm hz rfl (x:=.none) rfl (As ?_));simp only[Bq];refine Ag (D7 (Ag (Bm hz rfl (x:=.ref O) rfl (Ag (Ci hz (by simp) λg1 z1 s1=>?_)))))
 replace z1:Hu g1 z I O .ellipsis:=z1
 refine Ag ?_;simp only[Ih,Mm,Fc,Ft];refine Ag (Ag (HL ?_));show Ao _ _ (Bi (.ref i) >>= _) _ _ _;refine Ag (jB (h1.keep λo e=>s1.extBut _ _ D.iz e) (ha.keep λo e=>s1.extBut _ _ Da.z e) hx λg2 i2 s2=>As ?_);have O2:DP g2 O p q:=s2.extBut _ _ D.Oi (s1.extBut _ _ D.Oz hO);refine Ag (DJ O2 rfl (Ag (Gt O2 λg3 O3 s3=>Ag (IY (As ?_)))))
 replace O3:DP g3 O x q:=O3
 refine Ag (Ag (HL ?_));show Ao _ _ (Bi (.ref j) >>= _) _ _ _;refine Ag (jB (h2.keep λo e=>s3.extBut _ _ D.Oj.symm (s2.extBut _ _ D.ij.symm (s1.extBut _ _ D.jz e))) (hb.keep λo e=>s3.extBut _ _ Db.O (s2.extBut _ _ Db.i (s1.extBut _ _ Db.z e))) hy λg4 j4 s4=>As ?_);have O4:DP g4 O x q:=s4.extBut _ _ D.Oj O3;refine Ag (DJ O4 rfl (Ag (Gt O4 λg5 O5 s5=>Ag (IY (As (As ?_))))))
 replace O5:DP g5 O x y:=O5
 refine Ag (DJ O5 rfl (Ag (Jh ?_)));have sz:g5.objs.size=s.heap.objs.size:=by rw[s5.1,s4.1,s3.1,s2.1,s1.1]
 have z5:Hu g5 z I O .ellipsis:=s5.extBut _ _ D.Oz.symm (s4.extBut _ _ D.jz.symm (s3.extBut _ _ D.Oz.symm (s2.extBut _ _ D.iz.symm z1)));have k5:cR z O i j s.heap g5:=λc o c1 c2 c3 c4 e=>s5.extBut _ _ c2 (s4.extBut _ _ c4 (s3.extBut _ _ c2 (s2.extBut _ _ c3 (s1.extBut _ _ c1 e))));have i5:z0 tp g5 i a (k+1):=i2.keep λo e=>s5.extBut _ _ D.Oi.symm (s4.extBut _ _ D.ij (s3.extBut _ _ D.Oi.symm e));have j5:z0 tq g5 j b (k+1):=j4.keep λo e=>s5.extBut _ _ D.Oj.symm e;have zl:z<g5.objs.size:=Ay z5;show Ao _ _ (De (.ref z) (.ref g5.objs.size) >>= _) _ _ _;refine Ag ?_;unfold De;have z6:Hu (g5.push { cls:=.type "tuple",data:=.seq #[x,y] }) z I O .ellipsis:=Ai _ z5;refine Ag (Ci z6 (by simp) λg7 z7 s7=>?_)
 replace z7:Hu g7 z I O (Dj g5.objs.size):=z7
 refine Ci z7 (by simp) λg8 z8 s8=>?_
 replace z8:Hu g8 z I O (Dj g5.objs.size):=z8
 have up:∀ c o,c≠z->g5.get? c=Ab o->g8.get? c=Ab o:=λc o c1 e=>s8.extBut _ _ c1 (s7.extBut _ _ c1 (Ai _ e));have T8:DP g8 g5.objs.size x y:=s8.extBut _ _ (En zl) (s7.extBut _ _ (En zl) (AB _ rfl));have sz8:g8.objs.size=g5.objs.size+1:=by rw[s8.1,s7.1,CL]
 rw[sz] at z8 T8 sz8;refine As ⟨_,rfl,?_⟩;show Q (.ref g5.objs.size) _;rw[sz];exact hQ g8 z8 (up _ _ D.Oz O5) (i5.keep λo e=>up _ o D.iz e) (j5.keep λo e=>up _ o D.jz e) T8 sz8 λc o c1 c2 c3 c4 e=>up c o c1 (k5 c o c1 c2 c3 c4 e)
end
section
variable {prog:A0}{w:AH}{A:AF}{E:Ac->Af->Prop}{s:Af}
theorem oX {tq:Ap}{z I O i j a b:Ad}{k:Aj}{p q:Ac}{Q:Fin->Af->Prop}(hh:A.handled=none)(D:ZA z I O i j)(Da:Off z O i j a)(Db:Off z O i j b)
  (hz:Hu s.heap z I O .none) (hI:DP s.heap I (.ref i) (.ref j)) (hO:DP s.heap O p q) (h1:z0 tp s.heap i a k) (h2:z0 tq s.heap j b k) (ha:zY tp s.heap a xs) (hb:zY tq s.heap b ys) (hend:xs[k]? = none\/ys[k]? = none)
  (hE:∀ h' e,cR z O i j s.heap h'->(∃ o,h'.get? e=Ab o/\o.cls=.type "StopIteration")->E (.ref e) { s with heap:=h' }) : Ao (Aq prog w) A (EH.«zip.__next__» ⟨[.ref z],[]⟩) Q E s:=by
 show Ao _ _ (field (.ref z) 2 >>= _) _ _ _;refine Ag (Bm hz rfl (x:=.bool false) rfl ?_);show Ao _ _ (field (.ref z) 3 >>= _) _ _ _;refine Ag (Bm hz rfl (x:=.ref I) rfl (Ag (DJ hI rfl ?_)));show Ao _ _ (Bv (.ref z) >>= _) _ _ _;refine Ag ?_;unfold Bv;refine Ag (Bm hz rfl (x:=.none) rfl (As ?_));simp only[Bq];refine Ag (D7 (Ag (Bm hz rfl (x:=.ref O) rfl (Ag (Ci hz (by simp) λg1 z1 s1=>?_)))))
 replace z1:Hu g1 z I O .ellipsis:=z1
 refine Ag ?_;simp only[Ih,Mm,Fc,Ft];refine Ag (Ag (HL ?_));show Ao _ _ (Bi (.ref i) >>= _) _ _ _;have it1:z0 tp g1 i a k:=h1.keep λo e=>s1.extBut _ _ D.iz e;have sq1:zY tp g1 a xs:=ha.keep λo e=>s1.extBut _ _ Da.z e;cases hx:xs[k]? with
 |none =>
  refine Ag (v7 hh it1 sq1 hx λg2 e x2 he=>?_);obtain⟨oe,h3,h4⟩:=he;have z2:Hu g2 z I O .ellipsis:=x2 _ _ D.iz.symm z1;have ne:e≠z:=λy=>by subst y;rw[z2] at h3;cases h3;simp at h4
  exact Ci z2 (by simp) λg3 _ s3=>hE g3 e (λc o c1 _ c3 _ y=>s3.extBut _ _ c1 (x2 _ _ c3 (s1.extBut _ _ c1 y))) ⟨oe,s3.extBut _ _ ne h3,h4⟩
 |some x =>
  have hy:ys[k]? = none:=by
   rcases hend with y|y
   .rw[hx] at y;cases y
   .exact y
  refine Ag (jB it1 sq1 hx λg2 i2 s2=>As ?_);have O2:DP g2 O p q:=s2.extBut _ _ D.Oi (s1.extBut _ _ D.Oz hO);refine Ag (DJ O2 rfl (Ag (Gt O2 λg3 O3 s3=>Ag (IY (As ?_)))));refine Ag (Ag (HL ?_));show Ao _ _ (Bi (.ref j) >>= _) _ _ _;refine Ag (v7 hh (h2.keep λo e=>s3.extBut _ _ D.Oj.symm (s2.extBut _ _ D.ij.symm (s1.extBut _ _ D.jz e))) (hb.keep λo e=>s3.extBut _ _ Db.O (s2.extBut _ _ Db.i (s1.extBut _ _ Db.z e))) hy λg4 e x4 he=>?_);obtain⟨oe,h3,h4⟩:=he;have z4:Hu g4 z I O .ellipsis:=x4 _ _ D.jz.symm (s3.extBut _ _ D.Oz.symm (s2.extBut _ _ D.iz.symm z1));have ne:e≠z:=λy=>by subst y;rw[z4] at h3;cases h3;simp at h4
  exact Ci z4 (by simp) λg5 _ s5=>hE g5 e (λc o c1 c2 c3 c4 y=>s5.extBut _ _ c1 (x4 _ _ c4 (s3.extBut _ _ c2 (s2.extBut _ _ c3 (s1.extBut _ _ c1 y))))) ⟨oe,s5.extBut _ _ ne h3,h4⟩
noncomputable abbrev y8 (tp:Ap)(l:Ad):AL:={ cls:=.type (if tp then "tuple_iterator" else "list_iterator"),data:=.fields #[.ref l,.int 0 0] }
noncomputable abbrev zh1 (tp:Ap)(h:A8)(a:Ad):A8:=h.push (y8 tp a)
noncomputable abbrev zh2 (tp tq:Ap)(h:A8)(a b:Ad):A8:=(zh1 tp h a).push (y8 tq b)
noncomputable abbrev zh3 (tp tq:Ap)(h:A8)(a b:Ad):A8:=(zh2 tp tq h a b).push { cls:=.type "tuple",data:=.seq #[.ref h.objs.size,.ref (zh1 tp h a).objs.size] }
noncomputable abbrev zh4 (tp tq:Ap)(h:A8)(a b:Ad):A8:=(zh3 tp tq h a b).push { cls:=.type "tuple",data:=.seq #[.none,.none] }
noncomputable abbrev zh5 (tp tq:Ap)(h:A8)(a b:Ad):A8:=(zh4 tp tq h a b).push { cls:=.type "zip",data:=.fields #[.none,.bool false,.bool false,.ref (zh2 tp tq h a b).objs.size,.ref (zh3 tp tq h a b).objs.size] }
set_option maxHeartbeats 4000000 in
theorem YC (tp:Ap)(a b:Ad)(xs ys:A6 Ac) :
  Meets (EH.«zip.__new__» ⟨[.type "zip",.ref a,.ref b],[]⟩) (λ_ R s=>zY tp s.heap a xs/\zY tp s.heap b ys/\R (.ok (.ret (.ref (zh4 tp tp s.heap a b).objs.size))) { s with heap:=zh5 tp tp s.heap a b }):=
 .of_wp λprog w A R s h=>by
  obtain⟨hp,g,d,tk,os⟩:=s;obtain⟨q1,q2,h⟩:=h;have hsub:=sub_zip;have e2:∀ ob:AL,zY tp (hp.push ob) b ys:=λob=>q2.keep λo e=>Ai _ e;cases tp
  .have l1:LW (Gn ⟨hp,g,d,tk,os⟩) a xs:=q1
   have l2:LW (Gn ⟨hp.push { cls:=.type "list_iterator",data:=.fields #[.ref a,.int 0 0] },g,d,tk,os⟩) b ys:=e2 _
   wp_walk using Do l1,Do l2
   exact⟨_,rfl,h⟩
  .have l1:Lj (Gn ⟨hp,g,d,tk,os⟩) a xs:=q1
   have l2:Lj (Gn ⟨hp.push { cls:=.type "tuple_iterator",data:=.fields #[.ref a,.int 0 0] },g,d,tk,os⟩) b ys:=e2 _
   wp_walk using D1 l1,D1 l2
   exact⟨_,rfl,h⟩
theorem j6 {h:A8}{it l:Ad}(e:h.get? it=Ab (y8 tp l)):z0 tp h it l 0:=by
 cases tp
 .exact⟨_,e,rfl,rfl⟩
 .exact⟨_,e,rfl,rfl⟩
theorem cW {a b:Ad}(ha:zY tp s.heap a xs)(hb:zY tp s.heap b ys)
  (h:∀ h',Hu h' (s.heap.objs.size+4) (s.heap.objs.size+2) (s.heap.objs.size+3) .none->DP h' (s.heap.objs.size+2) (.ref s.heap.objs.size) (.ref (s.heap.objs.size+1)) ->
   DP h' (s.heap.objs.size+3) .none .none->z0 tp h' s.heap.objs.size a 0->z0 tp h' (s.heap.objs.size+1) b 0->h'.objs.size=s.heap.objs.size+5->(∀ c o,s.heap.get? c=Ab o->h'.get? c=Ab o)->Q (.ref (s.heap.objs.size+4)) { s with heap:=h' }) :
  Ao (Aq prog w) A (call (.type "zip") [.ref a,.ref b]) Q E s:=by
 refine Ll F.called_zip (by decide) (F.typeCall_zip_2 _ _) (F.newCall_zip_2 _ _) (λobj=>F.args_object_init_3 obj _ _) F.entry_zip_new (YC tp a b xs ys) ⟨ha,hb,?_⟩
 have y1:(zh1 tp s.heap a).objs.size=s.heap.objs.size+1:=CL ..;have y2:(zh2 tp tp s.heap a b).objs.size=s.heap.objs.size+2:=by rw[CL,y1]
 have y3:(zh3 tp tp s.heap a b).objs.size=s.heap.objs.size+3:=by rw[CL,y2]
 have y4:(zh4 tp tp s.heap a b).objs.size=s.heap.objs.size+4:=by rw[CL,y3]
 have y5:(zh5 tp tp s.heap a b).objs.size=s.heap.objs.size+5:=by rw[CL,y4]
 have g5:(zh5 tp tp s.heap a b).get? (zh4 tp tp s.heap a b).objs.size=Ab _:=AB _ rfl;have g4:(zh5 tp tp s.heap a b).get? (zh3 tp tp s.heap a b).objs.size=Ab _:=Ai _ (AB _ rfl);have g3:(zh5 tp tp s.heap a b).get? (zh2 tp tp s.heap a b).objs.size=Ab _:=Ai _ (Ai _ (AB _ rfl));have g2:(zh5 tp tp s.heap a b).get? (zh1 tp s.heap a).objs.size=Ab (y8 tp b):=Ai _ (Ai _ (Ai _ (AB _ rfl)));have g1:(zh5 tp tp s.heap a b).get? s.heap.objs.size=Ab (y8 tp a):=Ai _ (Ai _ (Ai _ (Ai _ (AB _ rfl))));have kp:∀ c o,s.heap.get? c=Ab o->(zh5 tp tp s.heap a b).get? c=Ab o:=λc o e=>Ai _ (Ai _ (Ai _ (Ai _ (Ai _ e))));show _/\_;rw[y2,y3,y4] at g5;rw[y1,y2] at g3;rw[y3] at g4;rw[y1] at g2;rw[y4];exact⟨⟨_,g5,rfl⟩,h _ g5 g3 g4 (j6 g1) (j6 g2) y5 kp⟩
end
def Sq (tp:Ap)(K:Ah)(H:Hp)(a:Ad)(xs:Aa V):Prop:=if tp then SqT K H a xs else SqL K H a xs
section
variable {X:Cx}{pins:Aa (Ad × AL)}{σ : _L.St}{H:Hp}{s:Af}
theorem Sq.at {a:Ad}{xs:Aa V}(I:Inv X pins σ H s)(q:Sq tp X.K H a xs):∃ its,qK xs its/\zY tp s.heap a its.toArray:=by
 cases tp with
 |true =>
  obtain⟨its,rv,p,_⟩:=I.tuple q;exact⟨its,rv,p⟩
 |false =>
  obtain⟨its,rv,p,_⟩:=I.list q;exact⟨its,rv,p.isList⟩
theorem Sq.inj {a:Ad}{xs ys:Aa V}(I:Inv X pins σ H s)(q:Sq tp X.K H a xs)(q':Sq tp X.K H a ys):xs=ys:=by
 cases tp with
 |true=>exact I.tuple_inj q q'
 |false=>exact I.list_inj q q'
theorem Sq.off {a b:Ad}{xs:Aa V}(I:Inv X pins σ H s)(q:Sq tp X.K H a xs)(f:zS X pins H b):a≠b:=by
 have key:H a≠none\/∃ o,X.K.lookup a=Ab o:=by
  cases tp with
  |true =>
   rcases q with (q|⟨o,q⟩)|⟨o,_,_,q,_⟩
   .exact .inl (by rw[q];intro z;cases z)
   .exact .inl (by rw[q];intro z;cases z)
   .exact .inr ⟨_,q⟩
  |false =>
   rcases q with (q|⟨o,q⟩)|⟨o,_,_,q,_⟩
   .exact .inl (by rw[q];intro z;cases z)
   .exact .inl (by rw[q];intro z;cases z)
   .exact .inr ⟨_,q⟩
 rintro rfl;rcases key with k|⟨o,k⟩
 .exact k f.1
 .have e:=I.mod.kin a o k
  rcases f.2.2.2.1 with z|z
  .exact I.ok.noex a o e z
  .exact absurd (Ay (I.ok.bs a o e).1) (Ke.mpr z)
theorem Inv.turnLay {fp:Aa Ad}{T:Ad}{xs:Aa V}{its:Aa Ac}(I:Inv X pins σ H s)(hf:∀ b∈fp,zS X pins H b)(k:∀ b o,b ∉ fp->s.heap.get? b=Ab o->h'.get? b=Ab o)(th:∀ b∈fp,∃ o,h'.get? b=Ab o)
  (hT:s.heap.objs.size<=T) (rv:qK xs its) (hx:Lq h' T its.toArray) (hz:xs.length<=sizeLine):Inv X pins σ (upd H T (.tup xs)) { s with heap:=h' }:=by
 have hn:H T=none:=I.hok.fresh hT;have ne:∀ b o,s.heap.get? b=Ab o->b≠T:=λb o e=>AV (Aw (Ay e) hT);refine I.step (g':=s.gens) (d':=s.drawn) (t':=s.toks) (ch:=fp) (λb hb=>⟨(hf b hb).2.2.2.1,(hf b hb).2.1,(hf b hb).2.2.2.2.1,(hf b hb).2.2.2.2.2⟩) (λb o _ _ hc e _=>k b o hc e) (λb o _ _ hc e _=>⟨o.slots,k b o hc e⟩)
  (λb o _ e n=>by rw[qH (ne b o e)];exact n) (λb o hc e=>⟨o,k b o hc e⟩) (λb ys e=>by rw[qH (qM e hn)];exact e) (λb o u e=>by rw[qH (qM e hn)];exact e)
  (λb ps e=>⟨#[],by rw[qH (qM e hn),e];simp⟩) (λm hm=>?_) (λb u e=>?_) I.bare
 .obtain⟨o,es,ep,ho,r⟩:=hm
  exact⟨o,es,ep,k _ o (λz=>(hf _ z).2.1 rfl) ho,r⟩
 .by_cases hb:b=T
  .subst hb
   rw[qR] at e;cases e;exact⟨hz,its,rv,hx⟩
  .rw[qH hb] at e
   refine(I.hok b u e).stay (λc v hc q=>k c v (λz=>?_) q) (λc q=>by rw[qH (qM q hn)];exact q) λc ys q=>by rw[qH (qM q hn)];exact q
   have hcn:=(hf c z).1;rcases hc with rfl|hc
   .rw[hcn] at e;cases e
   .rw[hcn] at hc;cases hc
theorem Inv.turnL {fp:Aa Ad}(I:Inv X pins σ H s)(hf:∀ b∈fp,zS X pins H b)(k:∀ b o,b ∉ fp->s.heap.get? b=Ab o->h'.get? b=Ab o):Inv X pins σ H { s with heap:=h' }:=by
 refine I.step (g':=s.gens) (d':=s.drawn) (t':=s.toks) (ch:=fp) (λb hb=>⟨(hf b hb).2.2.2.1,(hf b hb).2.1,(hf b hb).2.2.2.2.1,(hf b hb).2.2.2.2.2⟩) (λb o _ _ hc e _=>k b o hc e) (λb o _ _ hc e _=>⟨o.slots,k b o hc e⟩)
  (λb o _ e n=>n) (λb o hc e=>⟨o,k b o hc e⟩) (λb ys e=>e) (λb o u e=>e) (λb ps e=>⟨#[],by rw[e];simp⟩) (λm hm=>?_) (λb u e=>?_) I.bare
 .obtain⟨o,es,ep,ho,r⟩:=hm
  exact⟨o,es,ep,k _ o (λz=>(hf _ z).2.1 rfl) ho,r⟩
 .refine(I.hok b u e).stay (λc v hc q=>k c v (λz=>?_) q) (λc q=>q) λc ys q=>q
  have hcn:=(hf c z).1;rcases hc with rfl|hc
  .rw[hcn] at e;cases e
  .rw[hcn] at hc;cases hc
end
noncomputable def Itz (tp:Ap)(K:Ah)(a b:Ad):It:=
  ⟨λi H=>∃ xs ys x y,Sq tp K H a xs/\Sq tp K H b ys/\xs[i]? = Ab x/\ys[i]? = Ab y,
   λi H v H'=>∃ T x y,v=.ref T/\H T=none/\H'=upd H T (.tup [x,y])/\(∀ xs,Sq tp K H a xs->xs[i]? = Ab x)/\∀ ys,Sq tp K H b ys->ys[i]? = Ab y,
   λi H=>∃ xs ys,Sq tp K H a xs/\Sq tp K H b ys/\(xs.length<=i\/ys.length<=i)⟩
def dB (tp:Ap)(z I O i j a b:Ad)(k:Aj)(h:A8):Prop:=∃ p q,Hu h z I O .none/\DP h I (.ref i) (.ref j)/\DP h O p q/\z0 tp h i a k/\z0 tp h j b k
theorem kF {z I O i j a b:Ad}{k:Aj}{h:A8}(st:dB tp z I O i j a b k h):∀ c∈[z,I,O,i,j],∃ o,h.get? c=Ab o/\∀ v,o.data≠.cell v:=λc hc=>by
 obtain⟨p,q,s1,s2,s3,s4,s5⟩:=st;simp only[AR,Cu,E1] at hc;rcases hc with rfl|rfl|rfl|rfl|rfl
 .exact⟨_,s1,λv y=>by cases y⟩
 .exact⟨_,s2,λv y=>by cases y⟩
 .exact⟨_,s3,λv y=>by cases y⟩
 .exact s4.there
 .exact s5.there
theorem QC {c z I O i j:Ad}(h:c ∉ [z,I,O,i,j]):c≠z/\c≠O/\c≠i/\c≠j:=by
 simp only[AR,Cu,E1,not_or] at h;exact⟨h.1,h.2.2.1,h.2.2.2.1,h.2.2.2.2⟩
theorem oS {P:A0}{w:AH}{K:Ah}{elts:Aa AE}{x1:Aj}{tpos:CD}{z I O i j a b:Ad}(D:ZA z I O i j):Turn P w K (.Tuple elts x1 tpos) (Itz tp K a b) [z,I,O,i,j] z (dB tp z I O i j a b) where
 mem:=.head _
 obj:=λk h st=>kF st
 keep:=λk h h' st kp=>by
  obtain⟨p,q,s1,s2,s3,s4,s5⟩:=st;exact⟨p,q,kp z (.head _) _ s1,kp I (.tail _ (.head _)) _ s2,kp O (.tail _ (.tail _ (.head _))) _ s3,s4.keep λo e=>kp i (.tail _ (.tail _ (.tail _ (.head _)))) o e,s5.keep λo e=>kp j (.tail _ (.tail _ (.tail _ (.tail _ (.head _))))) o e⟩
 item:=by
  intro X hP hw hK hc k pins s σ H E Iv hf st hg;subst hP hw hK;obtain⟨p,q,s1,s2,s3,s4,s5⟩:=st;obtain⟨xs,ys,x,y,qa,qb,hx,hy⟩:=hg;obtain⟨ia,ra,ha⟩:=qa.at Iv;obtain⟨ib,rb,hb⟩:=qb.at Iv;obtain⟨u,hu,ru⟩:=ra.get hx;obtain⟨u',hu',ru'⟩:=rb.get hy;have off:∀ {c:Ad} {zs:Aa V},Sq tp X.K H c zs->Off z O i j c:=λ{c zs} qc=>⟨qc.off Iv (hf z (.head _)),qc.off Iv (hf O (.tail _ (.tail _ (.head _)))),qc.off Iv (hf i (.tail _ (.tail _ (.tail _ (.head _))))),qc.off Iv (hf j (.tail _ (.tail _ (.tail _ (.tail _ (.head _))))))⟩;have hT:s.TypeIs (.ref z) "zip":=⟨_,s1,rfl⟩;unfold HW;refine Ag (Ez (Cy (name:=Eo "__next__") hT Hd (CV Hd hT LY
   (oV D (off qa) (off qb) s1 s2 s3 s4 s5 ha hb (by simpa using hu) (by simpa using hu') λh' a1 a2 a3 a4 a5 a6 a7=>As ?_) (L6 _))))
  refine⟨_,rfl,wpAny_letOwnedTupleGo_zip (s:={ s with heap:=h' }) a1 λh2 b1 b2=>?_⟩
  have up:∀ c o,c≠z->h'.get? c=Ab o->h2.get? c=Ab o:=λc o n e=>(b2.2 c n).trans e;have zl:z<s.heap.objs.size:=Ay s1;have T2:DP h2 s.heap.objs.size u u':=up _ _ (En zl) a5;have st2:dB tp z I O i j a b (k+1) h2:=⟨u,u',b1,up _ _ D.Iz (a7 I _ D.Iz D.IO D.Ii D.Ij s2),up _ _ D.Oz a2,a3.keep λo e=>up _ o D.iz e,a4.keep λo e=>up _ o D.jz e⟩;refine⟨.ref s.heap.objs.size,upd H s.heap.objs.size (.tup [x,y]),?_,rfl,⟨_,x,y,rfl,Iv.hok.fresh (Ar _),rfl,λzs qz=>by rw[qz.inj Iv qa];exact hx,λzs qz=>by rw[qz.inj Iv qb];exact hy⟩,st2,λc hc=>?_⟩
  .show _L.Inv X pins σ (upd H s.heap.objs.size (.tup [x,y])) { s with heap:=h2 }
   refine Inv.turnLay (fp:=[z,I,O,i,j]) (its:=[u,u']) Iv hf (λc o hc e=>?_) (λc hc=>?_) (Ar _) (.cons ru (.cons ru' .nil)) ⟨_,T2,rfl,_,rfl⟩ (by show 2<=sizeLine;decide)
   .have hc:=QC hc
    exact up c o hc.1 (a7 c o hc.1 hc.2.1 hc.2.2.1 hc.2.2.2 e)
   .obtain⟨o,e,_⟩:=kF st2 c hc
    exact⟨o,e⟩
  .have hn:=(hf c hc).1
   rw[qH ?_]
   .exact hn
   .rintro rfl
    obtain⟨o,e,_⟩:=kF ⟨p,q,s1,s2,s3,s4,s5⟩ _ hc;exact absurd (Ay e) (Bn _)
 done:=by
  intro X hP hw hK hc k pins s σ H E Iv hf st hg;subst hP hw hK;obtain⟨p,q,s1,s2,s3,s4,s5⟩:=st;obtain⟨xs,ys,qa,qb,hend⟩:=hg;obtain⟨ia,ra,ha⟩:=qa.at Iv;obtain⟨ib,rb,hb⟩:=qb.at Iv;have off:∀ {c:Ad} {zs:Aa V},Sq tp X.K H c zs->Off z O i j c:=λ{c zs} qc=>⟨qc.off Iv (hf z (.head _)),qc.off Iv (hf O (.tail _ (.tail _ (.head _)))),qc.off Iv (hf i (.tail _ (.tail _ (.tail _ (.head _))))),qc.off Iv (hf j (.tail _ (.tail _ (.tail _ (.tail _ (.head _))))))⟩;have hT:s.TypeIs (.ref z) "zip":=⟨_,s1,rfl⟩;have l1:=ra.length;have l2:=rb.length;unfold HW;refine Ag (Ez (Cy (name:=Eo "__next__") hT Hd (CV Hd hT LY
   (oX (Iv.ok.hd hc) D (off qa) (off qb) s1 s2 s3 s4 s5 ha hb ?_ λh' e kp he=>?_) (L6 _))))
  .rcases hend with y|y
   .exact .inl (by simp;lia)
   .exact .inr (by simp;lia)
  .obtain⟨o,ho,hcl⟩:=he
   refine Ag (LZ (T:="StopIteration") (b:=true) ⟨o,ho,hcl⟩ isSubtype_stop (As ⟨rfl,Inv.turnL (fp:=[z,I,O,i,j]) Iv hf λc o hc e=>?_⟩));have hc:=QC hc;exact kp c o hc.1 hc.2.1 hc.2.2.1 hc.2.2.2 e
 self:=λ_ _ _ _ _ st h=>by
  obtain⟨p,q,s1,_⟩:=st;exact Ma s1 h
noncomputable def vH (xs ys:Aa D):Aa D:=List.zipWith (λx y=>D.tup [x,y]) xs ys
noncomputable def G8 (ds:Aa D):Ak (Aa D):=match ds with
 |[.tup xs,.tup ys]=>Ab (vH xs ys)
 |[.lst xs,.lst ys]=>Ab (vH xs ys)
 |_=>none
noncomputable def dH (f:DA):DI:=λenv S=>(f env S).bind λds S1=>wW (G8 ds) S1
theorem oU {xs ys:Aa D}{i:Aj}:(vH xs ys)[i]? = match xs[i]?,ys[i]? with|some x,Ab y=>Ab (D.tup [x,y])|_,_=>none:=by
 unfold vH;rw[List.getElem?_zipWith];cases xs[i]? <;> cases ys[i]? <;> rfl
theorem gO (xs ys:Aa D):(vH xs ys).length=min xs.length ys.length:=by simp[vH]
section
variable {K:Ah}
theorem Sq.mono {P P':Hp}(e:qF P P'){a:Ad}{xs:Aa V}(q:Sq tp K P a xs):Sq tp K P' a xs:=by
 cases tp with
 |true=>exact w9 e q
 |false=>exact e.seq q
theorem XF {P:Hp}{a b:Ad}{xs ys:Aa D}{ws:Aa V}(qa:Sq tp K P a vs)(qb:Sq tp K P b ws)(ta:qD K P α xs vs)(tb:qD K P α ys ws):ItD K (Itz tp K a b) P α (vH xs ys) where
 go:=λi H P1 α1 S hi r e _=>by
  rw[gO] at hi;have h1:i<vs.length:=by rw[<- ta.length];lia
  have h2:i<ws.length:=by rw[<- tb.length];lia
  exact⟨vs,ws,vs[i],ws[i],qa.mono (e.trans r.sub),qb.mono (e.trans r.sub),by simp,by simp⟩
 yld:=λi H x H' P1 α1 S hi r e e2 y=>by
  obtain⟨T,u,w,rfl,hT,rfl,hu,hw⟩:=y;rw[gO] at hi;have h1:i<xs.length:=by lia
  have h2:i<ys.length:=by lia
  obtain⟨v1,z1,p1⟩:=ta.get (Ax h1);obtain⟨v2,z2,p2⟩:=tb.get (Ax h2);have eu:=hu vs (qa.mono (e.trans r.sub));have ew:=hw ws (qb.mono (e.trans r.sub));rw[z1] at eu;cases eu;rw[z2] at ew;cases ew;obtain⟨r1,s1⟩:=r.pure (o:=.tup [u,w]) hT;refine⟨_,.tup [xs[i],ys[i]],?_,r1,s1,?_⟩
  .rw[oU,Ax h1,Ax h2]
  .exact bN (.of qR) (.cons (Rep.mono (e.trans s1) e2 _ _ p1) (.cons (Rep.mono (e.trans s1) e2 _ _ p2) .nil))
 stop:=λi H P1 α1 S hi r e _=>by
  rw[gO] at hi;have l1:=ta.length;have l2:=tb.length;exact⟨vs,ws,qa.mono (e.trans r.sub),qb.mono (e.trans r.sub),by lia⟩
end
section
variable {X:Cx}{e1 e2:AE}{elts:Aa AE}{x1:Aj}{tpos:CD}{f:DA}{p pos:CD}
theorem cO {pins:Aa (Ad × AL)}{σ:_L.St}{H P:Hp}{s:Af}{a b:Ad}{xs ys:Aa D}{ws:Aa V}(I:Inv X pins σ H s)(r:Rel X.K H P α S)(qa:Sq tp X.K P a vs)(qb:Sq tp X.K P b ws)(ta:qD X.K P α xs vs)(tb:qD X.K P α ys ws)
  (q:OkI X P α R (vH xs ys) S):Ao (Aq X.prog X.w) X.A (call (.type "zip") [.ref a,.ref b]) (λv s1=>Ao (Aq X.prog X.w) X.A (HX v) (PIE X pins σ (.Tuple elts x1 tpos) R) X.xe s1) X.xe s:=by
 obtain⟨ia,ra,ha⟩:=(qa.mono r.sub).at I;obtain⟨ib,rb,hb⟩:=(qb.mono r.sub).at I;refine cW ha hb λh' z1 z2 z3 z4 z5 z6 z7=>?_;refine Ma (s:={ s with heap:=h' }) z1 ?_
 have D:ZA (s.heap.objs.size+4) (s.heap.objs.size+2) (s.heap.objs.size+3) s.heap.objs.size (s.heap.objs.size+1):=by constructor <;> (intro z;simp at z)
 refine⟨_,[s.heap.objs.size+4,s.heap.objs.size+2,s.heap.objs.size+3,s.heap.objs.size,s.heap.objs.size+1],_,_,H,rfl,I.kept (t':=s.toks) z7,oS (a:=a) (b:=b) D,⟨_,_,z1,z2,z3,z4,z5⟩,λc hc=>?_,q _ _ P α r (qF.refl _) (A3 _) (XF qa qb ta tb)⟩;have hl:s.heap.objs.size<=c:=by
  simp only[AR,Cu,E1] at hc;rcases hc with rfl|rfl|rfl|rfl|rfl <;> simp
 exact I.fpOk hl (I.hok.fresh hl)
inductive ZipV (ds:Aa D)(its:Aa D):Prop
 |tup (xs ys:Aa D) (ed:ds=[.tup xs,.tup ys]) (e:its=vH xs ys)
 |lst (xs ys:Aa D) (ed:ds=[.lst xs,.lst ys]) (e:its=vH xs ys)
theorem YB (h:G8 ds=Ab its):ZipV ds its:=by
 cases ds with
 |nil=>exact nn h
 |cons a ds =>
  cases a with
  |tup xs =>
   cases ds with
   |nil=>exact nn h
   |cons b ds =>
    cases b with
    |tup ys =>
     cases ds with
     |nil=>exact .tup xs ys rfl (AQ h).symm
     |cons _ _=>exact nn h
    |_=>exact nn h
  |lst xs =>
   cases ds with
   |nil=>exact nn h
   |cons b ds =>
    cases b with
    |lst ys =>
     cases ds with
     |nil=>exact .lst xs ys rfl (AQ h).symm
     |cons _ _=>exact nn h
    |_=>exact nn h
  |_=>exact nn h
theorem VE (hg:Gl X "zip")(hm:X.mg "zip" = none)(ha:PA X [e1,e2] (tDA X f))(hs:Av [e1,e2] X.env=(false,eval e1 X.env)::Av [e2] X.env:=by rfl)(hpl:(CB pos (Av [e2] X.env)).any (·.1)=false:=by rfl) :
  PI X (.Tuple elts x1 tpos) (.Call (.Name "zip" p) [e1,e2] [] pos) (tDI X (dH f)):=by
 intro pins s σ H R I h;obtain⟨P,α,env,S,r,re,af⟩:=h;refine Nq (xX I hg hm boot_zip (Cn (thn (xB ha I r re af pos) λus s1 ⟨vs,H1,P1,α1,ds,S1,I1,rv,r1,re1,rp,e1,e2,af1⟩=>?_) hs hpl));obtain⟨its,hi,q⟩:=wX af1;cases YB hi with
 |tup xs ys ed e =>
  subst ed e;obtain⟨v,w,u,x,rfl,rfl,p1,p2,q1,q2⟩:=kR rp rv;simp only[Rep] at p1 p2;obtain⟨a,va,rfl,qa,ta⟩:=p1;obtain⟨b,vb,rfl,qb,tb⟩:=p2;cases (show u=AN a from q1)
  cases (show x=AN b from q2)
  exact cO (tp:=true) I1 r1 qa qb ta tb (q.base e1 e2)
 |lst xs ys ed e =>
  subst ed e;obtain⟨v,w,u,x,rfl,rfl,p1,p2,q1,q2⟩:=kR rp rv;simp only[Rep] at p1 p2;obtain⟨a,va,rfl,qa,ta⟩:=p1;obtain⟨b,vb,rfl,qb,tb⟩:=p2;cases (show u=AN a from q1)
  cases (show x=AN b from q2)
  exact cO (tp:=false) I1 r1 qa.l qb.l ta tb (q.base e1 e2)
end
def Src (K:Ah)(mg:An->Ak Ac)(x:An)(st:Ca)(ps:Aa An):Prop:=∃ f fd,mg x=Ab (.ref f)/\Fun K x x st f fd/\wC K fd ps []
def Lk (K:Ah)(f:Ad)(fd:CF):Prop:=∃ oc od osl,K.lookup f=Ab ⟨oc,od,.func fd,osl⟩
theorem kN {K:Ah}{x q:An}{st:Ca}{f:Ad}{fd:CF}(F:Fun K x q st f fd):Lk K f fd:=by
 obtain⟨oc,od,kV,doc,pm,an,cdv,ct,osl,_,lk,_⟩:=F.ex;exact⟨oc,od,osl,lk⟩
theorem Lk.one {K:Ah}{f:Ad}{fd fd':CF}(h:Lk K f fd)(h':Lk K f fd'):fd=fd':=by
 obtain⟨oc,od,osl,e⟩:=h;obtain⟨oc',od',osl',e'⟩:=h';rw[e] at e';cases e';rfl
noncomputable def Def (P:A0)(w:AH)(K:Ah)(mg:An->Ak Ac)(base:A8)(cm:Ap)(k:Aj)(x:An)(n:Aj)(F:DF):Prop:=
 ∃ f fd ps,ps.length=n/\mg x=Ab (.ref f)/\Bz K (.ref f)=true/\wC K fd ps [] /\ Lk K f fd/\FnX P w K mg base cm k f fd ps (spD K n F)
def fY (P:A0)(w:AH)(K:Ah)(mg:An->Ak Ac)(base:A8)(cm:Ap)(k:Aj)(x:An)(ps:Aa An)(F:DF):Prop:=
 ∃ f fd,mg x=Ab (.ref f)/\Bz K (.ref f)=true/\wC K fd ps [] /\ Lk K f fd/\FnX P w K mg base cm k f fd ps (spD K ps.length F)
section
variable {P:A0}{w:AH}{K:Ah}{mg:An->Ak Ac}{base:A8}{cm:Ap}
theorem Q1 {x:An}{f:Ad}{fd:CF}{cdv:Ac}(hm:mg x=Ab (.ref f))(lk:Lk K f fd)(h:fd.code=cdv/\Mod K mg base):uL K x cdv:=λc T e=>by
 obtain⟨oc,od,osl,lk⟩:=lk;rw[<- h.1];exact PySem.W.law_code h.2.kin h.2.glob e hm (h.2.kin _ _ lk) rfl
theorem VA {x:An}{st:Ca}{ps:Aa An}{k:Aj}{g:DS}(h:Src K mg x st ps)(S:FnScope N ps (qG st))
  (hbody:∀ (f:Ad) (cdv:Ac) (A:AF) (outer:Aa DD) (s:Af) (H:Hp) (E:XK),uL K x cdv->RoomC cm k (A.deeper (CY x (qG st) s.heap.objs.size f cdv)) ->
   PSs (cxC cm P w K mg base N x (qG st) f cdv A outer s H E) (zB st) (tDS (cxC cm P w K mg base N x (qG st) f cdv A outer s H E) g)):Def P w K mg base cm (k+1) x ps.length (qW N.length g):=by
 obtain⟨f,fd,hm,F,hb⟩:=h;exact⟨f,fd,ps,rfl,hm,F.kp,hb,kN F,fnX F S λcdv A outer s H E hc hr=>hbody f cdv A outer s H E (Q1 hm (kN F) hc) hr⟩
theorem ZO {x:An}{st:Ca}{ps:Aa An}{k:Aj}{g:DS}(h:Src K mg x st ps)(S:FnScope N ps (qG st))
  (hbody:∀ (f:Ad) (cdv:Ac) (A:AF) (outer:Aa DD) (s:Af) (H:Hp) (E:XK),uL K x cdv->RoomC cm k (A.deeper (CY x (qG st) s.heap.objs.size f cdv)) ->
   PSs (cxC cm P w K mg base N x (qG st) f cdv A outer s H E) (zB st) (tDS (cxC cm P w K mg base N x (qG st) f cdv A outer s H E) g)):fY P w K mg base cm (k+1) x ps (qW N.length g):=by
 obtain⟨f,fd,hm,F,hb⟩:=h;exact⟨f,fd,hm,F.kp,hb,kN F,fnX F S λcdv A outer s H E hc hr=>hbody f cdv A outer s H E (Q1 hm (kN F) hc) hr⟩
theorem Def.any {x:An}{k n:Aj}{F:DF}(h:Def P w K mg base false k x n F):Def P w K mg base cm k x n F:=by
 obtain⟨f,fd,ps,hn,hm,kp,hb,hl,X⟩:=h;exact⟨f,fd,ps,hn,hm,kp,hb,hl,X.any⟩
end
section
variable {X:Cx}{cm:Ap}{k n:Aj}{F:DF}{x:An}{p pos:CD}{e:AE}{es:Aa AE}{fa:DA}
theorem dcN (G:Def X.prog X.w X.K X.mg X.base cm k x n F)(hr:RoomC cm k X.A)(hF:Fn1 X)(hg:Gl X x)(ha:PA X (e::es) (tDA X fa))(hdb:(x == ("__debug__" : An))=false:=by decide)(he:Av (e::es) X.env=(false,eval e X.env)::Av es X.env:=by rfl)(hpl:(CB pos (Av es X.env)).any (·.1)=false:=by rfl) :
  PE X (.Call (.Name x p) (e::es) [] pos) (tD X (qN n F fa)):=by
 obtain⟨f,fd,ps,hn,hm,kp,hb,hl,G⟩:=G;exact ZH G hr hF hg hm kp hb ha hdb he hpl
theorem dcL (G:Def X.prog X.w X.K X.mg X.base cm k x n F)(hr:RoomC cm k X.A)(hF:Fn1 X)(hg:Gl X x)(ha:PA X (e::es) (tDA X fa))(hdb:(x == ("__debug__" : An))=false:=by decide)(he:Av (e::es) X.env=(false,eval e X.env)::Av es X.env:=by rfl)(hpl:(CB pos (Av es X.env)).any (·.1)=false:=by rfl) :
  PE X (.Call (.Name x p) (e::es) [] pos) (tD X (qN n (vP F) fa)):=by
 obtain⟨f,fd,ps,hn,hm,kp,hb,hl,G⟩:=G;exact aG G hr hF hg hm kp hb ha hdb he hpl
theorem V0 (hg:Gl X x)(hm:X.mg x=Ab (.ref C))(hk:Bz X.K (.ref C)=true)(hd:(x == ("__debug__" : An))=false:=by decide):PE X (.Name x pos) (tD X (dC (.obj C))):=
 nX hg hm (v:=.ref C) rfl (λP α => by simp only[Rep];exact⟨trivial,hk⟩) hd
end
noncomputable def xY:DF:=λds S=>match ds with
 |[.dct0]=>.bad
 |_=>mX ds S
theorem Z7 {X:Cx}:xS X (.builtin "len") xY:=YO trivial
noncomputable def jU:DE:=λ_ _=>.bad
theorem YZ {X:Cx}{e:AE}:PE X e (tD X jU):=λ_ _ _ _ _ _ ⟨_,_,_,_,_,_,h⟩=>Al h
theorem Q0:∃ C:Am->Am->Ap,C=mD:=⟨_,rfl⟩
def oZ:Am->Am->Ap:=Ig Q0
theorem mE:oZ=mD:=Gm Q0
def yJ:G2:=i2 oZ λi j=>.int (i*j)
theorem W1 {X:Cx}:OpD X (CC .Mult) yJ:=by
 unfold yJ;rw[mE];exact W0
theorem hu1 {cm:Ap}{k:Aj}{A:AF}(hr:RoomC cm k A):A.units+1<D3:=by have:=hr.units;lia
theorem YK:Cw "len" = Ab (.builtin "len"):=by decide +kernel
noncomputable def okO (F:DF):DF:=λds S=>match F ds S with
 |.ok d S'=>.ok d S'
 |_=>.bad
theorem p8 {F:DF}{S':Sto}{d:D}(h:F ds S=.ok d S'):okO F ds S=.ok d S':=by unfold okO;rw[h]
section
variable {X:Cx}{cm:Ap}{k n:Aj}{F:DF}{x:An}{p pos:CD}{e:AE}{es:Aa AE}{fa:DA}{f:Ad}{fd:CF}{ps:Aa An}
theorem WY {pins:Aa (Ad × AL)}{σ:_L.St}{H:Hp}{s:Af}{Q:VK}{us:Aa Ac}{P:Hp}(G:FnX X.prog X.w X.K X.mg X.base cm k f fd ps (spD X.K n F))(hr:RoomC cm k X.A)(hb:wC X.K fd ps [])
  (I:Inv X pins σ H s) (r:Rel X.K H P α S) (rv:qK vs us) (rp:qD X.K P α ds vs) (hn:ds.length=n) (af:qP X P α (okO F ds S) Q):Ao (Aq X.prog X.w) X.A (call (.ref f) us) (EP X pins σ Q) X.xe s:=by
 have hvn:vs.length=n:=by rw[<- rp.length];exact hn
 have hsp:spD X.K n F vs H Q λ_ _ _=>Cp:=by
  refine⟨hvn,P,α,ds,S,r,rp,?_⟩;unfold okO at af;cases q:F ds S with
  |ok d S'=>rw[q] at af;exact af
  |ex c x S'=>rw[q] at af;exact Al af
  |bad=>rw[q] at af;exact af
 have hl:us.length=ps.length:=by rw[<- rv.length];exact G.len _ _ _ _ hsp
 have hb':=hb s us I.kIn (by rw[CG];exact hl)
 rw[CG] at hb';refine Kf (Hk (G.run X.A X.stack s H ⟨us,[]⟩ us vs Q _ hr I.env0 hb' rv hsp) λr s' hq=>?_);cases r with
 |error u =>
  obtain⟨_,_,_,_,_,_,_,_,_,_,_,_,z⟩:=hq;exact Al z
 |ok fl =>
  cases fl with
  |ret u=>exact I.after hq
  |next=>exact Al hq
  |brk=>exact Al hq
  |cont=>exact Al hq
theorem dcO (G:Def X.prog X.w X.K X.mg X.base cm k x n F)(hr:RoomC cm k X.A)(hg:Gl X x)(ha:PA X (e::es) (tDA X fa))(hdb:(x == ("__debug__" : An))=false:=by decide)(he:Av (e::es) X.env=(false,eval e X.env)::Av es X.env:=by rfl)(hpl:(CB pos (Av es X.env)).any (·.1)=false:=by rfl) :
  PE X (.Call (.Name x p) (e::es) [] pos) (tD X (qN n (okO F) fa)):=by
 obtain⟨f,fd,ps,hn0,hm,hk,hb,hl,G⟩:=G;intro pins s σ H Q I h;obtain⟨P,α,env,S,r,re,af⟩:=h;refine Dh (wV I hg hm ?_ hdb);refine Fi (h₀:=X.base) I.ok.mod.kin hk (thn (xB ha I r re af pos) λus s1 ⟨vs,H1,P1,α1,ds,S1,I1,rv,r1,re1,rp,e1,e2,af1⟩=>⟨I1.kIn,?_⟩) he hpl;obtain⟨hn,af2⟩:=jX (env:=env) (S:=S) af1;exact WY G hr hb I1 r1 rv rp hn (qP.base e1 e2 af2)
end
structure QE (X:Cx)(e:AE)(f:DE):Prop where
 get:PE X e (tD X f)
structure QT (X:Cx)(e:AE)(t:DT):Prop where
 get:PT X e (tDT X t)
structure QW (X:Cx)(e:AE)(t:DT):Prop where
 get:PWD X e t
structure QA (X:Cx)(es:Aa AE)(f:DA):Prop where
 get:PA X es (tDA X f)
structure QO (X:Cx)(e:Ak AE)(f:DO):Prop where
 get:PO X e (tDO X f)
structure QG (X:Cx)(t:AE)(g:DG):Prop where
 get:PG X t (tDG X g)
structure QGs (X:Cx)(ts:Aa AE)(g:DGs):Prop where
 get:PGs X ts (tU X g)
structure QI (X:Cx)(tg it:AE)(f:DI):Prop where
 get:PI X tg it (tDI X f)
structure QS (X:Cx)(s:Ca)(f:DS):Prop where
 get:PS X s (tDS X f)
structure QB (X:Cx)(ss:Aa Ca)(f:DS):Prop where
 get:PSs X ss (tDS X f)
structure QJ (X:Cx)(es:Aa AE)(fs:Aa DE):Prop where
 get:PJ X es fs
structure ZOp (X:Cx)(f:Ac->Ac->EE Ac)(g:G2):Prop where
 get:OpD X f g
structure ZUn (X:Cx)(f:Ac->EE Ac)(g:D->Sto->Res D):Prop where
 get:UnD X f g
structure ZIx (X:Cx)(g:G2):Prop where
 get:IxD X g
structure ZCall (X:Cx)(f:Ac)(F:DF):Prop where
 get:xS X f F
structure ZMt (X:Cx)(id:Bg)(g:D->Aa D->Sto->Res D):Prop where
 get:MtD X id g
structure ZIp (X:Cx)(op:Fz)(g:G2):Prop where
 get:IpD X op g
structure ZSet (X:Cx)(g:G3):Prop where
 get:fZ X (fX X g)
structure ZPass (X:Cx):Prop where
 get:Gy (Aq X.prog X.w) X.A X.env X.xe
section
variable {X:Cx}{a b c e e1 e2 o i:AE}{es rest:Aa AE}{fa fb fc fe fo fi:DE}{ta tb:DT}{fA:DA}{f g:DS}{st:Ca}{sts:Aa Ca}{x:An}{p pos:CD}{n k:Aj}{cm:Ap}{F:DF}{G2':G2}
theorem eY:QE X (.Constant .none j pos) (dC .non):=⟨V5⟩
theorem QQ:QE X (.Constant (.bool v) j pos) (dC (.bl v)):=⟨GE⟩
theorem JR:QE X (.Constant (.int v) j pos) (dC (.int v)):=⟨V3⟩
theorem JU:QE X (.Constant (.str v) j pos) (dC (.str v)):=⟨V8⟩
theorem JV (m:Aj)(hN:X.N[m]? = Ab x)(hv:Vis X.env.scope x)(hd:(x == ("__debug__" : An))=false)(hcd:(x == ("__classdict__" : An))=false):QE X (.Name x pos) (qB m):=⟨dv m hN hv hd hcd⟩
theorem WE {nm:Bg}(hg:Gl X x)(hm:X.mg x=none)(hv:Cw x=Ab (.type nm))(hn:x ≠ "__name__")(hd:(x == ("__debug__" : An))=false):QE X (.Name x pos) (dC (.ty nm)):=⟨ZG hg hm hv hn hd⟩
theorem JP (hg:Gl X x)(hm:X.mg x=Ab (.ref C))(hk:Bz X.K (.ref C)=true)(hd:(x == ("__debug__" : An))=false):QE X (.Name x pos) (dC (.obj C)):=⟨V0 hg hm hk hd⟩
theorem WH {v:Am}(hg:Gl X x)(hm:∃ t,X.mg x=Ab (.int v t))(hd:(x == ("__debug__" : An))=false):QE X (.Name x pos) (dC (.int v)):=⟨let ⟨_,h⟩:=hm;nX (v:=.int v) hg h ⟨_,rfl⟩ (λ_ _=>by simp only[Rep]) hd⟩
theorem JO:QE X e jU:=⟨YZ⟩
theorem BC {op:UnaryOp}{h:D->Sto->Res D}(ho:ZUn X (LH op) h)(ha:QE X a fa):QE X (.UnaryOp op a pos) (d1 h fa):=⟨GJ ho.1 ha.1⟩
theorem JT (ha:QE X a fa):QE X (.UnaryOp .Not a pos) (aD fa):=⟨V6 ha.1⟩
theorem BB {op:Fz}(ho:ZOp X (CC op) G2')(ha:QE X a fa)(hb:QE X b fb):QE X (.BinOp a op b pos) (d2 G2' fa fb):=⟨GI ho.1 ha.1 hb.1⟩
theorem eX {op:Mj}(ho:ZOp X (Cd op) G2')(ha:QE X a fa)(hb:QE X b fb)(hm:ER op b=false:=by first|exact uF _|with_unfolding_all rfl):QE X (.Compare a [op] [b] pos) (d2 G2' fa fb):=⟨V1 ho.1 ha.1 hb.1 hm⟩
theorem oA {op op':Mj}{g':G2}(ho:ZOp X (Cd op) G2')(ho':ZOp X (Cd op') g')(ha:QE X a fa)(hb:QE X b fb)(hc:QE X c fc)(hm:lastMarks [op,op'] [b,c]=false:=by with_unfolding_all rfl):QE X (.Compare a [op,op'] [b,c] pos) (jV G2' g' fa fb fc):=⟨aH ho.1 ho'.1 ha.1 hb.1 hc.1 hm⟩
theorem eZ  (h:QE X a fa):QE X (.BoolOp op [a] pos) fa:=⟨V7 h.1⟩
theorem eV (ha:QE X a fa)(hb:QE X (.BoolOp .And (b::rest) pos) fb):QE X (.BoolOp .And (a::b::rest) pos) (gE fa fb):=⟨YY ha.1 hb.1⟩
theorem h8  (h:QA X es fA):QE X (.Tuple es x1 pos) (xC fA):=⟨V9 h.1⟩
theorem JS (h:QA X es fA):QE X (.List es pos) (xJ fA):=⟨V4 h.1⟩
theorem WJ (h:QA X es fA):QE X (.List es pos) (gQ fA):=⟨ZL h.1⟩
theorem WG:QE X (.Dict [] [] pos) fP:=⟨ZJ⟩
theorem BA (ho:ZIx X G2')(ha:QE X a fa)(hb:QE X b fb)(hs:pN b:=by intro _ _;rfl):QE X (.Subscript a b pos) (d2 G2' fa fb):=⟨GG ho.1 ha.1 hb.1 hs⟩
theorem oC {lo hi:Ak AE}{fl fh:DO}{p2:CD}(he:QE X e fe)(hl:QO X lo fl)(hu:QO X hi fh):QE X (.Subscript e (.Slice lo hi none p2) pos) (dSl fe fl fh):=⟨aJ he.1 hl.1 hu.1⟩
theorem WO:QO X none mR:=⟨ZT⟩
theorem WQ (he:QE X e fe):QO X (Ab e) (yD fe):=⟨ZU he.1⟩
theorem JQ (he:QE X e fe):QE X (.FormattedValue e (-1) none pos) (d1 vY fe):=⟨V2 he.1⟩
theorem JZ:QJ X [] []:=⟨JJ⟩
theorem WN {fs:Aa DE}(he:QE X e fe)(hr:QJ X es fs):QJ X (e::es) (fe::fs):=⟨W8 he.1 hr.1⟩
theorem WI {fs:Aa DE}(h:QJ X (e1::e2::rest) fs):QE X (.JoinedStr (e1::e2::rest) pos) (fR fs):=⟨ZK h.1⟩
theorem eS:QA X [] qC:=⟨YV⟩
theorem lG (ha:QE X e fa)(hr:QA X es fA)(hs:Av (e::es) X.env=(false,eval e X.env)::Av es X.env:=by rfl):QA X (e::es) (qA fa fA):=⟨ZE ha.1 hr.1 hs⟩
theorem qcN (G:Def X.prog X.w X.K X.mg X.base cm k x n F)(hr:RoomC cm k X.A)(hF:Fn1 X)(hg:Gl X x)(ha:QA X (e::es) fA)(hdb:(x == ("__debug__" : An))=false)(he:Av (e::es) X.env=(false,eval e X.env)::Av es X.env:=by rfl)(hpl:(CB pos (Av es X.env)).any (·.1)=false:=by rfl):QE X (.Call (.Name x p) (e::es) [] pos) (qN n F fA):=⟨dcN G hr hF hg ha.1 hdb he hpl⟩
theorem qcL (G:Def X.prog X.w X.K X.mg X.base cm k x n F)(hr:RoomC cm k X.A)(hF:Fn1 X)(hg:Gl X x)(ha:QA X (e::es) fA)(hdb:(x == ("__debug__" : An))=false)(he:Av (e::es) X.env=(false,eval e X.env)::Av es X.env:=by rfl)(hpl:(CB pos (Av es X.env)).any (·.1)=false:=by rfl):QE X (.Call (.Name x p) (e::es) [] pos) (qN n (vP F) fA):=⟨dcL G hr hF hg ha.1 hdb he hpl⟩
theorem o9 {id:Bg}(hc:ZCall X (.builtin id) F)(hg:Gl X x)(hm:X.mg x=none)(hv:Cw x=Ab (.builtin id))(ha:QA X (e::es) fA)(hn:x ≠ "__name__")(hdb:(x == ("__debug__" : An))=false)(he:Av (e::es) X.env=(false,eval e X.env)::Av es X.env:=by rfl)(hpl:(CB pos (Av es X.env)).any (·.1)=false:=by rfl):QE X (.Call (.Name x p) (e::es) [] pos) (qO F fA):=⟨aE hc.1 hg hm hv ha.1 hn hdb he hpl⟩
theorem eW {T:Bg}(hc:ZCall X (.type T) F)(hg:Gl X x)(hm:X.mg x=none)(hv:Cw x=Ab (.type T))(ha:QA X (e::es) fA)(hn:x ≠ "__name__")(hdb:(x == ("__debug__" : An))=false)(he:Av (e::es) X.env=(false,eval e X.env)::Av es X.env:=by rfl)(hpl:(CB pos (Av es X.env)).any (·.1)=false:=by rfl):QE X (.Call (.Name x p) (e::es) [] pos) (qO F fA):=⟨rF hc.1 hg hm hv ha.1 hn hdb he hpl⟩
theorem sF {T id:Bg}{name:An}{apos:CD}{h:D->Aa D->Sto->Res D}(pa:PlainAttrs T)(slot:Slot T name id)(hty:typeOf (.builtin id)=pure (.type "method_descriptor"))(hT:T = "list" \/ T = "dict" \/ T = "int" \/ T = "str")(hm:ZMt X id h)(ho:QE X o fo)(ha:QA X (e::es) fA)
  (hbase:attributeBase o name X.env (eval o X.env)=eval o X.env:=by rfl)
  (hfew:((CB pos (Av (e::es) X.env)).all (λx=>!x.1)&&(backToKw pos (keywordEach [] X.env)).all (λx=>x.1.isSome)&&decide ((e::es).length+([]:Aa Nv).length+(if ([] : Aa Nv).isEmpty then 0 else 1)<30))=true:=by rfl)
  (hline:(apos.endLine == pos.line)=true:=by rfl) (hs:Av (e::es) X.env=(false,eval e X.env)::Av es X.env:=by rfl) (hplain:(CB pos (Av es X.env)).any (·.1)=false:=by rfl):QE X (.Call (.Attribute o name apos) (e::es) [] pos) (dBm T h fo fA):=⟨GF pa slot hty hT hm.1 ho.1 ha.1 hbase hfew hline hs hplain⟩
theorem QU (h:QW X e ta):QT X e ta:=⟨PWD.pt h.1⟩
theorem pD (ha:QT X a ta):QW X (.BoolOp .Or [a] pos) ta:=⟨VS ha.1⟩
theorem fV (ha:QT X a ta)(hb:QW X (.BoolOp .Or (b::rest) pos) tb):QW X (.BoolOp .Or (a::b::rest) pos) (mP ta tb):=⟨GS ha.1 hb.1⟩
theorem K5 (ha:QT X a ta):QT X (.UnaryOp .Not a pos) (vL ta):=⟨VQ ha.1⟩
theorem hX {op:Mj}(ho:ZOp X (Cd op) G2')(ha:QE X a fa)(hb:QE X b fb)(hm:ER op b=false:=by first|exact uF _|with_unfolding_all rfl):QT X (.Compare a [op] [b] pos) (dTr (d2 G2' fa fb)):=⟨VP ho.1 ha.1 hb.1 hm⟩
theorem hZ (ha:QE X a fa)(he:∀ whole,isTrue a X.env whole=(do let v <- whole;II a.pos;holding [v] (truthy v)):=by intro _;rfl):QT X a (dTr fa):=⟨VR ha.1 he⟩
theorem WL (hN:X.N.Nodup)(hi:X.N[m]? = Ab x)(hx:Loc X.env.scope x)(hf:X.fn x=true\/X.env.scope.names.lookup x=Ab .local):QG X (.Name x pos) (gNm m):=⟨ZP hN hi hx hf⟩
theorem lH:QGs X [] uW:=⟨ZQ⟩
theorem tI {h:DG}{gs:DGs}(h1:QG X e h)(h2:QGs X es gs)(hs:(Di (e::es) X.env).map (·.2)=assign e X.env::(Di es X.env).map (·.2):=by rfl):QGs X (e::es) (xN h gs):=⟨aK h1.1 h2.1 hs⟩
theorem h9 {kk:Aj}{gs:DGs}(hc:X.calm=true)(h:QGs X es gs)(hn:(Di es X.env).length=n:=by rfl)(hst:(Di es X.env).findIdx? (·.1)=none:=by rfl):QG X (.Tuple es kk pos) (gTp n gs):=⟨VC hc h.1 hn hst⟩
theorem JW {h:G3}(ho:QE X o fo)(hi:QE X i fi)(hs:ZSet X h)
  (ha:∀ v,assign (.Subscript o i pos) X.env v=(do
   let ov <- holding [v] (eval o X.env)
   let iv <- holding [v,ov] (eval i X.env)
   II pos
   holding [v,ov,iv] (Nm ov iv v)
   release [v,ov,iv] []):=by intro _;rfl):QG X (.Subscript o i pos) (gSb fo fi h):=⟨VB ho.1 hi.1 hs.1 ha⟩
theorem JY {tg:AE}(ha:QE X e fa):QI X tg e (yC fa):=⟨VD ha.1⟩
theorem oD {tg:AE}(hg:Gl X "range")(hm:X.mg "range" = none)(ha:QA X (e::es) fA)(hs:Av (e::es) X.env=(false,eval e X.env)::Av es X.env:=by rfl)(hpl:(CB pos (Av es X.env)).any (·.1)=false:=by rfl):QI X tg (.Call (.Name "range" p) (e::es) [] pos) (gF fA):=⟨aM hg hm ha.1 hs hpl⟩
theorem hV {elts:Aa AE}{x1:Aj}{tpos:CD}(hg:Gl X "zip")(hm:X.mg "zip" = none)(ha:QA X [e1,e2] fA)(hs:Av [e1,e2] X.env=(false,eval e1 X.env)::Av [e2] X.env:=by rfl)(hpl:(CB pos (Av [e2] X.env)).any (·.1)=false:=by rfl):QI X (.Tuple elts x1 tpos) (.Call (.Name "zip" p) [e1,e2] [] pos) (dH fA):=⟨VE hg hm ha.1 hs hpl⟩
theorem eU:QB X [] zR:=⟨VJ⟩
theorem pC (h:QS X st f):QB X [st] f:=⟨VL h.1⟩
theorem kQ (h1:QS X st f)(h2:QB X sts g):QB X (st::sts) (qT f g):=⟨ZV h1.1 h2.1⟩
theorem WR (he:QE X e fa)(hs:Fw e none pos.line X.env=pure false:=by rfl):QS X (.Expr e pos) (yA fa):=⟨ZW he.1 hs⟩
theorem hW (he:QE X e fa):QS X (.Return (Ab e) pos) (z9 fa):=⟨VM he.1⟩
theorem QR {as bs:Aa Ca}(hc:QT X c ta)(ha:QB X as f)(hb:QB X bs g):QS X (.If c as bs pos) (sIf ta f g):=⟨GP hc.1 ha.1 hb.1⟩
theorem oG (hp:ZPass X)(hc:QT X c ta)(hb:QB X body f):QS X (.While c body [] pos) (kD ta f):=⟨aS hp.1 hc.1 hb.1⟩
theorem K2 {tg iter:AE}{fI:DI}{h:DG}(hp:ZPass X)(hc:X.calm=true)(hi:QI X tg iter fI)(hg:QG X tg h)(hb:QB X body f)(hs:∀ x,Cc iter X.env x=pure x:=by intro _;rfl):QS X (.For tg iter body [] pos) (jF fI h f):=⟨VI hp.1 hc hi.1 hg.1 hb.1 hs⟩
theorem K3 {pos':CD}(hN:X.N.Nodup)(he:QE X e fa)(hi:X.N[m]? = Ab x)(hx:Loc X.env.scope x)(hs:Fw e (Ab (.Name x pos')) pos.line X.env=pure false)(hf:X.fn x=true\/X.env.scope.names.lookup x=Ab .local):QS X (.Assign [.Name x pos'] e pos) (zA fa (gNm m)):=⟨VN hN he.1 hi hx hs hf⟩
theorem K0 {tg:AE}{h:DG}(he:QE X e fa)(hg:QG X tg h)(hs:swapsWithSole [tg] e pos.line X.env=pure false:=by rfl)(hw:swappedStores [tg] e X.env=pure none:=by rfl)(h1:(Di [tg] X.env).map (·.2)=[assign tg X.env]:=by rfl):QS X (.Assign [tg] e pos) (zA fa h):=⟨VG he.1 hg.1 hs hw h1⟩
theorem K1 {op:Fz}{pos':CD}(hN:X.N.Nodup)(he:QE X e fe)(ho:ZIp X op G2')(hi:X.N[m]? = Ab x)(hx:Loc X.env.scope x)(hf:X.fn x=true\/X.env.scope.names.lookup x=Ab .local):QS X (.AugAssign (.Name x pos') op e pos) (kB m G2' fe):=⟨VH hN he.1 ho.1 hi hx hf⟩
theorem oF {Ae:Ad}{np cpos:CD}(hc:X.calm=true)(hF:Fn1 X)(hg:Gl X x)(hm:X.mg x=Ab (.ref C))(hx:gD X.K C Ae=true)(ha:QA X (e::rest) fA)(hdb:(x == ("__debug__" : An))=false)(he:Av (e::rest) X.env=(false,eval e X.env)::Av rest X.env:=by rfl)(hpl:(CB cpos (Av rest X.env)).any (·.1)=false:=by rfl) :
  QS X (.Raise (Ab (.Call (.Name x np) (e::rest) [] cpos)) none pos) (uI (.ref C) fA):=⟨aR hc hF hg hm hx ha.1 hdb he hpl⟩
theorem K4 {nm:An}{C0:Ad}{b₀:Ca}{suite:Aa Ca}{np hpos:CD}{cs:Aa Ac}(hF:Fn1 X)(hb:∀ E pn,ZPass (Cx.tryIn X E pn)->QB (Cx.tryIn X E pn) body f)(hs:∀ e,QB (Cx.suite X e) (b₀::suite) g)(hg:Gl X x)(hm:X.mg x=Ab (.ref C0))(hcs:∀ c∈cs,Eh X.K c (.ref C0)=Ab true)(hN:X.N.Nodup)(hi:X.N[m]? = Ab nm)(hlo:X.env.scope.names.lookup nm=Ab .local)(hdb:(x == ("__debug__" : An))=false)(hn:X.N.length=n) :
  QS X (.Try body [.ExceptHandler (Ab (.Name x np)) (Ab nm) (b₀::suite) hpos] [] [] pos) (gM n m cs f g):=⟨hn▸VO hF (λE pn hp=>(hb E pn ⟨hp⟩).1) (λe=>(hs e).1) hg hm hcs hN hi hlo hdb⟩
theorem BX:ZOp X (CC .Add) zI:=⟨UR⟩
theorem F5:ZOp X (CC .Sub) yH:=⟨UV⟩
theorem F1:ZOp X (CC .Mult) yJ:=⟨W1⟩
theorem BY:ZOp X (CC .FloorDiv) gH:=⟨US⟩
theorem F0:ZOp X (CC .Mod) uV:=⟨UT⟩
theorem F3:ZOp X (CC .Pow) t7:=⟨UU⟩
theorem MW:ZOp X (Cd .Lt) gLt:=⟨PZ⟩
theorem MV:ZOp X (Cd .LtE) gLe:=⟨PY⟩
theorem MT:ZOp X (Cd .GtE) gGe:=⟨PV⟩
theorem KZ:ZOp X (Cd .Is) gIs:=⟨PX⟩
theorem KW (hr:RoomC cm k X.A):ZOp X (Cd .Eq) gEq:=⟨PU hr.units⟩
theorem G7 (hr:RoomC cm k X.A):ZOp X (Cd .NotEq) gNe:=⟨B0 hr.units⟩
theorem F2:ZUn X (LH .USub) bA:=⟨KO⟩
theorem MU:ZIx X gIx:=⟨FU⟩
theorem Z2:ZCall X (.builtin "isinstance") zX:=⟨rA⟩
theorem G6 {cl:Aa Ad}(h:ClsK X.K cl):ZCall X (.builtin "isinstance") (zE cl):=⟨Z5 h⟩
theorem Z3:ZCall X (.builtin "len") xY:=⟨Z7⟩
theorem Z1 (hc:X.calm=true):ZCall X (.builtin "all") (mW false):=⟨YM false hc⟩
theorem BZ:ZCall X (.type "int") dM:=⟨YN⟩
theorem oT:ZMt X "list.append" wU:=⟨eE⟩
theorem Y9:ZMt X "list.count" gV:=⟨iP⟩
theorem YA:ZMt X "list.index" gW:=⟨iQ⟩
theorem KY:ZIp X .Add gU:=⟨X9⟩
theorem F4 (hr:RoomC cm k X.A):ZSet X y7:=⟨KB (hu1 hr)⟩
end
section
variable {P:A0}{w:AH}{K:Ah}{mg:An->Ak Ac}{base:A8}{cm:Ap}
theorem lZ {qual:An}{scope:Bu}{f:Ad}{cd:Ac}{A:AF}{outer:Aa DD}{s:Af}{H:Hp}{E:XK}:ZPass (cxC cm P w K mg base N qual scope f cd A outer s H E):=⟨aA⟩
theorem FJ {x:An}{st:Ca}{ps:Aa An}{k:Aj}{g:DS}(h:Src K mg x st ps)(S:FnScope N ps (qG st))(hbd:zB st=body)
  (hbody:∀ (f:Ad) (cdv:Ac) (A:AF) (outer:Aa DD) (s:Af) (H:Hp) (E:XK),uL K x cdv->RoomC cm k (A.deeper (CY x (qG st) s.heap.objs.size f cdv)) ->
   QB (cxC cm P w K mg base N x (qG st) f cdv A outer s H E) body g):Def P w K mg base cm (k+1) x ps.length (qW N.length g):=
 VA h S λf cdv A outer s H E hc hr=>hbd▸(hbody f cdv A outer s H E hc hr).1
theorem GK {x:An}{st:Ca}{ps:Aa An}{k:Aj}{g:DS}(h:Src K mg x st ps)(S:FnScope N ps (qG st))(hbd:zB st=body)
  (hbody:∀ (f:Ad) (cdv:Ac) (A:AF) (outer:Aa DD) (s:Af) (H:Hp) (E:XK),uL K x cdv->RoomC cm k (A.deeper (CY x (qG st) s.heap.objs.size f cdv)) ->
   QB (cxC cm P w K mg base N x (qG st) f cdv A outer s H E) body g):fY P w K mg base cm (k+1) x ps (qW N.length g):=
 ZO h S λf cdv A outer s H E hc hr=>hbd▸(hbody f cdv A outer s H E hc hr).1
theorem ZN {x:An}{st:Ca}{ps:Aa An}(h:Src K mg x st ps):Def P w K mg base cm 0 x ps.length λ_ _=>.bad:=by
 obtain⟨f,fd,hm,F,hb⟩:=h;exact⟨f,fd,ps,rfl,hm,F.kp,hb,kN F,⟨λvs H Q E z=>z.1,λA outer s H args us vs Q E _ _ _ _ z=>by obtain⟨_,_,_,_,_,_,_,z⟩:=z;exact Al z⟩⟩
end
structure QTs (X:Cx)(ifs:Aa AE)(t:DT):Prop where
 get:PTs X ifs t
section
variable {X:Cx}{elt tg iter e:AE}{ifs es:Aa AE}{scope:Bu}{pos p:CD}{N':Aa An}{cap:Aa (Ak Aj)}{fi:DI}{g:DG}{t u:DT}{fe:DE}{fa:DA}{x:An}{cm:Ap}{k n:Aj}{F:DF}
theorem lJ:QTs X [] w6:=⟨ZZ⟩
theorem oH (h1:QT X e t)(h2:QTs X es u):QTs X (e::es) (vK t u):=⟨aU h1.1 h2.1⟩
theorem qcO (G:Def X.prog X.w X.K X.mg X.base cm k x n F)(hr:RoomC cm k X.A)(hg:Gl X x)(ha:QA X (e::es) fa)(hdb:(x == ("__debug__" : An))=false)(he:Av (e::es) X.env=(false,eval e X.env)::Av es X.env:=by rfl)(hpl:(CB pos (Av es X.env)).any (·.1)=false:=by rfl) :
  QE X (.Call (.Name x p) (e::es) [] pos) (qN n (okO F) fa):=⟨dcO G hr hg ha.1 hdb he hpl⟩
end
def stn (o:Ak (Aj × MO))(S:Sto):Prop:=match o with
 |none=>Fy
 |some p=>S[p.1]? = Ab p.2
open Classical in
def sN (o:Ak (Aj × MO))(S:Sto):Ap:=decide (stn o S)
theorem vD {o:Ak (Aj × MO)}:sN o S=true↔stn o S:=by simp[sN]
structure ItD2 (K:Ah)(J:It)(P:Hp)(α : Aa Ad)(o:Ak (Aj × MO))(ds:Aa D):Prop where
 go:∀ i H P1 α1 S,i<ds.length->Rel K H P1 α1 S->stn o S->qF P P1->α<+:α1->J.go i H
 yld:∀ i H x H' P1 α1 S,i<ds.length->Rel K H P1 α1 S->stn o S->qF P P1->α<+:α1->J.yld i H x H'->∃ P2 d,ds[i]? = Ab d/\Rel K H' P2 α1 S/\qF P1 P2/\Rep K P2 α1 d x
 stop:∀ i H P1 α1 S,ds.length<=i->Rel K H P1 α1 S->stn o S->qF P P1->α<+:α1->J.stop i H
theorem ItD.two {K:Ah}{J:It}{P:Hp}(h:ItD K J P α ds):ItD2 K J P α none ds:=
 ⟨λi H P1 α1 S a b _ c d=>h.go i H P1 α1 S a b c d,λi H x H' P1 α1 S a b _ c d e=>h.yld i H x H' P1 α1 S a b c d e,λi H P1 α1 S a b _ c d=>h.stop i H P1 α1 S a b c d⟩
abbrev DI2:=qE->Sto->Res (Ak (Aj × MO) × Aa D)
inductive tDI2 (X:Cx)(f:DI2)(σ : _L.St)(H:Hp)(R:It->Hp->Prop):Prop
 |mk (P:Hp) (α : Aa Ad) (env:qE) (S:Sto) (r:Rel X.K H P α S) (re:qS X.K P α σ env) (af:qI X P α (f env S) (λp S'=>∀ J H' P' α',Rel X.K H' P' α' S'->qF P P'->α<+:α'->ItD2 X.K J P' α' p.1 p.2->R J H')):tDI2 X f σ H R
noncomputable def vO (f:DI):DI2:=λenv S=>(f env S).bind λds S1=>.ok (none,ds) S1
section
variable {X:Cx}{K:Ah}{tg e:AE}{fa:DE}{pos:CD}
theorem ZS {f:DI}(h:PI X tg e (tDI X f)):PI X tg e (tDI2 X (vO f)):=PI.weak h λσ H R ⟨P,α,env,S,r,re,af⟩=>by
 refine⟨P,α,env,S,r,re,?_⟩;unfold vO at af;cases q:f env S with
 |bad=>rw[q] at af;exact af
 |ex c x S'=>rw[q] at af;exact af
 |ok ds S1 =>
  rw[q] at af;exact λJ H' P' α' r' e1 e2 it=>af J H' P' α' r' e1 e2 it.two
theorem XD {P:Hp}{a:Ad}{n:Aj}(hα:α[n]? = Ab a):ItD2 K (Itl K a) P α (Ab (n,.lst ds)) ds where
 go:=λi H P1 α1 S hi r st e e2=>by
  obtain⟨vs,z,t⟩:=r.at' n a _ (kP e2 hα) st;exact⟨vs,vs[i]'(by rw[<- t.length];exact hi),.of z,by simp⟩
 yld:=λi H x H' P1 α1 S hi r st e e2 y=>by
  obtain⟨rfl,y⟩:=y;obtain⟨vs,z,t⟩:=r.at' n a _ (kP e2 hα) st;have hx:=y vs (.of z);obtain⟨v,h1,h2⟩:=t.get (Ax hi);rw[hx] at h1;cases h1;exact⟨P1,_,Ax hi,r,qF.refl _,h2⟩
 stop:=λi H P1 α1 S hi r st e e2=>by
  obtain⟨vs,z,t⟩:=r.at' n a _ (kP e2 hα) st;exact⟨vs,.of z,by rw[<- t.length];exact hi⟩
noncomputable def itD (d:D)(S:Sto):Res (Ak (Aj × MO) × Aa D):=match d with
 |.tup xs=>.ok (none,xs) S
 |.lst xs=>.ok (none,xs) S
 |.loc n=>match S[n]? with
  |some (.lst xs)=>.ok (Ab (n,.lst xs),xs) S
  |_=>.bad
 |_=>.bad
noncomputable def dIt (f:DE):DI2:=λenv S=>(f env S).bind λd S1=>itD d S1
theorem GM (ha:PE X e (tD X fa)):PI X tg e (tDI2 X (dIt fa)):=by
 intro pins s σ H R I h;obtain⟨P,α,env,S,r,re,af⟩:=h;refine thn (zP ha I r re af) λvv s1 ⟨v,H1,P1,α1,d,S1,G1,af1⟩=>?_;have seq:∀ ds,xO d=Ab ds->(∀ J H' P' α',Rel X.K H' P' α' S1->qF P P'->α<+:α'->ItD2 X.K J P' α' none ds->R J H')->Ao (Aq X.prog X.w) X.A (HX vv) (PIE X pins σ tg R) X.xe s1:=λds e1 q =>
  t9 G1.inv G1.rel G1.val G1.rep e1 λJ H' P' α' r' h1 h2 it=>q J H' P' α' r' (G1.same.trans h1) (G1.pre.trans h2) it.two
 cases d with
 |tup xs=>exact seq xs rfl af1
 |lst xs=>exact seq xs rfl af1
 |loc n =>
  obtain⟨xs,hS,af1⟩:=jC (X:=X) (f:=λxs=>Res.ok (Ab (n,MO.lst xs),xs) S1) af1;have rp:=G1.rep;simp only[Rep] at rp;obtain⟨a,rfl,ha⟩:=rp;cases (show vv=AN a from G1.val)
  obtain⟨vs,z,t⟩:=G1.rel.at' n a _ ha hS;obtain⟨its,rv,p,hz⟩:=G1.inv.list (SqL.of z);refine Do p.isList ?_;refine⟨s1.heap.objs.size,[s1.heap.objs.size],_,_,H1,rfl,G1.inv.kept (t':=s1.toks) λb o e=>Ai _ e,fK a _,⟨_,AB _ rfl,rfl,rfl⟩,λb hb=>?_,af1 _ _ P1 α1 G1.rel G1.same G1.pre (XD ha)⟩;have e:b=s1.heap.objs.size:=by simpa using hb
  subst e;exact G1.inv.fpOk (Ar _) (G1.inv.hok.fresh (Ar _))
 |_=>exact Al af1
end
noncomputable def zG (elt:AE)(gens:Aa Bw)(scope:Bu)(pos:CD)(k:Aj)(acc:Ac)(env:DD):EE Ho:=
 match gens[k+1]? with
 |some g'=>do
  let x <- eval g'.iter env
  II g'.iter.pos
  let x <- Cc g'.iter env x
  let it <- holding [x] (HX x)
  let _ <- runOwn (.compStart (.ListComp elt gens scope pos) (k+1) it acc env) env
 |none=>do let _ <- call (.builtin "list.append") [acc,<- eval elt env]
theorem oR (elt target iter:AE)(ifs:Aa AE)(gens:Aa Bw)(scope:Bu)(pos:CD)(it acc:Ac)(env:DD)(k:Aj)(hg:gens[k]? = Ab ⟨target,iter,ifs,0⟩)(ha:∀ g',gens[k+1]? = Ab g'->g'.is_async=0) :
  compTurn (.ListComp elt gens scope pos) k it acc env=(do
   II iter.pos
   match <- HW it with
   |none=>pure (.done .next)
   |some v =>
    Ew target it v
    assign target env v
    let mut ok:=true
    for c in ifs do
     if ok then ok <- isTrue c env (eval c env)
    if ok then zG elt gens scope pos k acc env
    again (.compLoop (.ListComp elt gens scope pos) k it acc env)):=by
 unfold compTurn zG;simp only[hg];cases q:gens[k+1]? with
 |none=>rfl
 |some g' =>
  have h0:=ha g' q;have e0:(g'.is_async != 0)=false:=by rw[h0];rfl
  simp only[e0,Bj,D0,bind_assoc,pure_bind];rfl
abbrev DK:=qE->Sto->Aa D->Res (qE × Aa D)
def goL (o:Ak (Aj × MO))(g:DG)(t:DT)(k:DK):Aa D->DK
 |[],env,S,acc=>if sN o S then .ok (env,acc) S else .bad
 |d::ds,env,S,acc=>if sN o S then (g d env S).bind λenv1 S1=>(t env1 S1).bind λb S2 =>
   if b then (k env1 S2 acc).bind λp S3=>goL o g t k ds p.1 S3 p.2 else goL o g t k ds env1 S2 acc
  else .bad
noncomputable def zJ (fe:DE):DK:=λenv S acc=>(fe env S).bind λx S1=>if acc.length<lim then .ok (env,acc++[x]) S1 else .bad
def kIn (fi:DI2)(g:DG)(t:DT)(k:DK):DK:=λenv S acc=>(fi env S).bind λp S1=>goL p.1 g t k p.2 env S1 acc
def d0 (Y:Cx)(pins:Aa (Ad × AL))(P1:Hp)(α1:Aa Ad)(acc:Ad)(env:qE)(S:Sto)(ds:Aa D)(s:Af):Prop:=
 ∃ σ H P α o,TurnSt Y pins P1 α1 [] acc env S ds s σ H P α o
def PK (Y:Cx)(step:Ac->EE Ho)(k:DK):Prop:=
 ∀ (pins:Aa (Ad × AL)) (P1:Hp) (α1:Aa Ad) (acc:Ad) (env env':qE) (S S':Sto) (ds ds':Aa D) (s:Af),(∀ H:Hp,H acc=none->zS Y pins H acc)->d0 Y pins P1 α1 acc env S ds s->k env S ds=.ok (env',ds') S' ->
  Ao (Aq Y.prog Y.w) Y.A (step (.ref acc)) (λ_ s'=>d0 Y pins P1 α1 acc env' S' ds' s') (λ_ _=>Cp) s
section
variable {Y:Cx}{elt tg iter:AE}{ifs:Aa AE}{gens:Aa Bw}{scope:Bu}{pos:CD}{k:Aj}{g:DG}{t:DT}{fe:DE}{it acc:Ad}{fp:Aa Ad}{J:It}{tn:Aj->A8->Prop}{items:Aa D}{P1:Hp}{α1:Aa Ad}{pins:Aa (Ad × AL)}
theorem rR {X:Cx}{H:Hp}{b:Ad}{h:A8}(f:zS X pins H b)(hn:b ∉ fp):zS X (pins++wI fp h) H b:=by
 obtain⟨f0,f1,f2,f3,f4,f5⟩:=f;refine⟨f0,f1,f2,f3,f4,λp hp=>?_⟩;rcases AX.mp hp with z|z
 .exact f5 p (Bd _ z)
 .rcases AX.mp z with z|z
  .exact f5 p (AC _ z)
  .rintro rfl
   exact hn (fE z).1
theorem Res.bind_inv {β γ:Type}{r:Res β}{f:β->Sto->Res γ}{x:γ}(h:r.bind f=.ok x S):∃ b S1,r=.ok b S1/\f b S1=.ok x S:=by
 cases r with
 |ok b S1=>exact⟨b,S1,rfl,h⟩
 |_=>cases h
inductive GoC (o:Ak (Aj × MO))(g:DG)(t:DT)(k:DK)(d:D)(ds acc:Aa D)(env:qE)(S SF:Sto)(x:qE × Aa D):Prop
 |no (env1:qE) (S1 S2:Sto) (z:stn o S) (q1:g d env S=.ok env1 S1) (q2:t env1 S1=.ok false S2) (r:goL o g t k ds env1 S2 acc=.ok x SF):GoC o g t k d ds acc env S SF x
 |yes (env1:qE) (S1 S2:Sto) (env5:qE) (ds5:Aa D) (S5:Sto) (z:stn o S) (q1:g d env S=.ok env1 S1) (q2:t env1 S1=.ok true S2) (q3:k env1 S2 acc=.ok (env5,ds5) S5) (r:goL o g t k ds env5 S5 ds5=.ok x SF):GoC o g t k d ds acc env S SF x
set_option tactic.hygienic true in
theorem iB {o:Ak (Aj × MO)}{k:DK}{d:D}{acc:Aa D}{x:qE × Aa D}(h:goL o g t k (d::ds) env S acc=.ok x SF):GoC o g t k d ds acc env S SF x:=by
 simp only[goL] at h
 split at h
 .rename_i z
  obtain⟨env1,S1,q1,h⟩:=Res.bind_inv h;obtain⟨b,S2,q2,h⟩:=Res.bind_inv h;cases b with
  |false=>exact .no env1 S1 S2 (vD.mp z) q1 q2 h
  |true =>
   obtain⟨⟨env5,ds5⟩,S5,q3,h⟩:=Res.bind_inv h;exact .yes env1 S1 S2 env5 ds5 S5 (vD.mp z) q1 q2 q3 h
 .cases h
set_option tactic.hygienic true in
theorem X6 {o:Ak (Aj × MO)}{k:DK}{acc:Aa D}(h:goL o g t k [] env S acc=.ok (envF,dsF) SF):stn o S/\env=envF/\acc=dsF/\S=SF:=by
 simp only[goL] at h
 split at h
 .rename_i z
  cases h;exact⟨vD.mp z,rfl,rfl,rfl⟩
 .cases h
inductive LpI (Y:Cx)(pins:Aa (Ad × AL))(P1:Hp)(α1:Aa Ad)(fp:Aa Ad)(acc:Ad)(tn:Aj->A8->Prop)(G:Aa D->DK)(items:Aa D)(x:qE × Aa D)(SF:Sto)(n:Aj)(s:Af):Prop
 |mk (i:Aj) (σ : _L.St) (H P:Hp) (α : Aa Ad) (o:AL) (env:qE) (S:Sto) (ds:Aa D) (hn:n=items.length-i) (hi:i<=items.length) (st:TurnSt Y pins P1 α1 fp acc env S ds s σ H P α o) (st1:tn i s.heap) (run:G (items.drop i) env S ds=.ok x SF):LpI Y pins P1 α1 fp acc tn G items x SF n s
theorem Y3 {M:EM}{A:AF}{Q:Fin->Af->Prop}{E:Ac->Af->Prop}{s:Af}{it acc:Ac}{en:DD}(hgk:gens[k]? = Ab ⟨tg,iter,ifs,0⟩)(has:∀ g',gens[k+1]? = Ab g'->g'.is_async=0)
  (ha:∀ s,Qa s->Q (.again (.compLoop (.ListComp elt gens scope pos) k it acc en)) s) (hd:∀ s,Qd s->Q (.done .next) s)
  (h:Ao M A (HW it) (λr s1=>(r=none->Qd s1)/\∀ v,r=Ab v->Ao M A (Ew tg it v) (λ_ s2=>Ao M A (assign tg en v) (λ_ s3=>Ao M A (vE ifs en) (λb s4=>(b=false->Qa s4)/\(b=true->Ao M A (zG elt gens scope pos k acc en) (λ_ s5=>Qa s5) E s4)) E s3) E s2) E s1) E s) :
  Ao M A (compTurn (.ListComp elt gens scope pos) k it acc en) Q E s:=by
 rw[oR elt tg iter ifs gens scope pos it acc en k hgk has];refine Ag (Gi (Ag (thn h λr s1 ⟨h0,h1⟩=>?_)));cases r with
 |none=>exact As (hd _ (h0 rfl))
 |some v =>
  refine Ag (thn (h1 v rfl) λ_ s2 h2=>Ag (thn h2 λ_ s3 h3=>Ag (thn h3 λb s4 h4=>?_)));cases b with
  |false=>exact As (ha _ (h4.1 rfl))
  |true=>exact Ag (thn (h4.2 rfl) λ_ s5 h5=>As (ha _ h5))
theorem X5 (hfp:∀ H:Hp,(∀ b∈fp,H b=none)->∀ b∈fp,zS Y pins H b)(hne:acc ∉ fp)(o:AL)(H':Hp)(hn:∀ b∈fp,H' b=none):∀ b∈fp,zS Y (pins++[(acc,o)]) H' b:=λb hb=>by
 obtain⟨f0,f1,f2,f3,f4,f5⟩:=hfp H' hn b hb;refine⟨f0,f1,f2,f3,f4,λp hp=>?_⟩;rcases AX.mp hp with z|z
 .exact f5 p (Bd _ z)
 .rcases AX.mp z with z|z
  .exact f5 p (AC _ z)
  .rw[Cj.mp z]
   rintro rfl;exact hne hb
theorem vU {i:Aj}{h:A8}(T:Turn Y.prog Y.w Y.K tg J fp it tn)(st2:tn (i+1) h)(pl:∀ b∈fp,∃ o,h.get? b=Ab o/\∀ v,o.data≠.cell v){s5:Af}{σ5:_L.St}{H5:Hp}(I5:Inv Y (pins++wI fp h) σ5 H5 s5):tn (i+1) s5.heap/\(∀ b∈fp,H5 b=none):=by
 refine⟨T.keep _ _ _ st2 λb hb o' e=>(I5.pin (b,o') (AC _ (AC _ (yL hb e)))).1,λb hb=>?_⟩;obtain⟨o',e,d'⟩:=pl b hb;exact(I5.pin (b,o') (AC _ (AC _ (yL hb e)))).2.1
theorem dG {kk:DK}{E:Ac->Af->Prop}{s:Af}{σ:_L.St}{H P:Hp}{o:AL}{i:Aj}(hc:Y.calm=true)(hx:Y.xe=λ_ _=>Cp)
  (T:Turn Y.prog Y.w Y.K tg J fp it tn) (hit:ItD2 Y.K J P1 α1 o' items) (hg:PG Y tg (tDG Y g)) (ht:PTs Y ifs t) (he:PK Y (λacc=>zG elt gens scope pos k acc Y.env) kk) (hacc:∀ H:Hp,H acc=none->zS Y pins H acc) (hfp:∀ H:Hp,(∀ b∈fp,H b=none)->∀ b∈fp,zS Y pins H b) (hne:acc ∉ fp)
  (hi:i<=items.length) (st:TurnSt Y pins P1 α1 fp acc env S ds s σ H P α o) (st1:tn i s.heap) (run:goL o' g t kk (items.drop i) env S ds=.ok (envF,dsF) SF)
  (hA:∀ s' σ' H' P' α' o1 env1 S' ds',i<items.length->TurnSt Y pins P1 α1 fp acc env1 S' ds' s' σ' H' P' α' o1->tn (i+1) s'.heap->goL o' g t kk (items.drop (i+1)) env1 S' ds'=.ok (envF,dsF) SF->Qa s')
  (hD:∀ s' σ' H' P' α' o',TurnSt Y pins P1 α1 fp acc envF SF dsF s' σ' H' P' α' o'->Qd s') :
  Ao (Aq Y.prog Y.w) Y.A (HW (.ref it)) (λr s1=>(r=none->Qd s1)/\∀ v,r=Ab v->Ao (Aq Y.prog Y.w) Y.A (Ew tg (.ref it) v) (λ_ s2=>Ao (Aq Y.prog Y.w) Y.A (assign tg Y.env v) (λ_ s3=>Ao (Aq Y.prog Y.w) Y.A (vE ifs Y.env) (λb s4=>(b=false->Qa s4)/\(b=true->Ao (Aq Y.prog Y.w) Y.A (zG elt gens scope pos k (.ref acc) Y.env) (λ_ s5=>Qa s5) E s4)) E s3) E s2) E s1) E s:=by
 have I1:=_D.Inv.pin1 st.inv (hacc H st.acn) st.at' st.acc.cell;have fp1:=X5 hfp hne o;by_cases hlt:i<items.length
 .have hdr:items.drop i=items[i]::items.drop (i+1):=Dv hlt
  rw[hdr] at run;have run:=iB run;have hst:stn o' S:=by cases run with|no _ _ _ z=>exact z|yes _ _ _ _ _ _ z=>exact z
  refine jI (T.item Y rfl rfl rfl hc i _ s σ H (λ_ _=>Cp) I1 (fp1 H st.fpn) st1 (hit.go i H P α S hlt st.rel hst st.same st.pre)) λr s1 ⟨u,hr,h1⟩=>⟨λz=>(by rw[hr] at z;cases z),λv hv=>?_⟩
  obtain rfl:v=u:=AQ (hv.symm.trans hr);refine jI h1 λ_ s2 ⟨x,H2,I2,rx,y,st2,fr2⟩=>?_;obtain⟨P2,d,hd,r2,e2,rp⟩:=hit.yld i H x H2 P α S hlt st.rel hst st.same st.pre y;cases (Ax hlt).symm.trans hd;have pl:=T.obj _ _ st2;have I2':=I2.pinned (fp1 _ fr2) pl;have two:∀ env1 S1 b S2,g items[i] env S=.ok env1 S1->t env1 S1=.ok b S2->(∀ s4 σ3 H4 P4 α4 (I4:Inv Y (pins++wI fp s2.heap) σ3 H4 s4),TurnSt Y pins P1 α1 fp acc env1 S2 ds s4 σ3 H4 P4 α4 o->tn (i+1) s4.heap->(b=false->Qa s4)/\(b=true->Ao (Aq Y.prog Y.w) Y.A (zG elt gens scope pos k (.ref acc) Y.env) (λ_ s5=>Qa s5) E s4))->Ao (Aq Y.prog Y.w) Y.A (assign tg Y.env v) (λ_ s3=>Ao (Aq Y.prog Y.w) Y.A (vE ifs Y.env) (λb s4=>(b=false->Qa s4)/\(b=true->Ao (Aq Y.prog Y.w) Y.A (zG elt gens scope pos k (.ref acc) Y.env) (λ_ s5=>Qa s5) E s4)) E s3) E s2:=by
   intro env1 S1 b S2 q1 q2 next;refine jI (hx▸M8 hg I2' r2 (st.env.mono e2 (A3 _)) rx rp q1) λ_ s3 ⟨σ3,H3,P3,α3,I3,r3,re3,e3,e3'⟩=>?_;refine jI (hx▸B9 ht I3 r3 re3 q2) λb' s4 ⟨hb,H4,P4,α4,I4,r4,re4,e4,e4'⟩=>?_;have I4':Inv Y (pins++wI fp s2.heap) σ3 H4 s4:=I4.pins_of λp hp=>I4.pin p (AC _ ((AX.mp hp).elim (λz=>Bd _ (Bd _ z)) λz=>AC _ z));have a4:=I4.pin (acc,o) (AC _ (Bd _ (AC _ (Cj.mpr rfl))));rw[hb];exact next s4 σ3 H4 P4 α4 I4' ⟨I4'.unpinned,r4,re4,((st.same.trans e2).trans e3).trans e4,(st.pre.trans e3').trans e4',(vU T st2 pl I4').2,a4.2.1,a4.1,st.acc.mono ((e2.trans e3).trans e4) (e3'.trans e4')⟩ (vU T st2 pl I4').1
  cases run with
  |no env1 S1 S2 _ q1 q2 run=>exact two env1 S1 false S2 q1 q2 λs4 σ3 H4 P4 α4 I4 st4 tn4=>⟨λ_=>hA s4 σ3 H4 P4 α4 o env1 S2 ds hlt st4 tn4 run,λz=>(by cases z)⟩
  |yes env1 S1 S2 env5 ds5 S5 _ q1 q2 q3 run =>
   refine two env1 S1 true S2 q1 q2 λs4 σ3 H4 P4 α4 I4 st4 tn4=>⟨λz=>(by cases z),λ_=>?_⟩
   refine jI (he (pins++wI fp s2.heap) P1 α1 acc env1 env5 S2 S5 ds ds5 s4 (λH hn=>rR (hacc H hn) hne) ⟨σ3,H4,P4,α4,o,I4,st4.rel,st4.env,st4.same,st4.pre,λb hb=>(by cases hb),st4.acn,st4.at',st4.acc⟩ q3) λ_ s5 ⟨σ5,H5,P5,α5,o5,T5⟩=>?_
   exact hA s5 σ5 H5 P5 α5 o5 env5 S5 ds5 hlt ⟨T5.inv.unpinned,T5.rel,T5.env,T5.same,T5.pre,(vU T st2 pl T5.inv).2,T5.acn,T5.at',T5.acc⟩ (vU T st2 pl T5.inv).1 run
 .rw[Gb li] at run
  obtain⟨z,rfl,rfl,rfl⟩:=X6 run;refine jI (T.done Y rfl rfl rfl hc i _ s σ H (λ_ _=>Cp) I1 (fp1 H st.fpn) st1 (hit.stop i H P α _ li st.rel z st.same st.pre)) λr s1 ⟨hr,I2⟩=>⟨λ_=>?_,λv hv=>(by rw[hr] at hv;cases hv)⟩
  have a:=_D.Inv.pinned1 I2;exact hD s1 σ H P α o ⟨I2.unpinned,st.rel,st.env,st.same,st.pre,st.fpn,a.2,a.1,st.acc⟩
theorem gP {kk:DK}{R:LL->Af->Prop}{s:Af}{σ:_L.St}{H P:Hp}{ds0:Aa D}{o:AL}(hc:Y.calm=true)(hx:Y.xe=λ_ _=>Cp)(hgk:gens[k]? = Ab ⟨tg,iter,ifs,0⟩)(has:∀ g',gens[k+1]? = Ab g'->g'.is_async=0)
  (T:Turn Y.prog Y.w Y.K tg J fp it tn) (hit:ItD2 Y.K J P1 α1 o' items) (hg:PG Y tg (tDG Y g)) (ht:PTs Y ifs t) (he:PK Y (λacc=>zG elt gens scope pos k acc Y.env) kk) (hacc:∀ H:Hp,H acc=none->zS Y pins H acc) (hfp:∀ H:Hp,(∀ b∈fp,H b=none)->∀ b∈fp,zS Y pins H b) (hne:acc ∉ fp)
  (st:TurnSt Y pins P1 α1 fp acc env S ds0 s σ H P α o) (st0:tn 0 s.heap) (run:goL o' g t kk items env S ds0=.ok (envF,dsF) SF)
  (hR:∀ s' σ' H' P' α' o',TurnSt Y pins P1 α1 fp acc envF SF dsF s' σ' H' P' α' o'->R (.ok .next) s') :
  D6 (Aq Y.prog Y.w) Y.A (.compLoop (.ListComp elt gens scope pos) k (.ref it) (.ref acc) Y.env) R s:=by
 refine codeAny_loop rfl (LpI Y pins P1 α1 fp acc tn (goL o' g t kk) items (envF,dsF) SF) (λn s hI=>?_) items.length ⟨0,σ,H,P,α,o,env,S,ds0,rfl,Ek _,st,st0,run⟩;obtain⟨i,σ,H,P,α,o,env,S,ds,hn,hi,st,st1,run⟩:=hI;subst hn;refine wpAny_noted (Y3 hgk has (Qa:=λs'=>∃ m,m<items.length-i/\LpI Y pins P1 α1 fp acc tn (goL o' g t kk) items (envF,dsF) SF m s') (Qd:=R (.ok .next)) (λ_ h=>⟨rfl,h⟩) (λ_ h=>h) ?_);exact dG hc hx T hit hg ht he hacc hfp hne hi st st1 run (λs' σ' H' P' α' o1 env1 S' ds' hlt st' tn' run'=>⟨_,Nat.sub_succ_lt_self _ _ hlt,i+1,σ',H',P',α',o1,env1,S',ds',rfl,hlt,st',tn',run'⟩) hR
set_option tactic.hygienic true in
theorem W9 (hx:Y.xe=λ_ _=>Cp)(hlast:gens[k+1]? = none)(he:PE Y elt (tD Y fe)):PK Y (λacc=>zG elt gens scope pos k acc Y.env) (zJ fe):=by
 intro pins P1 α1 acc env env' S S' ds ds' s hacc ⟨σ,H,P,α,o,st⟩ run;show Ao _ _ (zG elt gens scope pos k (.ref acc) Y.env) _ _ s;unfold zG;rw[hlast];dsimp only;unfold zJ at run;cases q3:fe env S with
 |bad=>rw[q3] at run;cases run
 |ex c z S'=>rw[q3] at run;cases run
 |ok d5 S5 =>
  rw[q3,Res.bind_ok] at run
  split at run
  .rename_i hlen
   cases run;have fA:=hacc H st.acn;have I1:=_D.Inv.pin1 st.inv fA st.at' st.acc.cell;refine Ag (jI (hx▸M7 he I1 st.rel st.env q3) λu5 s5 ⟨v5,H5,P5,α5,G5⟩=>?_);have J:=_D.Inv.pinned1 G5.inv;have J1:=G5.inv.unpinned;obtain⟨J4,J5⟩:=J;obtain⟨its,n5,vs,ho,rvs,rps,hz⟩:=st.acc;subst ho;have hlen':vs.length=ds.length:=rps.length.symm;have hl2:=rvs.length;refine Ag (Kb Ks ⟨_,J4,rfl⟩ Kc (Jm _ _) (L0 acc its.toArray n5 u5 (by rw[A9];rw[<- zK];lia)) ⟨J4,?_⟩)
   have q:=LP J4 (·.push u5)
   have fA5:=hacc H5 J5;have keep:∀ b o,b≠acc->s5.heap.get? b=Ab o->(s5.heap.update acc (CS (·.push u5))).get? b=Ab o:=λb o hb e=>(CH s5.heap _ (Df hb)).trans e
   have I6:=J1.turned (t':=s5.toks) keep J5 fA5.2.1 fA5.2.2.2.1 fA5.2.2.2.2.1 fA5.2.2.2.2.2;refine As ⟨σ,H5,P5,α5,_,I6,G5.rel,G5.env,st.same.trans G5.same,st.pre.trans G5.pre,λb hb=>(by simp at hb),J5,q,?_⟩
   refine⟨its++[u5],_,vs++[v5],by simp <;> rfl,rvs.append (.cons G5.val .nil),?_,by simp;lia⟩
   exact(qD.mono G5.same G5.pre _ _ rps).append (.cons G5.rep .nil)
  .cases run
end
theorem mJ {prog:A0}{w:AH}{A:AF}{R:LL->Af->Prop}{s:Af}{elt:AE}{gens:Aa Bw}{scope:Bu}{pos:CD}{k:Aj}{it acc:Ac}{env:DD}{g:Bw}(hg:gens[k]? = Ab g)(ha:g.is_async=0)
  (h0:D6 (Aq prog w) A (.compLoop (.ListComp elt gens scope pos) k it acc env) R s)
  (h:Ao (Aq prog w) A (HX it) (λit' s'=>D6 (Aq prog w) A (.compLoop (.ListComp elt gens scope pos) k it' acc env) R s') (notedBy (Aq prog w) A env λx s'=>R (.error x) s') s) :
  D6 (Aq prog w) A (.compStart (.ListComp elt gens scope pos) k it acc env) R s:=by
 refine codeAny_of_tree ?_;show Ao _ _ ((compStart (.ListComp elt gens scope pos) k it acc env).onRaise (λx=>do IX x env;II theWindowsPlace)) _ _ s
 refine wpAny_notedAt ?_;have hcl:clausesOf (.ListComp elt gens scope pos)=gens:=rfl;have e0:(g.is_async != 0)=false:=by rw[ha];rfl
 unfold compStart;simp only[hcl,hg,Option.elim,e0,Bj,D0];refine Ag (wpAny_askSetting (wpAny_ite ?_))
 split
 .exact As (And.intro rfl h0)
 .refine Ag (D7 ?_)
  exact Ag (Gi (Ag (Dp h (λit' s' h'=>As (And.intro rfl h')) λ_ _ x=>x)))
section
variable {Y:Cx}{elt tg iter:AE}{ifs:Aa AE}{gens:Aa Bw}{scope:Bu}{pos:CD}{k:Aj}{g:DG}{t:DT}{fi:DI2}{kk:DK}
theorem rQ {X:Cx}{pins pl:Aa (Ad × AL)}{H:Hp}{b:Ad}(f:zS X (pins++pl) H b):zS X pins H b:=by
 obtain⟨f0,f1,f2,f3,f4,f5⟩:=f;refine⟨f0,f1,f2,f3,f4,λp hp=>f5 p ?_⟩;rcases AX.mp hp with z|z
 .exact Bd _ z
 .exact AC _ (Bd _ z)
theorem B8 (hc:Y.calm=true)(hx:Y.xe=λ_ _=>Cp)(hgk:gens[k+1]? = Ab ⟨tg,iter,ifs,0⟩)(has:∀ g',gens[k+1+1]? = Ab g'->g'.is_async=0)(hi:PI Y tg iter (tDI2 Y fi))(hg:PG Y tg (tDG Y g))(ht:PTs Y ifs t)
  (he:PK Y (λacc=>zG elt gens scope pos (k+1) acc Y.env) kk) (hs:∀ x,Cc iter Y.env x=pure x):PK Y (λacc=>zG elt gens scope pos k acc Y.env) (kIn fi g t kk):=by
 intro pins P1 α1 acc env env' S S' ds ds' s hacc ⟨σ,H,P,α,o,st⟩ run;show Ao _ _ (zG elt gens scope pos k (.ref acc) Y.env) _ _ s;unfold zG;rw[hgk];dsimp only;unfold kIn at run;cases q:fi env S with
 |bad=>rw[q] at run;cases run
 |ex c z S'=>rw[q] at run;cases run
 |ok p S1 =>
  rw[q,Res.bind_ok] at run;have fA:=hacc H st.acn;have I1:=_D.Inv.pin1 st.inv fA st.at' st.acc.cell;have key:=hi (pins++[(acc,o)]) s σ H (λJ H1=>∃ P' α',Rel Y.K H1 P' α' S1/\qF P P'/\α<+:α'/\ItD2 Y.K J P' α' p.1 p.2) I1 ⟨P,α,env,S,st.rel,st.env,by rw[q];exact λJ H' P' α' r' e1 e2 it=>⟨P',α',r',e1,e2,it⟩⟩
  rw[hx] at key;refine Ag (jI key λv s1 h1=>Ag (Gi ?_));rw[hs];refine Ag (As (Ag (CZ (jI h1 λitv s2 h2=>?_))));obtain⟨it,fp,tn,J,H2,rfl,I2,T,st0,hf,P',α',r2,e1,e2,hit⟩:=h2;have a2:=_D.Inv.pinned1 I2;have hne:acc ∉ fp:=λhm=>(hf acc hm).2.2.2.2.2 (acc,o) (AC _ (AC _ (by simp))) rfl
  have loop:D6 (Aq Y.prog Y.w) Y.A (.compLoop (.ListComp elt gens scope pos) (k+1) (.ref it) (.ref acc) Y.env) (λr s'=>match r with
    |.ok f=>d0 Y pins P1 α1 acc env' S' ds' s'
    |.error _=>Cp) s2:=by
   refine gP (pins:=pins) (fp:=fp) (P1:=P') (α1:=α') (σ:=σ) (H:=H2) (P:=P') (α:=α') (o:=o) hc hx hgk has T hit hg ht he hacc (λH hn b hb=>?_) hne
    ⟨I2.unpinned,r2,st.env.mono e1 e2,qF.refl _,A3 _,λb hb=>(hf b hb).1,a2.2,a2.1,st.acc.mono e1 e2⟩ st0 run λs' σ' H' Pf αf o' T'=>?_
   .obtain⟨_,g1,g2,g3,g4,g5⟩:=rQ (hf b hb)
    exact⟨hn b hb,g1,g2,g3,g4,g5⟩
   .exact⟨σ',H',Pf,αf,o',T'.inv,T'.rel,T'.env,(st.same.trans e1).trans T'.same,(st.pre.trans e2).trans T'.pre,λb hb=>(by simp at hb),T'.acn,T'.at',T'.acc⟩
  refine Ag (wpAny_runOwn (Hk (mJ hgk rfl loop (T.self Y.A 0 _ _ _ st0 loop)) λr s' h=>?_));cases r with
  |error x=>exact Al h
  |ok f=>exact As h
end
noncomputable def mkM (m:Ap)(r:Res (qE × Aa D)):Res D:=match r with
 |.ok p S2=>if m then .ok (.loc S2.length) (S2++[.lst p.2]) else .ok (.lst p.2) S2
 |_=>.bad
def zC (m:Ap)(cap:Aa (Ak Aj))(fi:DI2)(g:DG)(t:DT)(k:DK):DE:=λenv S=>(fi env S).bind λp S1=>mkM m (goL p.1 g t k p.2 (zO cap env) S1 [])
section
variable {X:Cx}{elt tg iter:AE}{ifs:Aa AE}{scope:Bu}{pos:CD}{N':Aa An}{cap:Aa (Ak Aj)}{fi:DI2}{g:DG}{t:DT}{kk:DK}{rest:Aa Bw}{mm:Ap}
theorem eF {P:Hp}{r:Res (qE × Aa D)}{Ok:D->Sto->Prop}(h:qI X P α (mkM mm r) Ok):∃ envF ds SF,r=.ok (envF,ds) SF/\(if mm then Ok (.loc SF.length) (SF++[.lst ds]) else Ok (.lst ds) SF):=by
 cases r with
 |ok p S =>
  obtain⟨envF,ds⟩:=p;refine⟨envF,ds,S,rfl,?_⟩;cases mm <;> exact h
 |ex c x S=>exact Al h
 |bad=>exact Al h
theorem aW {pins:Aa (Ad × AL)}{σ:_L.St}{P1:Hp}{α1:Aa Ad}{acc:Ad}{s:Af}{Q:VK}(c:kH X pins σ P1 α1 ds SF acc C s)(ok:if mm then OkV X P1 α1 Q (.loc SF.length) (SF++[.lst ds]) else OkV X P1 α1 Q (.lst ds) SF):EP X pins σ Q (.ref acc) s:=by
 cases mm with
 |false=>exact X0 c ok
 |true =>
  obtain⟨H',P',α',vs,I,r,hn,e1,e2,rp,_⟩:=c;exact⟨.ref acc,_,I,rfl,lD r hn rp λv H2 P2 α2 r2 q1 q2 q3=>ok v H2 P2 α2 r2 (e1.trans q1) (e2.trans q2) q3⟩
theorem rJ {M:EM}{A:AF}{E:Ac->Af->Prop}{s:Af}{globals:Ad}{closure:Aa (An × Ad)}{qual:An}{env:DD}{Q:DD->Af->Prop}
  (hQ:Q (newEnv scope s.heap.objs.size globals (Dt (s.heap.objs.size+1) scope.names closure) qual none .none (Ab env) Hn) { s with heap:=L7 (s.heap.push { cls:=.type "dict",data:=.dict #[] }) scope.names }) :
  Ao M A (Ji scope globals closure [] qual none .none (Ab env)) Q E s:=by
 simp only[Ji,Kt,Bq];refine Ag (wpAny_alloc ?_);refine Ag (wpAny_layCells _ (λname kind cells=>by cases hkc:kind == Gk <;> simp[hkc]) _ _ _ _ ?_)
 rw[show ({ s with heap:=s.heap.push { cls:=.type "dict",data:=.dict #[] } } : Af).heap.objs.size=s.heap.objs.size+1 from CL ..]
 refine Ag ?_;rw[Ft];exact As (As hQ)
theorem kX {pins:Aa (Ad × AL)}{σ:_L.St}{H2 P1:Hp}{α1:Aa Ad}{s2:Af}{S1:Sto}{items:Aa D}{it:Ad}{fp:Aa Ad}{tn:Aj->A8->Prop}{J:It}{E:Ac->Af->Prop}{RR:Ac->Ad->LL->Af->Prop}
  (hc:X.calm=true) (S:CompSc X.env.scope X.N scope N' cap) (has:∀ g',(⟨tg,iter,ifs,0⟩::rest:Aa Bw)[0+1]? = Ab g'->g'.is_async=0)
  (hg:∀ cl C ex s₀ H₀,PG (qV X N' scope cl C ex s₀ H₀) tg (tDG (qV X N' scope cl C ex s₀ H₀) g))
  (ht:∀ cl C ex s₀ H₀,PTs (qV X N' scope cl C ex s₀ H₀) ifs t) (he:∀ cl C ex s₀ H₀,PK (qV X N' scope cl C ex s₀ H₀) (λacc=>zG elt (⟨tg,iter,ifs,0⟩::rest) scope pos 0 acc (qV X N' scope cl C ex s₀ H₀).env) kk)
  (I2:Inv X pins σ H2 s2) (r:Rel X.K H2 P1 α1 S1) (re:qS X.K P1 α1 σ env) (T:Turn X.prog X.w X.K tg J fp it tn) (st0:tn 0 s2.heap) (hf:∀ b∈fp,zS X pins H2 b) (hit:ItD2 X.K J P1 α1 o' items) (run:goL o' g t kk items (zO cap env) S1 [] = .ok (envF,ds) SF)
  (hRR:∀ acc C s',s2.heap.objs.size<=acc->(∃ m,s'.heap.Ns C m)->s2.heap.objs.size<=C->acc≠C->(∀ h',CN C s'.heap h'->kH X pins σ P1 α1 ds SF acc C { s' with heap:=h' }) -> RR (.ref acc) C (.ok .next) s') :
  Ao (Aq X.prog X.w) X.A (newList []) (λacc s₃=>Ao (Aq X.prog X.w) X.A (Ji scope X.env.globals (xM X.env.cells scope.names []) [] X.env.qual none .none (Ab X.env)) (λcenv s₄ =>
   D6 (Aq X.prog X.w) X.A (.compStart (.ListComp elt (⟨tg,iter,ifs,0⟩::rest) scope pos) 0 (.ref it) acc { cenv with scope:=relabel scope X.env }) (RR acc cenv.locals) s₄) E s₃) E s2:=by
 have hlt:∀ b∈fp,b<s2.heap.objs.size:=λb hb=>by
  obtain⟨o,e,_⟩:=T.obj 0 _ st0 b hb;exact Ay e
 refine Dn (rJ ?_);dsimp only;generalize hH2:s2.heap.push { cls:=.type "list",dict:=none,data:=.seq ([] : Aa Ac).toArray } = Hh;have hsz:Hh.objs.size=s2.heap.objs.size+1:=by rw[<- hH2,CL]
 have hC:s2.heap.objs.size<=Hh.objs.size:=by rw[hsz];exact NW _
 have hne:s2.heap.objs.size≠Hh.objs.size:=by rw[hsz];exact AV (LV _)
 have kp:∀ b o,Hh.get? b=Ab o->(L7 (Hh.push { cls:=.type "dict",data:=.dict #[] }) scope.names).get? b=Ab o:=λb o e=>Mn _ _ b o (Ai _ e);have hns₁:(L7 (Hh.push { cls:=.type "dict",data:=.dict #[] }) scope.names).Ns Hh.objs.size (λ_=>none):=(Heap.Ns.new Hh (.type "dict")).keeps (Mn _ _);have co:=cellsFrom_ok scope.names (Hh.push { cls:=.type "dict",data:=.dict #[] }) (Hh.objs.size+1) [] ⟨λ_ _ hm=>(nomatch hm),HF⟩ (by rw[CL];exact Ar _)
 rw[CL] at co;generalize hh₁:L7 (Hh.push { cls:=.type "dict",data:=.dict #[] }) scope.names=h₁ at kp hns₁ co ⊢;have keep:∀ b o,s2.heap.get? b=Ab o->h₁.get? b=Ab o:=λb o e=>kp b o (hH2▸Ai _ e);have hacc:h₁.get? s2.heap.objs.size=Ab { cls:=.type "list",data:=.seq ([] : Aa Ac).toArray }:=kp _ _ (hH2▸AB _ rfl);have I4:∀ tk,Inv (qV X N' scope (uN X scope Hh.objs.size) Hh.objs.size fp s2 H2) [] (wN cap σ) H2 { s2 with heap:=h₁,toks:=tk }:=λtk =>
  a8 (s4:={ s2 with heap:=h₁,toks:=tk }) S I2 hf hlt hC hns₁ rfl rfl keep co
 have loop:∀ tk,D6 (Aq X.prog X.w) X.A (.compLoop (.ListComp elt (⟨tg,iter,ifs,0⟩::rest) scope pos) 0 (.ref it) (.ref s2.heap.objs.size) (compEnvC scope (uN X scope Hh.objs.size) Hh.objs.size X.env)) (RR (.ref s2.heap.objs.size) Hh.objs.size) { s2 with heap:=h₁,toks:=tk }:=λtk=>by
  refine gP (kk:=kk) (o':=o') (Y:=qV X N' scope (uN X scope Hh.objs.size) Hh.objs.size fp s2 H2) (pins:=[]) (fp:=fp) (acc:=s2.heap.objs.size) (P1:=P1) (α1:=α1) (σ:=wN cap σ) (H:=H2) (P:=P1) (α:=α1) (o:={ cls:=.type "list",data:=.seq ([] : Aa Ac).toArray }) hc rfl rfl has T hit
   (hg _ _ _ _ _) (ht _ _ _ _ _) (he _ _ _ _ _) (λH hn=>?_) (λH hn b hb=>?_) (λhm=>Bn _ (hlt _ hm)) ⟨I4 tk,r,c7 re cap,qF.refl _,A3 _,λb hb=>(hf b hb).1,I2.hok.fresh (Ar _),hacc,⟨[],0,[],rfl,.nil,.nil,Ek _⟩⟩ (T.keep _ _ _ st0 λb hb o e=>keep b o e) run λs' σ' H' P' α' o' st=>?_
  .refine⟨hn,hne,λhm=>?_,.inr (Ar _),λx c h z=>?_,λp hp=>absurd (show p∈([]:Aa (Ad × AL)) from hp) (by simp)⟩
   .obtain⟨_,o,ho,_⟩:=I2.stack.mem hm
    exact Bn _ (Ay ho)
   .rcases zV S I2.ok h with⟨m,_⟩|⟨m,_⟩
    .exact Bn _ (Fj hC (z▸(co.empty x c m).2))
    .obtain⟨v,ob,hob,_⟩:=I2.cell x c m
     rw[z] at hob;exact Bn _ (Ay hob)
  .obtain⟨_,h1,h2,h3,h4,h5⟩:=hf b hb
   refine⟨hn b hb,AV (Aw (hlt b hb) hC),λhm=>?_,.inl hb,λx c h=>(by
    rcases zV S I2.ok h with⟨m,_⟩|⟨m,_⟩
    .exact Df (AV (EJ (Aw (hlt b hb) hC) (co.empty x c m).2))
    .exact h4 x c m),λp hp=>absurd (show p∈([]:Aa (Ad × AL)) from hp) (by simp)⟩
   rcases AR.mp (I2.stkSub b hm) with z|z
   .exact h1 z
   .exact h2 z
  .obtain⟨m,hm,_⟩:=st.inv.loc
   exact hRR _ _ s' (Ar _) ⟨m,hm⟩ hC hne λh' sb=>cZ I2 hf rfl hC (Ar _) hne st sb
 exact codeAny_compStart_list (loop _) (T.self X.A 0 _ _ _ (T.keep _ _ _ st0 λb hb o e=>keep b o e) (loop _))
theorem aI (hc:X.calm=true)(S:CompSc X.env.scope X.N scope N' cap)(hi:PI X tg iter (tDI2 X fi))
  (hg:∀ cl C ex s₀ H₀,PG (qV X N' scope cl C ex s₀ H₀) tg (tDG (qV X N' scope cl C ex s₀ H₀) g))
  (ht:∀ cl C ex s₀ H₀,PTs (qV X N' scope cl C ex s₀ H₀) ifs t) (has:∀ g',(⟨tg,iter,ifs,0⟩::rest:Aa Bw)[0+1]? = Ab g'->g'.is_async=0) (he:∀ cl C ex s₀ H₀,PK (qV X N' scope cl C ex s₀ H₀) (λacc=>zG elt (⟨tg,iter,ifs,0⟩::rest) scope pos 0 acc (qV X N' scope cl C ex s₀ H₀).env) kk)
  (hs:∀ x,Cc iter X.env x=pure x:=by intro _;rfl):PE X (.ListComp elt (⟨tg,iter,ifs,0⟩::rest) scope pos) (tD X (zC mm cap fi g t kk)):=by
 intro pins s σ H Q I h;obtain⟨P,α,env,S0,r,re,af⟩:=h;rw[eval_ListComp];have af':qI X P α ((fi env S0).bind λp S1=>mkM mm (goL p.1 g t kk p.2 (zO cap env) S1 [])) (OkV X P α Q):=af;refine HT (use:=none) rfl hs (nR S I.ok) S.kind S.names ?_;refine thn (hi pins s σ H (λJ H1=>∃ (P1:Hp) (α1:Aa Ad) (p:Ak (Aj × MO) × Aa _D.D) (S1:Sto),Rel X.K H1 P1 α1 S1/\qF P P1/\α<+:α1/\ItD2 X.K J P1 α1 p.1 p.2/\qI X P α (mkM mm (goL p.1 g t kk p.2 (zO cap env) S1 [])) (OkV X P α Q)) I ⟨P,α,env,S0,r,re,?_⟩) λxv s1 h1=>thn h1 λitv s2 h2=>?_
 .cases q:fi env S0 with
  |bad=>rw[q] at af';exact af'
  |ex c x S'=>rw[q] at af';exact af'
  |ok p S1=>rw[q] at af';exact λJ H1 P1 α1 r1 e1 e2 it=>⟨P1,α1,p,S1,r1,e1,e2,it,af'⟩
 obtain⟨it,fp,tn,J,H2,rfl,I2,T,st0,hf,P1,α1,p,S1,r1,e1,e2,hit,af1⟩:=h2;obtain⟨envF,ds,SF,run,ok⟩:=eF af1;refine kX (RR:=λacc C=>compPost (Aq X.prog X.w) X.A X.xe none (EP X pins σ Q) acc C) hc S has hg ht he I2 r1 (re.mono e1 e2) T st0 hf hit run ?_;intro acc C s' hA ⟨m,hm⟩ hC hne fin;refine⟨m,hm,λh' sb=>aW (mm:=mm) (fin h' sb) ?_⟩;cases mm with
 |false=>exact λv H3 P3 α3 r3 q1 q2 q3=>ok v H3 P3 α3 r3 (e1.trans q1) (e2.trans q2) q3
 |true=>exact λv H3 P3 α3 r3 q1 q2 q3=>ok v H3 P3 α3 r3 (e1.trans q1) (e2.trans q2) q3
theorem aQ {i:Aj}{y:An}{py spos:CD}(hc:X.calm=true)(hN:X.N.Nodup)(S:CompSc X.env.scope X.N scope N' cap)(hi:PI X tg iter (tDI2 X fi))
  (hg:∀ cl C ex s₀ H₀,PG (qV X N' scope cl C ex s₀ H₀) tg (tDG (qV X N' scope cl C ex s₀ H₀) g))
  (ht:∀ cl C ex s₀ H₀,PTs (qV X N' scope cl C ex s₀ H₀) ifs t) (has:∀ g',(⟨tg,iter,ifs,0⟩::rest:Aa Bw)[0+1]? = Ab g'->g'.is_async=0) (he:∀ cl C ex s₀ H₀,PK (qV X N' scope cl C ex s₀ H₀) (λacc=>zG elt (⟨tg,iter,ifs,0⟩::rest) scope pos 0 acc (qV X N' scope cl C ex s₀ H₀).env) kk)
  (hy:X.N[i]? = Ab y:=by rfl) (hyl:Loc X.env.scope y:=by first|exact LQ rfl|exact Kn rfl) (hf:X.fn y=true\/X.env.scope.names.lookup y=Ab .local:=by first|exact .inl rfl|exact .inr rfl|assumption)
  (hsw:Fw (.ListComp elt (⟨tg,iter,ifs,0⟩::rest) scope pos) (Ab (.Name y py)) spos.line X.env=pure true:=by rfl)
  (hs:∀ x,Cc iter X.env x=pure x:=by intro _;rfl):PS X (.Assign [.Name y py] (.ListComp elt (⟨tg,iter,ifs,0⟩::rest) scope pos) spos) (tDS X (zA (zC mm cap fi g t kk) (gNm i))):=by
 intro pins s σ H D I h;obtain⟨P,α,env,S0,r,re,af⟩:=h;have af0:=x8 af;have af':qI X P α ((fi env S0).bind λp S1=>mkM mm (goL p.1 g t kk p.2 (zO cap env) S1 [])) (λd S=>qU X P α (.nx (env.set i (Ab d)) S) D):=af0;rw[exec_Assign_Name_used _ _ _ _ hsw];refine Ag (Gi (Ag ?_));show Ao _ X.A (do let _ <- comprehension (.ListComp elt (⟨tg,iter,ifs,0⟩::rest) scope pos) scope X.env _ (newList []) false (eval iter X.env) (Ab (assign (.Name y py) X.env))) _ _ s
 refine Ag (Dp (HT (use:=Ab (assign (.Name y py) X.env)) (Q:=λ_ s'=>SP X pins D .next s') rfl hs (nR S I.ok) S.kind S.names ?_) (λ_ s' hq=>As (As hq)) λ_ _ e=>e);refine thn (hi pins s σ H (λJ H1=>∃ (P1:Hp) (α1:Aa Ad) (p:Ak (Aj × MO) × Aa _D.D) (S1:Sto),Rel X.K H1 P1 α1 S1/\qF P P1/\α<+:α1/\ItD2 X.K J P1 α1 p.1 p.2/\qI X P α (mkM mm (goL p.1 g t kk p.2 (zO cap env) S1 [])) (λd S=>qU X P α (.nx (env.set i (Ab d)) S) D)) I ⟨P,α,env,S0,r,re,?_⟩) λxv s1 h1=>thn h1 λitv s2 h2=>?_
 .cases q:fi env S0 with
  |bad=>rw[q] at af';exact af'
  |ex c x S'=>rw[q] at af';exact af'
  |ok p S1=>rw[q] at af';exact λJ H1 P1 α1 r1 e1 e2 it=>⟨P1,α1,p,S1,r1,e1,e2,it,af'⟩
 obtain⟨it,fp,tn,J,H2,rfl,I2,T,st0,hfp,P1,α1,p,S1,r1,e1,e2,hit,af1⟩:=h2;obtain⟨envF,ds,SF,run,ok⟩:=eF af1;refine kX (RR:=λacc C=>compPost (Aq X.prog X.w) X.A X.xe (Ab (assign (.Name y py) X.env)) (λ_ s'=>SP X pins D .next s') acc C) hc S has hg ht he I2 r1 (re.mono e1 e2) T st0 hfp hit run ?_;intro acc C s' hA ⟨m,hm⟩ hC hne fin;show Ao _ X.A (assign (.Name y py) X.env (.ref acc)) _ _ s';obtain⟨H3,P3,α3,vs,I3,r3,hn3,q1,q2,rp,hCn⟩:=fin s'.heap (Od _ _);obtain⟨r4,e4⟩:=r3.pure (o:=.lst vs) hn3;have hCn':(upd H3 acc (.lst vs)) C=none:=by rw[qH (Df hne)];exact hCn
 have fC:=I2.fpOk hC hCn';refine Lr (fJ I3 hN hy hyl (show qJ (V.ref acc) (AN acc) from rfl) (λs5 I5 ⟨a,sb,ha⟩=>?_) hf)
 have hCa:C≠a:=by
  rcases ha with rfl|ha
  .exact fC.2.1
  .exact λz=>fC.2.2.2.2.1 _ _ ha z.symm
 refine⟨m,hm.sameBut sb hCa,λh' sb'=>?_⟩;have I6:Inv X pins (σ.set i (Ab (V.ref acc))) (upd H3 acc (.lst vs)) { s5 with heap:=h' }:=I5.turned (t':=s5.toks) (λb o hb e=>(sb'.2 b hb).trans e) hCn' fC.2.1 fC.2.2.2.1 fC.2.2.2.2.1 fC.2.2.2.2.2
 cases mm with
 |false =>
  refine⟨_,_,I6,ok _ _ (upd P3 acc (.lst vs)) α3 r4 ?_ ((e1.trans q1).trans e4) (e2.trans q2)⟩;exact((re.mono e1 e2).mono (q1.trans e4) q2).set i (bM (.inl (.inl qR)) (qD.mono e4 (A3 _) _ _ rp))
 |true =>
  have hpre:α3<+:α3++[acc]:=Eu _ _;have r5:=r3.new (o:=.lst vs) (m:=.lst ds) hn3 ⟨vs,qR,qD.mono (qF.refl _) hpre _ _ rp⟩;refine⟨_,_,I6,ok _ _ P3 (α3++[acc]) r5 ?_ (e1.trans q1) ((e2.trans q2).trans hpre)⟩;refine((re.mono e1 e2).mono q1 (q2.trans hpre)).set i ?_;simp only[Rep];exact⟨acc,rfl,by rw[<- r3.len];simp⟩
end
section
variable {prog:A0}{w:AH}{A:AF}{E:Ac->Af->Prop}{s:Af}
theorem rH {e it l:Ad}{i:Aj}{x old:Ac}(he:IZ s.heap e it i old)(hit:z0 tp s.heap it l i)(hl:zY tp s.heap l xs)(hx:xs[i]? = Ab x)(ne:e≠it)
  (hQ:∀ g,Nx g e it ((i:Am)+1) x s.heap.objs.size->z0 tp g it l (i+1)->DP g s.heap.objs.size (.int i s.toks) x->g.objs.size=s.heap.objs.size+1->(∀ b o,b≠e->b≠it->s.heap.get? b=Ab o->g.get? b=Ab o)->Q (.ref s.heap.objs.size) { s with heap:=g,toks:=s.toks+1 }) :
  Ao (Aq prog w) A (EH.«enumerate.__next__» ⟨[.ref e],[]⟩) (λfin s'=>∃ v,fin=.done (.ret v)/\Q v s') E s:=by
 obtain⟨hp,gn,dr,tk,os⟩:=s;show Ao _ _ (field (.ref e) 2 >>= _) _ _ _;refine Ag (Bm he rfl (x:=.ref it) rfl (Ag (jB hit hl hx λg1 i1 s1=>?_)))
 replace s1:CN it hp g1:=s1
 have e1:IZ g1 e it i old:=(s1.2 e ne).trans he;show Ao _ _ (field (.ref e) 3 >>= _) _ _ ⟨g1,gn,dr,tk,os⟩;refine Ag (Bm e1 rfl (x:=Dj i) rfl ?_);show Ao _ _ (field (.ref e) 4 >>= _) _ _ ⟨g1,gn,dr,tk,os⟩;refine Ag (Bm e1 rfl (x:=.none) rfl ?_);show Ao _ _ (mkInt i >>= _) _ _ ⟨g1,gn,dr,tk,os⟩;refine Ag (wpAny_mkInt ?_);show Ao _ _ (setField (.ref e) 3 (Dj ((i:Am)+1)) >>= _) _ _ ⟨g1,gn,dr,tk+1,os⟩;refine Ag (Ci e1 (by simp) λg2 e2 s2=>?_)
 replace s2:CN e g1 g2:=s2
 replace e2:IZ g2 e it ((i:Am)+1) old:=e2
 show Ao _ _ (setField (.ref e) 4 .none >>= _) _ _ ⟨g2,gn,dr,tk+1,os⟩;refine Ag (Ci e2 (by simp) λg3 e3 s3=>?_)
 replace s3:CN e g2 g3:=s3
 replace e3:IZ g3 e it ((i:Am)+1) old:=e3
 show Ao _ _ (newTuple [.int i tk,x] >>= _) _ _ ⟨g3,gn,dr,tk+1,os⟩;refine Ag (Jh ?_);have e4:IZ (g3.push { cls:=.type "tuple",data:=.seq #[.int i tk,x] }) e it ((i:Am)+1) old:=Ai _ e3;generalize q4:g3.push { cls:=.type "tuple",data:=.seq #[.int i tk,x] } = g4 at e4;have sz:g3.objs.size=hp.objs.size:=by rw[s3.1,s2.1,s1.1]
 have el:e<hp.objs.size:=Ay he;have t4:DP g4 hp.objs.size (.int i tk) x:=by rw[<- q4,<- sz];exact AB _ rfl
 have z4:g4.objs.size=hp.objs.size+1:=by rw[<- q4,CL,sz]
 have k4:∀ b o,b≠e->b≠it->hp.get? b=Ab o->g4.get? b=Ab o:=λb o b1 b2 q=>by
  rw[<- q4];exact Ai _ (s3.extBut b o b1 (s2.extBut b o b1 (s1.extBut b o b2 q)))
 have i4:z0 tp g4 it l (i+1):=i1.keep λo q=>by rw[<- q4];exact Ai _ (s3.extBut _ o ne.symm (s2.extBut _ o ne.symm q))
 show Ao _ _ (Bv (.ref e) >>= _) _ _ ⟨g4,gn,dr,tk+1,os⟩;rw[sz];refine Ag ?_;unfold Bv;refine Ag (Bm e4 rfl (x:=.none) rfl (As ?_));simp only[Bq];refine Ag (D7 (Ag (Bm e4 rfl (x:=old) rfl (Ag (Ci e4 (by simp) λg5 e5 s5=>?_)))))
 replace s5:CN e g4 g5:=s5
 replace e5:IZ g5 e it ((i:Am)+1) x:=e5
 show Ao _ _ (De (.ref e) (.ref hp.objs.size) >>= _) _ _ ⟨g5,gn,dr,tk+1,os⟩;refine Ag ?_;unfold De;refine Ag (Ci e5 (by simp) λg6 e6 s6=>?_)
 replace s6:CN e g5 g6:=s6
 replace e6:Nx g6 e it ((i:Am)+1) x hp.objs.size:=e6
 refine Ci e6 (by simp) λg7 e7 s7=>?_
 replace s7:CN e g6 g7:=s7
 replace e7:Nx g7 e it ((i:Am)+1) x hp.objs.size:=e7
 have up:∀ b o,b≠e->g4.get? b=Ab o->g7.get? b=Ab o:=λb o b1 q=>s7.extBut b o b1 (s6.extBut b o b1 (s5.extBut b o b1 q));exact Ag (IY (As ⟨_,rfl,hQ g7 e7 (i4.keep λo q=>up _ o ne.symm q) (up _ _ (En el) t4) (by rw[s7.1,s6.1,s5.1,z4]) λb o b1 b2 q=>up b o b1 (k4 b o b1 b2 q)⟩))
set_option maxHeartbeats 4000000 in
set_option tactic.hygienic true in
theorem aZ (tp:Ap)(l:Ad)(xs:A6 Ac) :
  Meets (EH.«enumerate.__new__» ⟨[.type "enumerate",.ref l],[]⟩) (λ_ R s=>(∃ n dct sl,s.heap.get? l=Ab { cls:=.type (if tp then "tuple" else "list"),dict:=dct,data:=.seq xs n,slots:=sl }) /\ R (.ok (.ret (.ref (s.heap.push (y8 tp l)).objs.size))) { s with heap:=(s.heap.push (y8 tp l)).push { cls:=.type "enumerate",data:=.fields #[.none,.bool false,.ref s.heap.objs.size,Dj 0,.none,.none] } }):=
 .of_wp λprog w A R s h=>by
  obtain⟨hp,gn,dr,tk,os⟩:=s;obtain⟨⟨n,dct,sl,hl⟩,h⟩:=h;have hsub:=sub_enumerate;cases tp
  .have L1:LW (Gn ⟨hp,gn,dr,tk,os⟩) l xs:=⟨_,hl,rfl,n,rfl⟩
   wp_walk using Dg hl
   refine Mp λst=>As ?_
   split
   .rename_i c _ _ _ _ _
    cases (c == DR "enumerate") <;> (wp_walk using Dg hl,Do L1;exact⟨_,rfl,h⟩)
   .wp_walk using Dg hl,Do L1;exact⟨_,rfl,h⟩
  .have L1:Lj (Gn ⟨hp,gn,dr,tk,os⟩) l xs:=⟨_,hl,rfl,n,rfl⟩
   wp_walk using Dg hl
   refine Mp λst=>As ?_
   split
   .rename_i c _ _ _ _ _
    cases (c == DR "enumerate") <;> (wp_walk using Dg hl,D1 L1;exact⟨_,rfl,h⟩)
   .wp_walk using Dg hl,D1 L1;exact⟨_,rfl,h⟩
theorem r9 {tp:Ap}{l:Ad}{xs:A6 Ac}{Q:Ac->Af->Prop}(hl:∃ n dct sl,s.heap.get? l=Ab { cls:=.type (if tp then "tuple" else "list"),dict:=dct,data:=.seq xs n,slots:=sl })
  (h:∀ g,IZ g (s.heap.objs.size+1) s.heap.objs.size 0 .none->z0 tp g s.heap.objs.size l 0->(∀ b o,s.heap.get? b=Ab o->g.get? b=Ab o)->Q (.ref (s.heap.objs.size+1)) { s with heap:=g }) :
  Ao (Aq prog w) A (call (.type "enumerate") [.ref l]) Q E s:=by
 refine Ll F.called_enumerate (by decide) (F.typeCall_enumerate_1 _) (F.newCall_enumerate_1 _) (λobj=>F.args_object_init_2 obj _) F.entry_enumerate_new (aZ tp l xs) ⟨hl,?_⟩
 have hz:(s.heap.push (y8 tp l)).objs.size=s.heap.objs.size+1:=CL ..;show _/\_;have he:((s.heap.push (y8 tp l)).push { cls:=.type "enumerate",data:=.fields #[.none,.bool false,.ref s.heap.objs.size,Dj 0,.none,.none] }).get? (s.heap.push (y8 tp l)).objs.size=Ab _:=AB _ rfl;rw[hz] at he ⊢;exact⟨⟨_,he,rfl⟩,h _ he (j6 (Ai _ (AB _ rfl))) λb o x=>Ai _ (Ai _ x)⟩
end
noncomputable def Ite (tp:Ap)(K:Ah)(a:Ad):It:=
  ⟨λi H=>∃ xs x,Sq tp K H a xs/\xs[i]? = Ab x,
   λi H v H'=>∃ T x,v=.ref T/\H T=none/\H'=upd H T (.tup [.int i,x])/\∀ xs,Sq tp K H a xs->xs[i]? = Ab x,
   λi H=>∃ xs,Sq tp K H a xs/\xs.length<=i⟩
def sU (tp:Ap)(e it l:Ad)(k:Aj)(h:A8):Prop:=∃ old,IZ h e it k old/\z0 tp h it l k
theorem cG {P:A0}{w:AH}{K:Ah}{elts:Aa AE}{x1:Aj}{tpos:CD}{e it a:Ad}(ne:e≠it):Turn P w K (.Tuple elts x1 tpos) (Ite tp K a) [e,it] e (sU tp e it a) where
 mem:=by simp
 obj:=λk h st c hc=>by
  obtain⟨old,s1,s2⟩:=st;simp only[AR,Cu,E1] at hc;rcases hc with rfl|rfl
  .exact⟨_,s1,λv y=>by cases y⟩
  .exact s2.there
 keep:=λk h h' st kp=>by
  obtain⟨old,s1,s2⟩:=st;exact⟨old,kp e (by simp) _ s1,s2.keep λo q=>kp it (by simp) o q⟩
 item:=by
  intro X hP hw hK hc k pins s σ H E Iv hf st hg;subst hP hw hK;obtain⟨old,s1,s2⟩:=st;obtain⟨xs,x,qa,hx⟩:=hg;obtain⟨ia,ra,ha⟩:=qa.at Iv;obtain⟨u,hu,ru⟩:=ra.get hx;have hT:s.TypeIs (.ref e) "enumerate":=⟨_,s1,rfl⟩;unfold HW;refine Ag (Ez (Cy (name:=Eo "__next__") hT E8 (CV E8 hT IN
   (rH s1 s2 ha (by simpa using hu) ne λh' a1 a2 a3 a4 a5=>As ?_) (Iw _))))
  refine⟨_,rfl,wpAny_letOwnedTupleGo_enum (s:={ s with heap:=h',toks:=s.toks+1 }) a1 λh2 b1 b2=>?_⟩
  have up:∀ c o,c≠e->h'.get? c=Ab o->h2.get? c=Ab o:=λc o n q=>(b2.2 c n).trans q;have el:e<s.heap.objs.size:=Ay s1;have T2:DP h2 s.heap.objs.size (.int k s.toks) u:=up _ _ (En el) a3;have st2:sU tp e it a (k+1) h2:=⟨u,b1,a2.keep λo q=>up _ o ne.symm q⟩;refine⟨.ref s.heap.objs.size,upd H s.heap.objs.size (.tup [.int k,x]),?_,rfl,⟨_,x,rfl,Iv.hok.fresh (Ar _),rfl,λzs qz=>by rw[qz.inj Iv qa];exact hx⟩,st2,λc hc=>?_⟩
  .have:=Inv.turnLay (fp:=[e,it]) (its:=[.int k s.toks,u]) (h':=h2) (xs:=[.int k,x]) Iv hf (λc o hc q=>by
    simp only[AR,Cu,E1,not_or] at hc;exact up c o hc.1 (a5 c o hc.1 hc.2 q)) (λc hc=>by
    obtain⟨old',t1,t2⟩:=st2;simp only[AR,Cu,E1] at hc;rcases hc with rfl|rfl
    .exact⟨_,t1⟩
    .obtain⟨o,q,_⟩:=t2.there;exact⟨o,q⟩) (Ar _) (.cons ⟨_,rfl⟩ (.cons ru .nil)) ⟨_,T2,rfl,_,rfl⟩ (by show 2<=sizeLine;decide)
   exact this.tok (s.toks+1)
  .have hn:=(hf c hc).1
   rw[qH ?_]
   .exact hn
   .rintro rfl
    obtain⟨o,q,_⟩:∃ o,s.heap.get? s.heap.objs.size=Ab o/\Fy:=by
     simp only[AR,Cu,E1] at hc;rcases hc with z|z
     .exact⟨_,z▸s1,trivial⟩
     .obtain⟨o,e',_⟩:=s2.there;exact⟨o,z▸e',trivial⟩
    exact absurd (Ay q) (Bn _)
 done:=by
  intro X hP hw hK hc k pins s σ H E Iv hf st hg;subst hP hw hK;obtain⟨old,s1,s2⟩:=st;obtain⟨xs,qa,hend⟩:=hg;obtain⟨ia,ra,ha⟩:=qa.at Iv;have hT:s.TypeIs (.ref e) "enumerate":=⟨_,s1,rfl⟩;have l1:=ra.length;unfold HW;refine Ag (Ez (Cy (name:=Eo "__next__") hT E8 (CV E8 hT IN ?_ (Iw _))));show Ao _ _ (field (.ref e) 2 >>= _) _ _ _;refine Ag (Bm s1 rfl (x:=.ref it) rfl (Ag (v7 (Iv.ok.hd hc) s2 ha (by simp;omega) λh' x kp hx'=>?_)))
  obtain⟨o,ho,hcl⟩:=hx';refine Ag (LZ (T:="StopIteration") (b:=true) ⟨o,ho,hcl⟩ isSubtype_stop (As ⟨rfl,Inv.turnL (fp:=[e,it]) Iv hf λc o hc q=>?_⟩));simp only[AR,Cu,E1,not_or] at hc;exact kp c o hc.2 q
 self:=λ_ _ _ _ _ st h=>by
  obtain⟨old,s1,_⟩:=st;exact L8 s1 h
noncomputable def wG (xs:Aa D):Aa D:=xs.mapIdx λi x=>D.tup [.int i,x]
noncomputable def Q4 (ds:Aa D):Ak (Aa D):=match ds with
 |[.tup xs]=>Ab (wG xs)
 |[.lst xs]=>Ab (wG xs)
 |_=>none
noncomputable def fQ (f:DA):DI:=λenv S=>(f env S).bind λds S1=>wW (Q4 ds) S1
theorem rG (xs:Aa D)(i:Aj):(wG xs)[i]? = (xs[i]?).map λx=>D.tup [.int i,x]:=by
 unfold wG;rw[List.getElem?_mapIdx]
theorem jY (xs:Aa D):(wG xs).length=xs.length:=by simp[wG]
theorem iE {K:Ah}{P:Hp}{a:Ad}{xs:Aa D}(qa:Sq tp K P a vs)(ta:qD K P α xs vs):ItD K (Ite tp K a) P α (wG xs) where
 go:=λi H P1 α1 S hi r e _=>by
  rw[jY] at hi;have h1:i<vs.length:=by rw[<- ta.length];omega
  exact⟨vs,vs[i],qa.mono (e.trans r.sub),by simp⟩
 yld:=λi H x H' P1 α1 S hi r e e2 y=>by
  obtain⟨T,u,rfl,hT,rfl,hu⟩:=y;rw[jY] at hi;obtain⟨v1,z1,p1⟩:=ta.get (Ax hi);have eu:=hu vs (qa.mono (e.trans r.sub));rw[z1] at eu;cases eu;obtain⟨r1,s1⟩:=r.pure (o:=.tup [.int i,u]) hT;refine⟨_,.tup [.int i,xs[i]],?_,r1,s1,?_⟩
  .rw[rG,Ax hi];rfl
  .exact bN (.of qR) (.cons (by simp only[Rep]) (.cons (Rep.mono (e.trans s1) e2 _ _ p1) .nil))
 stop:=λi H P1 α1 S hi r e _=>by
  rw[jY] at hi;have l1:=ta.length;exact⟨vs,qa.mono (e.trans r.sub),by omega⟩
section
variable {X:Cx}{e1:AE}{elts:Aa AE}{x1:Aj}{tpos:CD}{f:DA}{p pos:CD}
theorem Sq.obj {pins:Aa (Ad × AL)}{σ:_L.St}{H:Hp}{s:Af}{a:Ad}{xs:Aa V}(I:Inv X pins σ H s)(q:Sq tp X.K H a xs):∃ its:Aa Ac,qK xs its/\∃ n dct sl,s.heap.get? a=Ab { cls:=.type (if tp then "tuple" else "list"),dict:=dct,data:=.seq its.toArray n,slots:=sl }:=by
 obtain⟨its,rv,h⟩:=q.at I;refine⟨its,rv,?_⟩;cases tp with
 |true =>
  obtain⟨o,ho,hc,n,hd⟩:=h;obtain⟨c,d,dt,sl⟩:=o;dsimp only at hc hd;subst hc;subst hd;exact⟨n,_,_,ho⟩
 |false =>
  obtain⟨o,ho,hc,n,hd⟩:=h;obtain⟨c,d,dt,sl⟩:=o;dsimp only at hc hd;subst hc;subst hd;exact⟨n,_,_,ho⟩
theorem nY {pins:Aa (Ad × AL)}{σ:_L.St}{H P:Hp}{s:Af}{a:Ad}{xs:Aa D}(I:Inv X pins σ H s)(r:Rel X.K H P α S)(qa:Sq tp X.K P a vs)(ta:qD X.K P α xs vs)
  (q:OkI X P α R (wG xs) S):Ao (Aq X.prog X.w) X.A (call (.type "enumerate") [.ref a]) (λv s1=>Ao (Aq X.prog X.w) X.A (HX v) (PIE X pins σ (.Tuple elts x1 tpos) R) X.xe s1) X.xe s:=by
 obtain⟨ia,ra,ha⟩:=Sq.obj I (qa.mono r.sub);refine r9 (tp:=tp) ha λh' z1 z2 z7=>?_;refine L8 (s:={ s with heap:=h' }) z1 ?_
 refine⟨_,[s.heap.objs.size+1,s.heap.objs.size],_,_,H,rfl,I.kept (t':=s.toks) z7,cG (tp:=tp) (a:=a) (by intro z;simp at z),⟨_,z1,z2⟩,λc hc=>?_,q _ _ P α r (qF.refl _) (A3 _) (iE qa ta)⟩
 have hl:s.heap.objs.size<=c:=by
  simp only[AR,Cu,E1] at hc;rcases hc with rfl|rfl <;> simp
 exact I.fpOk hl (I.hok.fresh hl)
theorem pR:Cw "enumerate" = Ab (.type "enumerate"):=by decide +kernel
theorem aY (h:Q4 ds=Ab its):∃ d xs,ds=[d]/\ItV d xs/\its=wG xs:=by
 cases ds with
 |nil=>exact nn h
 |cons d ds =>
  cases ds with
  |cons _ _=>cases d <;> exact nn h
  |nil =>
   cases d with
   |tup xs=>exact⟨_,xs,rfl,.tup rfl,(AQ h).symm⟩
   |lst xs=>exact⟨_,xs,rfl,.lst rfl,(AQ h).symm⟩
   |_=>exact nn h
theorem ZR (hg:Gl X "enumerate")(hm:X.mg "enumerate" = none)(ha:PA X [e1] (tDA X f))(hs:Av [e1] X.env=(false,eval e1 X.env)::Av [] X.env:=by rfl)(hpl:(CB pos (Av [] X.env)).any (·.1)=false:=by rfl) :
  PI X (.Tuple elts x1 tpos) (.Call (.Name "enumerate" p) [e1] [] pos) (tDI X (fQ f)):=by
 intro pins s σ H R I h;obtain⟨P,α,env,S,r,re,af⟩:=h;refine Nq (xX I hg hm pR (Cn (thn (xB ha I r re af pos) λus s1 ⟨vs,H1,P1,α1,ds,S1,I1,rv,r1,re1,rp,e1,e2,af1⟩=>?_) hs hpl));obtain⟨its,hi,q⟩:=wX af1;obtain⟨d,xs,rfl,hd,rfl⟩:=aY hi;obtain⟨v,u,rfl,rfl,p1,q1⟩:=y9 rp rv;cases hd with
 |tup ed =>
  subst ed;simp only[Rep] at p1;obtain⟨a,va,rfl,qa,ta⟩:=p1;cases (show u=AN a from q1)
  exact nY (tp:=true) I1 r1 qa ta (q.base e1 e2)
 |lst ed =>
  subst ed;simp only[Rep] at p1;obtain⟨a,va,rfl,qa,ta⟩:=p1;cases (show u=AN a from q1)
  exact nY (tp:=false) I1 r1 qa.l ta (q.base e1 e2)
end
section
variable {X:Cx}
noncomputable def xZ:Aa D->Ak (Aa Am)
 |[]=>Ab []
 |.int i::r=>(xZ r).map (i::·)
 |_::_=>none
theorem bZ (ns:Aa Am):xZ (ns.map D.int)=Ab ns:=by
 induction ns with
 |nil=>rfl
 |cons n r ih=>exact congrArg (Option.map (n::·)) ih
theorem uY:∀ {ds:Aa D} {ns:Aa Am},xZ ds=Ab ns->ds=ns.map D.int
 |[],ns,h=>by cases h;rfl
 |d::r,ns,h=>by
  cases d with
  |int i =>
   obtain⟨m,h1,rfl⟩:=Br.mp (show (xZ r).map (i::·)=Ab ns from h)
   rw[uY h1];rfl
  |_=>exact nn h
theorem vM {K:Ah}{P:Hp}:∀ {ns:Aa Am} {vs:Aa V},qD K P α (ns.map D.int) vs->vs=ns.map V.int
 |[],vs,r=>by rw[r.nil_inv];rfl
 |n::ns,vs,r=>by
  obtain⟨w,ws,rfl,p,t⟩:=r.cons_inv;simp only[Rep] at p;rw[p,vM t];rfl
end
section
variable {X:Cx}
noncomputable def dJ (ns:Aa Am):Aj:=(ns.foldl Mw []).length
theorem jO (ns:Aa Am):firstMet (λi=>ns.getD i 0) ns.length=ns.foldl Mw []:=by
 unfold firstMet
 congr 1
 apply L9;intro i;rw[Ce];by_cases h:i<ns.length
 .simp[h]
 .simp[h]
theorem cU:Cw "set" = Ab (.type "set"):=by decide +kernel
variable {e:AE}{fa:DE}{p1 p2 pos1 pos2:CD}
end
structure QI2 (X:Cx)(tg it:AE)(f:DI2):Prop where
 get:PI X tg it (tDI2 X f)
structure QK (Y:Cx)(step:Ac->EE Ho)(k:DK):Prop where
 get:PK Y step k
section
variable {X Y:Cx}{tg it e o elt iter ie:AE}{es ifs rest:Aa AE}{fa fo fe fi:DE}{fA:DA}{fI:DI}{f2:DI2}{g:DG}{t:DT}{kk:DK}{p pos:CD}{n k:Aj}{x:An}{cm:Ap}{F:DF}{f:DS}{gens grest:Aa Bw}{scope:Bu}{N':Aa An}{cap:Aa (Ak Aj)}{mm:Ap}
theorem hJ (h:QI X tg it fI):QI2 X tg it (vO fI):=⟨ZS h.1⟩
theorem JX (h:QE X e fa):QI2 X tg e (dIt fa):=⟨GM h.1⟩
theorem WM {e1:AE}{elts:Aa AE}{x1:Aj}{tpos:CD}(hg:Gl X "enumerate")(hm:X.mg "enumerate" = none)(ha:QA X [e1] fA)(hs:Av [e1] X.env=(false,eval e1 X.env)::Av [] X.env:=by rfl)(hpl:(CB pos (Av [] X.env)).any (·.1)=false:=by rfl) :
  QI X (.Tuple elts x1 tpos) (.Call (.Name "enumerate" p) [e1] [] pos) (fQ fA):=⟨ZR hg hm ha.1 hs hpl⟩
theorem lI (hx:Y.xe=λ_ _=>Cp)(hlast:gens[k+1]? = none)(he:QE Y elt fe):QK Y (λacc=>zG elt gens scope pos k acc Y.env) (zJ fe):=⟨W9 hx hlast he.1⟩
theorem BD (hc:Y.calm=true)(hx:Y.xe=λ_ _=>Cp)(hgk:gens[k+1]? = Ab ⟨tg,iter,ifs,0⟩)(has:∀ g',gens[k+1+1]? = Ab g'->g'.is_async=0)(hi:QI2 Y tg iter f2)(hg:QG Y tg g)(ht:QTs Y ifs t)(he:QK Y (λacc=>zG elt gens scope pos (k+1) acc Y.env) kk)(hs:∀ x,Cc iter Y.env x=pure x) :
  QK Y (λacc=>zG elt gens scope pos k acc Y.env) (kIn f2 g t kk):=⟨B8 hc hx hgk has hi.1 hg.1 ht.1 he.1 hs⟩
theorem oB (hc:X.calm=true)(S:CompSc X.env.scope X.N scope N' cap)(hi:QI2 X tg iter f2)(hg:∀ cl C ex s₀ H₀,QG (qV X N' scope cl C ex s₀ H₀) tg g)(ht:∀ cl C ex s₀ H₀,QTs (qV X N' scope cl C ex s₀ H₀) ifs t)
  (has:∀ g',(⟨tg,iter,ifs,0⟩::grest:Aa Bw)[0+1]? = Ab g'->g'.is_async=0)
  (he:∀ cl C ex s₀ H₀,QK (qV X N' scope cl C ex s₀ H₀) (λacc=>zG elt (⟨tg,iter,ifs,0⟩::grest) scope pos 0 acc (qV X N' scope cl C ex s₀ H₀).env) kk) (hs:∀ x,Cc iter X.env x=pure x) :
  QE X (.ListComp elt (⟨tg,iter,ifs,0⟩::grest) scope pos) (zC mm cap f2 g t kk):=
 ⟨aI hc S hi.1 (λcl C ex s H=>(hg cl C ex s H).1) (λcl C ex s H=>(ht cl C ex s H).1) has (λcl C ex s H=>(he cl C ex s H).1) hs⟩
theorem oE {y:An}{py spos:CD}(hc:X.calm=true)(hN:X.N.Nodup)(S:CompSc X.env.scope X.N scope N' cap)(hi:QI2 X tg iter f2)(hg:∀ cl C ex s₀ H₀,QG (qV X N' scope cl C ex s₀ H₀) tg g)(ht:∀ cl C ex s₀ H₀,QTs (qV X N' scope cl C ex s₀ H₀) ifs t)
  (has:∀ g',(⟨tg,iter,ifs,0⟩::grest:Aa Bw)[0+1]? = Ab g'->g'.is_async=0)
  (he:∀ cl C ex s₀ H₀,QK (qV X N' scope cl C ex s₀ H₀) (λacc=>zG elt (⟨tg,iter,ifs,0⟩::grest) scope pos 0 acc (qV X N' scope cl C ex s₀ H₀).env) kk) (hy:X.N[m]? = Ab y) (hyl:Loc X.env.scope y) (hf:X.fn y=true\/X.env.scope.names.lookup y=Ab .local)
  (hsw:Fw (.ListComp elt (⟨tg,iter,ifs,0⟩::grest) scope pos) (Ab (.Name y py)) spos.line X.env=pure true) (hs:∀ x,Cc iter X.env x=pure x):QS X (.Assign [.Name y py] (.ListComp elt (⟨tg,iter,ifs,0⟩::grest) scope pos) spos) (zA (zC mm cap f2 g t kk) (gNm m)):=
 ⟨aQ hc hN S hi.1 (λcl C ex s H=>(hg cl C ex s H).1) (λcl C ex s H=>(ht cl C ex s H).1) has (λcl C ex s H=>(he cl C ex s H).1) hy hyl hf hsw hs⟩
end
noncomputable def jK (H:Hp):Aa (Ad × HO)->Hp
 |[]=>H
 |p::ps=>jK (upd H p.1 p.2) ps
theorem bQ {b:Ad}:∀ {L:Aa (Ad × HO)} {H:Hp},b ∉ L.map (·.1)->jK H L b=H b
 |[],_,_=>rfl
 |p::ps,H,h=>by
  simp only[Cf,AR,not_or] at h;show jK (upd H p.1 p.2) ps b=H b;rw[bQ h.2,qH h.1]
theorem tX {b:Ad}{u:HO}:∀ {L:Aa (Ad × HO)} {H:Hp},jK H L b=Ab u->(b,u)∈L\/H b=Ab u
 |[],_,h=>.inr h
 |p::ps,H,h=>by
  rcases tX (L:=ps) (H:=upd H p.1 p.2) h with h|h
  .exact .inl (Ba _ h)
  .by_cases hb:b=p.1
   .subst hb
    rw[qR] at h;cases h;exact .inl (CQ ..)
   .rw[qH hb] at h
    exact .inr h
section
variable {X:Cx}{pins:Aa (Ad × AL)}{σ : _L.St}{H:Hp}{s:Af}
theorem Inv.laidL {L:Aa (Ad × HO)}{t':Aj}(I:Inv X pins σ H s)(k:∀ b u,s.heap.get? b=Ab u->h'.get? b=Ab u)(hp:∀ p∈L,s.heap.objs.size<=p.1)(new:∀ p∈L,qY X.prog X.w (jK H L) h' p.1 p.2) :
  Inv X pins σ (jK H L) { s with heap:=h',toks:=t' }:=by
 have old:∀ b u,H b=Ab u->jK H L b=Ab u:=λb u e=>by
  rw[bQ (L:=L)]
  .exact e
  .intro hb
   obtain⟨p,hp',rfl⟩:=Bs.mp hb;rw[I.hok.fresh (hp p hp')] at e;cases e
 have low:∀ b,b<s.heap.objs.size->jK H L b=H b:=λb hb=>bQ λhm=>by
  obtain⟨p,hp',rfl⟩:=Bs.mp hm;exact absurd (Aw hb (hp p hp')) (Bn _)
 refine I.un ⟨λb u q _ _ _=>k b u q,λb u q _ _ _=>⟨u.slots,k b u q⟩,λb u q n _=>by rw[low b (Ay q)];exact n,λb u q _=>⟨u,k b u q⟩,λb xs q=>old b _ q,λb o xs q=>old b _ q,λb ps q=>⟨#[],by rw[old b _ q];simp⟩⟩ λb u e=>?_
 rcases tX e with hm|hb
 .exact new (b,u) hm
 .exact(I.hok b u hb).stay (λc v _ q=>k c v q) (λc q=>old c _ q) λc xs q=>old c _ q
end
theorem r8:Cw "list" = Ab (.type "list"):=by decide +kernel
end _D
namespace _S
open PySem
open PySem.SetTable (Probe leap runEnd turns bits)
noncomputable def adv (mask:Aj)(p:Ny):Ny:=if p.more>0 then { p with j:=p.j+1,more:=p.more-1 } else { p with j:=(leap mask p.i p.perturb).1,more:=runEnd mask (leap mask p.i p.perturb).1-(leap mask p.i p.perturb).1,i:=(leap mask p.i p.perturb).1,perturb:=(leap mask p.i p.perturb).2 }
noncomputable def it (mask:Aj):Aj->Ny->Ny
 |0,p=>p
 |n+1,p=>it mask n (adv mask p)
noncomputable def rs (mask i pert:Aj):Ny:={ j:=i,more:=runEnd mask i-i,i,perturb:=pert,dummy:=none }
noncomputable def st (mask:Aj)(h:Am):Ny:=rs mask (bits h % (mask+1)) (bits h)
end _S
namespace _S
open PySem
open PySem.SetTable (Probe leap runEnd turns bits)
structure Own (mask:Aj)(owner:A6 (Ak Aj))(us:Aa Aj):Prop where
 size:owner.size=mask+1
 nd:us.Nodup
 le:∀ u∈us,u<=mask
 at':∀ j k,j<=mask->(owner.getD j (Ab 0)=Ab k↔us[k]? = Ab j)
theorem Own.none {mask:Aj}{owner:A6 (Ak Aj)}{us:Aa Aj}(O:Own mask owner us){j:Aj}(hj:j<=mask):(owner.getD j (Ab 0)).isNone=true↔j ∉ us:=by
 constructor
 .intro h hm
  obtain⟨k,hk,e⟩:=CT.mp hm;have:=(O.at' j k hj).mpr (by rw[Ax hk,e])
  rw[this] at h;cases h
 .intro h
  cases q:owner.getD j (Ab 0) with
  |none=>rfl
  |some k=>exact absurd (Be ((O.at' j k hj).mp q)) h
end _S
namespace _S
open PySem
open PySem.SetTable (Probe leap runEnd turns bits)
def Sup (h0 h:A8):Prop:=∀ b o,h0.get? b=Ab o->h.get? b=Ab o
def isT (prog:A0)(w:AH)(h0:A8)(ks:Aa Am)(v:Ac):Prop:=∃ a,v=.ref a/\Ik (Ej prog w) h0 ks a
section
variable {prog:A0}{w:AH}{h0:A8}
theorem isT.inj {x y:Aa Am}{v:Ac}(hx:isT prog w h0 x v)(hy:isT prog w h0 y v):x=y:=by
 obtain⟨a,rfl,h1⟩:=hx;obtain⟨b,e,h2⟩:=hy;cases e;exact h1.inj h2
theorem cE {h:A8}{ks:Aa Am}{a:Ad}(hS:Sup h0 h)(hx:Ik (Ej prog w) h0 ks a):Ik (Ej prog w) h ks a:=by
 obtain⟨o,items,n,ho,r⟩:=hx;exact⟨o,items,n,hS _ _ ho,r⟩
variable {A:AF}{E:Ac->Af->Prop}{s:Af}
end
end _S
namespace _S
open PySem
open PySem.SetTable (Probe leap runEnd turns bits)
@[reducible] def setO (es:A6 (Am × Ac))(ep:Aj)(t:SetTable):AL:={ cls:=.type "set",dict:=none,data:=.set es ep t }
end _S
namespace _S
open PySem
open PySem.SetTable (Probe leap runEnd turns bits)
def isI (prog:A0)(w:AH)(k:Am)(v:Ac):Prop:=(Ej prog w).is k v=true
section
variable {prog:A0}{w:AH}{A:AF}{E:Ac->Af->Prop}{s:Af}{S:Ad}{led:Ap}{V:Aa Ac}
set_option tactic.hygienic true in
theorem yN {k:Am}{v:Ac}(h:isI prog w k v):∃ t,v=.int k t:=by
 cases v <;> first|(exact absurd h (by rintro⟨⟩)) | skip
 rename_i i t;refine⟨t,?_⟩;have:i=k:=(Ej prog w).inj (.int i t) i k (Mx _ _ _ _) h;rw[this]
end
end _S
namespace _S
open PySem
noncomputable def itO (slot i:Aj)(S:Ad)(n ep:Aj):AL:={ cls:=.type "set_iterator",data:=.fields #[.int slot 0,.int i 0,.ref S,.int n 0,.int ep 0] }
def At (w:AH)(I S:Ad)(es:A6 (Am × Ac))(ep:Aj)(t:SetTable)(i:Aj)(h:A8):Prop:=
 ∃ slot,h.get? I=Ab (itO slot i S es.size ep)/\h.get? S=Ab (setO es ep t)/\(w.params.followText "set-order" = true\/SetTable.below t.place slot=i)
section
variable {prog:A0}{w:AH}{A:AF}{E:Ac->Af->Prop}{s:Af}{S I:Ad}{es:A6 (Am × Ac)}{ep:Aj}{t:SetTable}
theorem At.type {i:Aj}(h:At w I S es ep t i s.heap):s.TypeIs (.ref I) "set_iterator":=by
 obtain⟨slot,h,_⟩:=h;exact⟨_,h,rfl⟩
end
end _S
namespace _S
open PySem PySem.W PyProof.Rows
variable {arr m:A6 A7}{vs:Aa Ac}{n lo:Aj}
structure Ord {K:Type}(lt:K->K->Ap):Prop where
 irr:∀ a,lt a a=false
 tr:∀ {a b c},lt a b=true->lt b c=true->lt a c=true
 tri:∀ {a b},lt a b=false->a=b\/lt b a=true
noncomputable def ltI (a b:Am):Ap:=decide (a<b)
theorem M4:Ord ltI:=⟨λa=>by simp[ltI],λ{a b c} h1 h2=>by simp only[ltI,AI] at *;omega,λ{a b} h=>by simp only[ltI,AI,Ep] at *;omega⟩
theorem lB:∀ a:Aa Am,_H.lexLt a a=false
 |[]=>rfl
 |x::xs=>by rw[_H.lexLt_cons,AA rfl];exact lB xs
theorem eC:∀ {a b c:Aa Am},_H.lexLt a b=true->_H.lexLt b c=true->_H.lexLt a c=true
 |_,[],[],_,h=>by cases h
 |_,_::_,[],_,h=>by cases h
 |[],_,_::_,_,_=>rfl
 |_::_,[],_::_,h,_=>by cases h
 |x::xs,y::ys,z::zs,h1,h2=>by
  rw[_H.lexLt_cons] at h1 h2 ⊢;by_cases e1:x=y
  .subst e1
   rw[AA rfl] at h1;by_cases e2:x=z
   .rw[AA e2] at h2 ⊢;exact eC h1 h2
   .rw[AD e2] at h2 ⊢;exact h2
  .rw[AD e1] at h1
   have h1:=AU h1;by_cases e2:y=z
   .subst e2;rw[AD e1];exact By h1
   .rw[AD e2] at h2
    have h2:=AU h2;rw[AD (by omega)]
    exact By (by omega)
theorem lC:∀ {a b:Aa Am},_H.lexLt a b=false->a=b\/_H.lexLt b a=true
 |[],[],_=>.inl rfl
 |[],_::_,h=>by cases h
 |_::_,[],_=>.inr rfl
 |x::xs,y::ys,h=>by
  rw[_H.lexLt_cons] at h ⊢;by_cases e:x=y
  .subst e
   rw[AA rfl] at h ⊢;rcases lC h with h|h
   .exact .inl (by rw[h])
   .exact .inr h
  .rw[AD e] at h
   have h:=of_decide_eq_false h;rw[AD (Df e)];exact .inr (By (by omega))
theorem tH:Ord _H.lexLt:=⟨lB,eC,lC⟩
theorem bX {α:Type}{p q:α->Ap}:∀ {l:Aa α},(∀ x∈l,p x=true->q x=true)->(∃ x∈l,q x=true/\p x=false)->l.countP p<l.countP q
 |[],_,⟨x,h,_⟩=>by simp at h
 |a::l,h,⟨x,hx,h1,h2⟩=>by
  have le:l.countP p<=l.countP q:=Ja λy hy=>h y (by simp[hy])
  rw[Mb,Mb];rcases AR.mp hx with rfl|hx
  .rw[AD (by rw[h2];decide),AA h1];omega
  .have ih:=bX (l:=l) (λy hy=>h y (by simp[hy])) ⟨x,hx,h1,h2⟩
   have:=h a (by simp)
   cases hp:p a with
   |false=>rw[AD (by decide)];split <;> omega
   |true=>rw[AA rfl,AA (this hp)];omega
section
variable {K:Type}{lt':K->K->Ap}
noncomputable def jE (lt':K->K->Ap)(ks:Aa K)(x:K):Am:=(ks.countP (λk=>lt' k x):Aj)
theorem tL (O:Ord lt'){ks:Aa K}{x y:K}(hx:x∈ks):lt' x y=decide (jE lt' ks x<jE lt' ks y):=by
 unfold jE;cases h:lt' x y with
 |true =>
  refine(By ?_).symm;have:=bX (l:=ks) (p:=λk=>lt' k x) (q:=λk=>lt' k y) (λz _ hz=>O.tr hz h) ⟨x,hx,h,O.irr x⟩;omega
 |false =>
  refine(Bo ?_).symm;have:ks.countP (λk=>lt' k y)<=ks.countP (λk=>lt' k x):=by
   rcases O.tri h with e|h'
   .rw[e];exact Ar _
   .exact Ja λz _ hz=>O.tr hz h'
  omega
noncomputable def pO (lt':K->K->Ap)(ks:Aa K)(d:K)(i j:Aj):Ap:=lt' (ks.getD i d) (ks.getD j d)
def Nf (lt':K->K->Ap)(l:Aa K):Prop:=l.Pairwise λa b=>lt' b a=false
theorem kO (O:Ord lt'):∀ {a b:Aa K},Nf lt' a->Nf lt' b->a.Perm b->a=b
 |[],b,_,_,p=>(List.nil_perm.mp p).symm
 |x::a,b,ha,hb,p=>by
  cases b with
  |nil=>exact absurd p.symm (by simp)
  |cons y b =>
   unfold Nf at ha hb;rw[Kx] at ha hb;have e:x=y:=by
    rcases AR.mp (p.mem_iff.mp (.head _)) with e|e
    .exact e
    .rcases AR.mp (p.mem_iff.mpr (.head _)) with e'|e'
     .exact e'.symm
     .have h1:=ha.1 y e'
      have h2:=hb.1 x e;rcases O.tri h1 with e|h
      .exact e.symm
      .rw[h2] at h;cases h
   subst e;rw[kO O ha.2 hb.2 (List.Perm.cons_inv p)]
noncomputable def wA (lt':K->K->Ap)(l:Aa K):Aa K:=l.mergeSort λa b=>!lt' b a
theorem vS (l:Aa K):(wA lt' l).Perm l:=List.mergeSort_perm _ _
theorem bO (O:Ord lt')(l:Aa K):Nf lt' (wA lt' l):=by
 have:=List.pairwise_mergeSort (le:=λa b=>!lt' b a) (λa b c h1 h2=>?_) (λa b=>?_) l
 .exact this.imp λh=>by simpa using h
 .have h1:lt' b a=false:=by simpa using h1
  have h2:lt' c b=false:=by simpa using h2
  cases h3:lt' c a with
  |false=>rfl
  |true =>
   rcases O.tri h1 with e|h
   .rw[<- e] at h3;rw[h3] at h2;cases h2
   .have:=O.tr h3 h;rw[h2] at this;cases this
 .cases h:lt' b a with
  |false=>rfl
  |true =>
   cases h':lt' a b with
   |false=>rfl
   |true=>have:=O.tr h h';rw[O.irr] at this;cases this
end
noncomputable def bC:Ap->A7->A6 A7->Aj->Aj->Aj->Go CK EE (Ak Aj):=sortPriv% PySem.Builtin.gallop
noncomputable def iS:A6 A7->A6 A7->Go CK EE (A6 A7):=sortPriv% PySem.Builtin.mergeLo
noncomputable def iR:A6 A7->A6 A7->Go CK EE (A6 A7):=sortPriv% PySem.Builtin.mergeHi
noncomputable def nv:A7:=(Bk,Bk)
section
variable {M:EM}{A:AF}{E:Ac->Af->Prop}{s:Af}{κ : Fd}{U:A7->Prop}{r:A7->Am}
structure Cm (M:EM)(A:AF)(s:Af)(κ : Fd)(U:A7->Prop)(r:A7->Am):Prop where
 lt:∀ {x y:A7},U x->U y->∀ {E:Ac->Af->Prop} {Q:Ak Ap->CK->Prop} {st:CK},kindOf st=κ->Q (Ab (decide (r x<r y))) st->wpS M A E s (lt' x y) Q st
theorem qZ {i:Aj}{Q:A7->CK->Prop}{st:CK}(h:i<arr.size)(q:Q (arr.getD i nv) st):wpS M A E s (elem' arr i) Q st:=by
 rw[elem'_eq,getElem?_pos arr i h];have e:arr.getD i nv=arr[i]:=by simp[DU,h]
 rw[e] at q;exact A4 q
theorem sT (C:Cm M A s κ U r){left:Ap}{key:A7}{arr:A6 A7}{i:Aj}{Q:Ak Ap->CK->Prop}{st:CK}(hk:kindOf st=κ)(hi:i<arr.size)(hU:U (arr.getD i nv))(hkU:U key)
  (q:Q (Ab (if left then decide (r (arr.getD i nv)<r key) else !decide (r key<r (arr.getD i nv)))) st) :
  wpS M A E s (do let x <- elem' arr i;if left then lt' x key else (do let a <- lt' key x;pure (a.map (λb=>!b)))) Q st:=by
 refine Au (qZ hi ?_);cases left with
 |true=>exact C.lt hU hkU hk q
 |false=>exact Au (C.lt hkU hU hk (A4 q))
theorem pJ (C:Cm M A s κ U r){left:Ap}{key:A7}{arr:A6 A7}{base n hint cut:Aj}{Q:Ak Aj->CK->Prop}{st:CK}(hk:kindOf st=κ)(hh:hint<n)(hb:base+n<=arr.size)(hU:∀ i,i<n->U (arr.getD (base+i) nv))(hkU:U key)(hc:cut<=n)
  (hB:∀ i,i<n->(if left then decide (r (arr.getD (base+i) nv)<r key) else !decide (r key<r (arr.getD (base+i) nv)))=decide (i<cut)) (h:Q (Ab cut) st):wpS M A E s (bC left key arr base n hint) Q st:=by
 have B:∀ {i:Aj} {E:Ac->Af->Prop} {Q:Ak Ap->CK->Prop},i<n->Q (Ab (decide (i<cut))) st->wpS M A E s (do let x <- elem' arr (base+i);if left then lt' x key else (do let a <- lt' key x;pure (a.map (λb=>!b)))) Q st:=by
  intro i E Q hi q;exact sT C hk (by lia) (hU i hi) hkU (by rw[hB i hi];exact q)
 have bin:∀ {lo hi:Aj} {f:Aj->Ak (Ak Aj) × Aj × Aj->Go CK EE (ForInStep (Ak (Ak Aj) × Aj × Aj))},lo<=cut->cut<=hi->hi<=n ->
   (∀ x a b,f x (none,a,b)=if a>=b then pure (.done (none,a,b)) else ((do let x <- elem' arr (base+(a+(b-a)/2));if left then lt' x key else (do let a <- lt' key x;pure (a.map (λb=>!b)))) >>= λo=>match o with
    |some more=>if more then pure (.yield (none,a+(b-a)/2+1,b)) else pure (.yield (none,a,a+(b-a)/2))
    |_=>pure (.done (Ab none,a,b))))->wpS M A E s (forIn [0:n] (none,lo,hi) f) (λc st'=>st'=st/\∃ a,c=(none,a,cut)) st:=by
  intro lo hi f h1 h2 h3 hf;refine CA (I:=λx c st'=>st'=st/\∃ a b,c=(none,a,b)/\a<=cut/\cut<=b/\b<=n/\b-a<=n-x) ?_ ?_ ⟨rfl,lo,hi,rfl,h1,h2,h3,by lia⟩
  .rintro x c st' _ hx ⟨rfl,a,b,rfl,q1,q2,q3,q4⟩
   rw[hf];by_cases g:a>=b
   .rw[AA g];exact A4 ⟨rfl,a,by rw[show b=cut by lia]⟩
   .rw[AD g]
    refine Au (B (by lia) ?_)
    by_cases z:a+(b-a)/2<cut
    .simp only[z,E9,Bq]
     exact A4 ⟨rfl,_,_,rfl,by lia,q2,q3,by lia⟩
    .simp only[z,EK,Bj,D0]
     exact A4 ⟨rfl,_,_,rfl,q1,by lia,by lia,by lia⟩
  .rintro c st' ⟨rfl,a,b,rfl,q1,q2,q3,q4⟩
   exact⟨rfl,a,by rw[show b=cut by lia]⟩
 refine Au (B hh ?_);dsimp only;by_cases hr:hint<cut
 .simp only[hr,E9,Bq]
  refine Au (Dq (CA (I:=λx c st'=>st'=st/\∃ a b,c=(none,a,b)/\hint+a<cut/\a<b/\x<b)
   (Q:=λc st'=>st'=st/\∃ a b,c=(none,a,b)/\hint+a<cut/\cut<=hint+min b (n-hint)) ?_ ?_ ⟨rfl,0,1,rfl,hr,by lia,by lia⟩) ?_)
  .rintro x c st' _ hx ⟨rfl,a,b,rfl,q1,q2,q3⟩
   dsimp only;by_cases g:b>=n-hint
   .rw[AA g];exact A4 ⟨rfl,a,b,rfl,q1,by lia⟩
   .rw[AD g]
    refine Au (B (by lia) ?_)
    by_cases z:hint+b<cut
    .simp only[z,E9,Bool.not_true,Bj,D0]
     exact A4 ⟨rfl,_,_,rfl,z,by lia,by lia⟩
    .simp only[z,EK,Bool.not_false,Bq]
     exact A4 ⟨rfl,a,b,rfl,q1,by lia⟩
  .rintro c st' ⟨rfl,a,b,rfl,q1,q2,q3⟩
   exact⟨rfl,a,b,rfl,q1,by lia⟩
  .rintro c st' ⟨rfl,a,b,rfl,q1,q2⟩
   dsimp only;refine Au (Dq (bin (lo:=hint+a+1) (hi:=hint+min b (n-hint)) (by lia) q2 (by lia) λ_ _ _=>rfl) ?_)
   rintro c st' ⟨rfl,a',rfl⟩;exact A4 h
 .simp only[hr,EK,Bj,D0]
  refine Au (Dq (CA (I:=λx c st'=>st'=st/\∃ a b,c=(none,a,b)/\cut+a<=hint/\a<b/\x<b)
   (Q:=λc st'=>st'=st/\∃ a b,c=(none,a,b)/\cut+a<=hint/\hint+1<=cut+min b (hint+1)) ?_ ?_ ⟨rfl,0,1,rfl,by lia,by lia,by lia⟩) ?_)
  .rintro x c st' _ hx ⟨rfl,a,b,rfl,q1,q2,q3⟩
   dsimp only;by_cases g:b>=hint+1
   .rw[AA g];exact A4 ⟨rfl,a,b,rfl,q1,by lia⟩
   .rw[AD g]
    refine Au (B (by lia) ?_)
    by_cases z:hint-b<cut
    .simp only[z,E9,Bq]
     exact A4 ⟨rfl,a,b,rfl,q1,by lia⟩
    .simp only[z,EK,Bj,D0]
     exact A4 ⟨rfl,_,_,rfl,by lia,by lia,by lia⟩
  .rintro c st' ⟨rfl,a,b,rfl,q1,q2,q3⟩
   exact⟨rfl,a,b,rfl,q1,by lia⟩
  .rintro c st' ⟨rfl,a,b,rfl,q1,q2⟩
   dsimp only;refine Au (Dq (bin (lo:=hint+1-min b (hint+1)) (hi:=hint-a) (by lia) (by lia) (by lia) λ_ _ _=>rfl) ?_)
   rintro c st' ⟨rfl,a',rfl⟩;exact A4 h
end
def Le (r:A7->Am)(x y:A7):Prop:=r x<=r y
structure Mg (r:A7->Am)(o A B T:Aa A7):Prop where
 p1:(o++A).Pairwise (Le r)
 p2:(o++B).Pairwise (Le r)
 pm:(o++A++B).Perm T
structure Mh (r:A7->Am)(A B o T:Aa A7):Prop where
 p1:(A++o).Pairwise (Le r)
 p2:(B++o).Pairwise (Le r)
 pm:(A++B++o).Perm T
section
variable {r:A7->Am}{o A B A1 A2 B1 B2 T:Aa A7}
theorem Mg.b (h:Mg r o A (B1++B2) T)(l:∀ x∈B1,∀ y∈A,Le r x y):Mg r (o++B1) A B2 T:=by
 obtain⟨p1,p2,pm⟩:=h;refine⟨?_,by rw[AK];exact p2,?_⟩
 .rw[AK]
  rw[Bf] at p1 p2 ⊢;refine⟨p1.1,?_,λx hx y hy=>?_⟩
  .rw[Bf]
   exact⟨(Bf.mp p2.2.1).1,p1.2.1,l⟩
  .rcases AX.mp hy with hy|hy
   .exact p2.2.2 x hx y (Bd _ hy)
   .exact p1.2.2 x hx y hy
 .refine He ?_ pm
  simp only[AK];refine Dw _ ?_;simp only[<- AK];exact DC _ DQ
theorem Mg.a (h:Mg r o (A1++A2) B T)(l:∀ x∈A1,∀ y∈B,Le r x y):Mg r (o++A1) A2 B T:=by
 obtain⟨p1,p2,pm⟩:=h;refine⟨by rw[AK];exact p1,?_,by simpa only [AK] using pm⟩
 rw[AK];rw[Bf] at p1 p2 ⊢;refine⟨p2.1,?_,λx hx y hy=>?_⟩
 .rw[Bf]
  exact⟨(Bf.mp p1.2.1).1,p2.2.1,l⟩
 .rcases AX.mp hy with hy|hy
  .exact p1.2.2 x hx y (Bd _ hy)
  .exact p2.2.2 x hx y hy
theorem Mh.a (h:Mh r (A1++A2) B o T)(l:∀ x∈B,∀ y∈A2,Le r x y):Mh r A1 B (A2++o) T:=by
 obtain⟨p1,p2,pm⟩:=h;refine⟨by rw[<- AK];exact p1,?_,?_⟩
 .rw[AK] at p1
  rw[Bf] at p1 p2 ⊢;refine⟨p2.1,p1.2.1,λx hx y hy=>?_⟩;rcases AX.mp hy with hy|hy
  .exact l x hx y hy
  .exact p2.2.2 x hx y hy
 .refine He ?_ pm
  simp only[AK];refine Dw _ ?_;simp only[<- AK];exact DC _ DQ
theorem Mh.b (h:Mh r A (B1++B2) o T)(l:∀ x∈A,∀ y∈B2,Le r x y):Mh r A B1 (B2++o) T:=by
 obtain⟨p1,p2,pm⟩:=h;refine⟨?_,by rw[<- AK];exact p2,by simpa only [AK] using pm⟩
 rw[AK] at p2;rw[Bf] at p1 p2 ⊢;refine⟨p1.1,p2.2.1,λx hx y hy=>?_⟩;rcases AX.mp hy with hy|hy
 .exact l x hx y hy
 .exact p1.2.2 x hx y hy
end
structure Mo (r:A7->Am)(T:Aa A7)(m:A6 A7):Prop where
 pm:m.toList.Perm T
 up:m.toList.Pairwise (Le r)
noncomputable abbrev wL (st:CK)(g:Aj):CK:=AW (kindOf st) (arrOf st) (pendingOf st) g (failedOf st)
theorem pY {a:A6 A7}{i:Aj}(h:i<a.size):a.toList.drop i=a.getD i nv::a.toList.drop (i+1):=by
 rw[Dv (by simpa using h)]
 congr 1
 simp[DU,h]
theorem zD {a:A6 A7}{i:Aj}(h:i<a.size):a.getD i nv∈a.toList:=by
 have e:a.getD i nv=a[i]:=by simp[DU,h]
 rw[e];exact Array.getElem_mem_toList h
theorem xT {r:A7->Am}{a:A6 A7}(s:a.toList.Pairwise (Le r)){i j:Aj}(h:i<=j)(hj:j<a.size):r (a.getD i nv)<=r (a.getD j nv):=by
 rcases NL i j with l|l
 .have e:=EV.mp s i j (by simpa using EJ l hj) (by simpa using hj) l
  have hi:i<a.size:=EJ l hj;simpa [DU,hi,hj,Le] using e
 .rw[IP h l];exact Gp _
theorem j8 {a:A6 A7}{i:Aj}{x:A7}(h:x∈a.toList.drop i):∃ j,i<=j/\j<a.size/\x=a.getD j nv:=by
 obtain⟨k,hk,e⟩:=CT.mp h;rw[LA] at e;have hk':k<a.size-i:=by simpa using hk
 refine⟨i+k,by lia,by lia,?_⟩
 have:i+k<a.size:=by lia
 simp[DU,this,<- e]
theorem jA {a:A6 A7}{x:A7}(h:x∈a.toList.take n):∃ j,j<n/\j<a.size/\x=a.getD j nv:=by
 obtain⟨k,hk,e⟩:=CT.mp h;rw[LB] at e;have hk':k<n/\k<a.size:=by rw[Du,AJ] at hk;lia
 refine⟨k,hk'.1,hk'.2,?_⟩;simp[DU,hk'.2,<- e]
theorem gG {a:A6 A7}{i k:Aj}:(a.extract i (i+k)).toList++a.toList.drop (i+k)=a.toList.drop i:=by
 rw[Ee,Dx,Er,<- List.drop_drop];exact Gq _ _
theorem kK {a:A6 A7}{i:Aj}:(a.extract i a.size).toList=a.toList.drop i:=by
 rw[Ee,Dx];exact E2 (by simp)
theorem bI {a:A6 A7}{i k:Aj}{x:A7}(h:x∈(a.extract i (i+k)).toList):∃ j,i<=j/\j<i+k/\j<a.size/\x=a.getD j nv:=by
 rw[Ee,Dx,Er] at h;obtain⟨m,hm,e⟩:=CT.mp h;rw[LB,LA] at e;have hm':m<k/\i+m<a.size:=by rw[Du,Gg,AJ] at hm;lia
 refine⟨i+m,by lia,by lia,hm'.2,?_⟩
 simp[DU,hm'.2,<- e]
def GL (r:A7->Am)(a b o:A6 A7)(i j:Aj):Prop:=Mg r o.toList (a.toList.drop i) (b.toList.drop j) (a.toList++b.toList)
section
variable {r:A7->Am}{a b o:A6 A7}{i j k:Aj}
theorem GL.pb (sa:a.toList.Pairwise (Le r))(h:GL r a b o i j)(hj:j<b.size)(l:i<a.size->r (b.getD j nv)<=r (a.getD i nv)):GL r a b (o.push (b.getD j nv)) i (j+1):=by
 have h':Mg r o.toList (a.toList.drop i) ([b.getD j nv]++b.toList.drop (j+1)) (a.toList++b.toList):=by rw[Jb,<- pY hj];exact h
 have:=h'.b λx hx y hy=>by
  cases Cj.mp hx;obtain⟨m,h1,h2,rfl⟩:=j8 hy;exact CI (l (by lia)) (xT sa h1 h2)
 unfold GL;rw[Ec];exact this
theorem GL.pa (sb:b.toList.Pairwise (Le r))(h:GL r a b o i j)(hi:i<a.size)(l:j<b.size->r (a.getD i nv)<=r (b.getD j nv)):GL r a b (o.push (a.getD i nv)) (i+1) j:=by
 have h':Mg r o.toList ([a.getD i nv]++a.toList.drop (i+1)) (b.toList.drop j) (a.toList++b.toList):=by rw[Jb,<- pY hi];exact h
 have:=h'.a λx hx y hy=>by
  cases Cj.mp hx;obtain⟨m,h1,h2,rfl⟩:=j8 hy;exact CI (l (by lia)) (xT sb h1 h2)
 unfold GL;rw[Ec];exact this
theorem GL.ea (sb:b.toList.Pairwise (Le r))(h:GL r a b o i j)(hj:j<b.size)(l:∀ m,m<k->r (a.getD (i+m) nv)<=r (b.getD j nv)):GL r a b (o++a.extract i (i+k)) (i+k) j:=by
 have h':Mg r o.toList ((a.extract i (i+k)).toList++a.toList.drop (i+k)) (b.toList.drop j) (a.toList++b.toList):=by rw[gG];exact h
 have:=h'.a λx hx y hy=>by
  obtain⟨m,h1,h2,h3,rfl⟩:=bI hx;obtain⟨m',h4,h5,rfl⟩:=j8 hy;have:=l (m-i) (by lia)
  rw[show i+(m-i)=m by lia] at this
  exact CI this (xT sb h4 h5)
 unfold GL;rw[AZ];exact this
theorem GL.eb (sa:a.toList.Pairwise (Le r))(h:GL r a b o i j)(hi:i<a.size)(l:∀ m,m<k->r (b.getD (j+m) nv)<=r (a.getD i nv)):GL r a b (o++b.extract j (j+k)) i (j+k):=by
 have h':Mg r o.toList (a.toList.drop i) ((b.extract j (j+k)).toList++b.toList.drop (j+k)) (a.toList++b.toList):=by rw[gG];exact h
 have:=h'.b λx hx y hy=>by
  obtain⟨m,h1,h2,h3,rfl⟩:=bI hx;obtain⟨m',h4,h5,rfl⟩:=j8 hy;have:=l (m-j) (by lia)
  rw[show j+(m-j)=m by lia] at this
  exact CI this (xT sa h4 h5)
 unfold GL;rw[AZ];exact this
theorem GL.fin (h:GL r a b o i j)(e:i=a.size\/j=b.size):Mo r (a.toList++b.toList) (o++a.extract i a.size++b.extract j b.size):=by
 refine⟨?_,?_⟩ <;> rw[AZ,AZ,kK,kK]
 .exact h.pm
 .rcases e with rfl|rfl
  .rw[Gd (by simp),CG];exact h.p2
  .rw[Gd (l:=b.toList) (by simp),CG];exact h.p1
theorem GL.last (h:GL r a b o i j)(e:i+1=a.size)(l:∀ x∈b.toList,Le r x (a.getD (a.size-1) nv)):Mo r (a.toList++b.toList) (o++b.extract j b.size++a.extract i a.size):=by
 have hi:i<a.size:=by lia
 have hd:a.toList.drop i=[a.getD i nv]:=by rw[pY hi,Gd (by simp;lia)]
 refine⟨?_,?_⟩ <;> rw[AZ,AZ,kK,kK]
 .refine He ?_ h.pm
  rw[AK,AK];exact Dw _ DQ
 .have p1:=h.p1
  rw[hd] at p1 ⊢;rw[Bf] at p1 ⊢;refine⟨h.p2,Es _ _,λx hx y hy=>?_⟩;rcases AX.mp hx with hx|hx
  .exact p1.2.2 x hx y hy
  .cases Cj.mp hy
   have:=l x (List.mem_of_mem_drop hx);rw[show a.size-1=i by lia] at this
   exact this
end
theorem mL {p:Aj->Ap}:∀ (n:Aj),(∀ i j,i<=j->j<n->p j=true->p i=true)->∃ c,c<=n/\∀ i,i<n->p i=decide (i<c)
 |0,_=>⟨0,Ar _,λi h=>by lia⟩
 |n+1,h=>by
  obtain⟨c,hc,e⟩:=mL n λi j a b=>h i j a (by lia)
  by_cases q:p n=true
  .refine⟨n+1,Ar _,λi hi=>?_⟩
   rw[h i n (by lia) (by lia) q]
   simp[hi]
  .refine⟨c,by lia,λi hi=>?_⟩
   rcases NL i n with l|l
   .exact e i l
   .have:i=n:=by lia
    subst this;have:¬ i<c:=by lia
    simp[this,q]
section
variable {M:EM}{A:AF}{E:Ac->Af->Prop}{s:Af}{κ : Fd}{U:A7->Prop}{r:A7->Am}
theorem qL {σ α:Type}{c:Prop}[Em c]{x y:Go σ EE α}{Q:α->σ->Prop}{st:σ}(h1:c->wpS M A E s x Q st)(h2:¬ c->wpS M A E s y Q st):wpS M A E s (if c then x else y) Q st:=by
 by_cases h:c
 .rw[AA h];exact h1 h
 .rw[AD h];exact h2 h
theorem i9 (C:Cm M A s κ U r){key:A7}{arr:A6 A7}{base n hint:Aj}{Q:Ak Aj->CK->Prop}{st:CK}(hk:kindOf st=κ)(hh:hint<n)(hb:base+n<=arr.size)(hU:∀ i,i<n->U (arr.getD (base+i) nv))(hkU:U key)
  (sa:∀ i j,i<=j->j<n->r (arr.getD (base+i) nv)<=r (arr.getD (base+j) nv)) (h:∀ c,c<=n->(∀ i,i<c->r (arr.getD (base+i) nv)<=r key)->(∀ i,c<=i->i<n->r key<r (arr.getD (base+i) nv))->Q (Ab c) st):wpS M A E s (bC false key arr base n hint) Q st:=by
 obtain⟨c,hc,e⟩:=mL (p:=λi=>!decide (r key<r (arr.getD (base+i) nv))) n λi j a b q=>by
  have:=sa i j a b;simp only[HG,Ep] at q ⊢
  lia
 refine pJ C hk hh hb hU hkU hc (λi hi=>by simpa using e i hi) (h c hc (λi hi=>?_) λi hi hn=>?_)
 .have:=e i (by lia)
  simp only[hi,E9,HG,Ep] at this
  lia
 .have:=e i hn
  simp only[show ¬ i<c by lia,EK,Bool.not_eq_false',AI] at this
  exact this
theorem iA (C:Cm M A s κ U r){key:A7}{arr:A6 A7}{base n hint:Aj}{Q:Ak Aj->CK->Prop}{st:CK}(hk:kindOf st=κ)(hh:hint<n)(hb:base+n<=arr.size)(hU:∀ i,i<n->U (arr.getD (base+i) nv))(hkU:U key)
  (sa:∀ i j,i<=j->j<n->r (arr.getD (base+i) nv)<=r (arr.getD (base+j) nv)) (h:∀ c,c<=n->(∀ i,i<c->r (arr.getD (base+i) nv)<r key)->(∀ i,c<=i->i<n->r key<=r (arr.getD (base+i) nv))->Q (Ab c) st):wpS M A E s (bC true key arr base n hint) Q st:=by
 obtain⟨c,hc,e⟩:=mL (p:=λi=>decide (r (arr.getD (base+i) nv)<r key)) n λi j a b q=>by
  have:=sa i j a b;simp only[AI] at q ⊢
  lia
 refine pJ C hk hh hb hU hkU hc (λi hi=>by simpa using e i hi) (h c hc (λi hi=>?_) λi hi hn=>?_)
 .have:=e i (by lia)
  simp only[hi,E9,AI] at this;exact this
 .have:=e i hn
  simp only[show ¬ i<c by lia,EK,Ep] at this
  lia
end
section
variable {M:EM}{A:AF}{E:Ac->Af->Prop}{s:Af}{σ α γ δ:Type}{Q:α->σ->Prop}{st:σ}{c c' c2:Prop}[Em c][Em c'][Em c2]
theorem lY {K:γ->Go σ EE α}{x y:γ}(h:∀ z,wpS M A E s (K z) Q st):wpS M A E s (if c then K x else K y) Q st:=qL (λ_=>h x) λ_=>h y
theorem cJ {K:γ->δ->Go σ EE α}{u:Go σ EE α}{x y:γ}{w v:δ}(P:γ->δ->Prop)(hK:∀ z w,P z w->wpS M A E s (K z w) Q st)(h1:c->c'->wpS M A E s u Q st)(h2:c->¬ c'->P x w)(h3:¬ c->P y v):wpS M A E s (if c then (if c' then u else K x w) else K y v) Q st:=qL (λe=>qL (h1 e) λe'=>hK _ _ (h2 e e')) λe=>hK _ _ (h3 e)
theorem cK {K:γ->δ->Go σ EE α}{u u':Go σ EE α}{x y:γ}{w v:δ}(P:γ->δ->Prop)(hK:∀ z w,P z w->wpS M A E s (K z w) Q st)(h1:c->c'->wpS M A E s u Q st)(h1':c->¬ c'->c2->wpS M A E s u' Q st)(h2:c->¬ c'->¬ c2->P x w)(h3:¬ c->P y v):wpS M A E s (if c then (if c' then u else if c2 then u' else K x w) else K y v) Q st:=qL (λe=>qL (h1 e) λe'=>qL (h1' e e') λe2=>hK _ _ (h2 e e' e2)) λe=>hK _ _ (h3 e)
end
section
variable {prog:A0}{w:AH}{A:AF}{E:Ac->Af->Prop}{s:Af}{κ : Fd}{U:A7->Prop}{r:A7->Am}
theorem nN (C:Cm (Aq prog w) A s κ U r){a b:A6 A7}{Q:A6 A7->CK->Prop}{st:CK}(hk:kindOf st=κ)(ua:∀ x∈a.toList,U x)(ub:∀ x∈b.toList,U x)(sa:a.toList.Pairwise (Le r))(sb:b.toList.Pairwise (Le r))
  (h:∀ m g,Mo r (a.toList++b.toList) m->Q m (wL st g)) (ha:0<a.size) (hb:0<b.size) (h0:r (b.getD 0 nv)<=r (a.getD 0 nv)) (h1:∀ x∈b.toList,Le r x (a.getD (a.size-1) nv)):wpS (Aq prog w) A E s (iS a b) Q st:=by
 have G0:GL r a b #[] 0 0:=⟨by simpa using sa,by simpa using sb,by simp⟩
 have G1:=G0.pb sa hb λ_=>h0;refine Au (HA (D7 ⟨rfl,?_⟩));refine Au (qZ hb ?_);dsimp only;refine qL (λe=>A4 (h _ (IQ st) (G1.fin (.inr (by simpa using e))))) λe1=>?_
 refine qL (λe=>A4 (h _ (IQ st) (G1.last (by simpa using e) h1))) λe2=>?_
 have e1:1<b.size:=by
  have:¬ 1=b.size:=by simpa using e1
  lia
 have e2:0+1<a.size:=by
  have:¬ 0+1=a.size:=by simpa using e2
  lia
 refine Au (Fp ?_);refine Au (Dq (CA (I:=λx c st'=>(∃ g,st'=wL st g)/\∃ o i j g,c=(none,o,i,j,g)/\GL r a b o i j/\i+1<a.size/\j<b.size/\x<i+j)
  (Q:=λc st'=>(∃ g,st'=wL st g)/\∃ m,c.1=Ab m/\Mo r (a.toList++b.toList) m) ?_ ?_ ⟨⟨IQ st,rfl⟩,_,0,1,_,rfl,G1,e2,e1,by lia⟩) ?_)
 .rintro x c st' _ hx ⟨⟨g,rfl⟩,o,i,j,mg,rfl,G,hi,hj,hp⟩
  dsimp only;refine Au (Dq (CA (I:=λy c st'=>(∃ g,st'=wL st g)/\∃ o i' j' p q,c=(none,o,i',j',p,q)/\GL r a b o i' j'/\i'+1<a.size/\j'<b.size/\i+j+y<=i'+j')
   (Q:=λc st'=>(∃ g,st'=wL st g)/\((∃ m,c.1=Ab m/\Mo r (a.toList++b.toList) m)\/∃ o i' j' p q,c=(none,o,i',j',p,q)/\GL r a b o i' j'/\i'+1<a.size/\j'<b.size/\x+1<i'+j')) ?_ ?_ ⟨⟨g,rfl⟩,o,i,j,0,0,rfl,G,hi,hj,by lia⟩) ?_)
  .rintro y c st' _ hy ⟨⟨g,rfl⟩,o,i',j',p,q,rfl,G,hi,hj,hq⟩
   dsimp only;refine Au (qZ hj (Au (qZ (i:=i') (by lia) (Au (C.lt (ub _ (zD hj)) (ua _ (zD (i:=i') (by lia))) hk ?_)))))
   dsimp only;refine qL (λl=>?_) λl=>?_
   .have l:r (b.getD j' nv)<r (a.getD i' nv):=by simpa using l
    have G2:=G.pb sa hj λ_=>Ds l;refine Au (qZ hj ?_);refine qL (λe=>?_) λe=>?_
    .exact A4 ⟨⟨g,rfl⟩,.inl ⟨_,rfl,G2.fin (.inr (by simpa using e))⟩⟩
    .have e:¬ j'+1=b.size:=by simpa using e
     refine qL (λ_=>?_) λ_=>?_
     .exact A4 ⟨⟨g,rfl⟩,.inr ⟨_,_,_,_,_,rfl,G2,hi,by lia,by lia⟩⟩
     .exact A4 ⟨⟨g,rfl⟩,_,_,_,_,_,rfl,G2,hi,by lia,by lia⟩
   .have l:¬ r (b.getD j' nv)<r (a.getD i' nv):=by simpa using l
    have G2:=G.pa sb (by lia) λ_=>Ki.mp l
    refine Au (qZ (i:=i') (by lia) ?_)
    refine qL (λe=>?_) λe=>?_
    .exact A4 ⟨⟨g,rfl⟩,.inl ⟨_,rfl,G2.last (by simpa using e) h1⟩⟩
    .have e:¬ i'+1+1=a.size:=by simpa using e
     refine qL (λ_=>?_) λ_=>?_
     .exact A4 ⟨⟨g,rfl⟩,.inr ⟨_,_,_,_,_,rfl,G2,by lia,hj,by lia⟩⟩
     .exact A4 ⟨⟨g,rfl⟩,_,_,_,_,_,rfl,G2,by lia,hj,by lia⟩
  .rintro c st' ⟨z,o,i',j',p,q,rfl,G,hi,hj,hq⟩
   exact⟨z,.inr ⟨_,_,_,_,_,rfl,G,hi,hj,by lia⟩⟩
  .rintro c st' ⟨⟨g,rfl⟩,⟨m,hc,hm⟩|⟨o,i',j',p,q,rfl,G,hi,hj,hq⟩⟩
   .obtain⟨c0,c1⟩:=c
    cases hc;exact A4 ⟨⟨g,rfl⟩,m,rfl,hm⟩
   dsimp only;refine Au (HA (D7 ⟨rfl,?_⟩));refine Au (Dq (CA (I:=λy c st'=>(∃ g,st'=wL st g)/\∃ o i' j' p q t,c=(none,o,i',j',p,q,t)/\GL r a b o i' j'/\i'+1<a.size/\j'<b.size/\x+1<i'+j')
    (Q:=λc st'=>(∃ g,st'=wL st g)/\((∃ m,c.1=Ab m/\Mo r (a.toList++b.toList) m)\/∃ o i' j' p q t,c=(none,o,i',j',p,q,t)/\GL r a b o i' j'/\i'+1<a.size/\j'<b.size/\x+1<i'+j')) ?_ ?_ ⟨⟨g,rfl⟩,o,i',j',_,_,_,rfl,G,hi,hj,hq⟩) ?_)
   .rintro y c st' _ hy ⟨⟨g,rfl⟩,o,i,j,p,q,t,rfl,G,hi,hj,hq⟩
    dsimp only;generalize p-1=p1;apply lY (x:=p1) (y:=p);intro mg;have hi0:i<a.size:=HM hi;refine Au (DV ?_);refine Au (qZ hj ?_);refine Au (i9 C hk (HN hi0) (Lm (Kj (CM hi0))) (λi' hi'=>ua _ (zD (EA hi'))) (ub _ (zD hj)) (λi' j' h1 h2=>xT sa (D8 h1 _) (EA h2)) λk k1 k2 k3=>?_);dsimp only;have G2:=G.ea sb hj k2;have k4:i+k<=a.size:=Jc (CM hi0) k1;have k5:i+k<a.size->r (b.getD j nv)<r (a.getD (i+k) nv):=λh=>k3 k (Ar _) (Jp (by rw[NM];exact h))
    have k6:x+1<i+k+j:=Aw hq (Jq (Ie _ _) _);have k7:k=0->i=i+k:=λh=>by rw[h];rfl
    generalize i+k=i1 at G2 k4 k5 k6 k7 ⊢;generalize o++a.extract i i1=o1 at G2 ⊢;apply cK (x:=o1) (w:=i1) (y:=o) (v:=i) (P:=λout ia=>GL r a b out ia j/\ia+1<a.size/\x+1<ia+j/\r (b.getD j nv)<r (a.getD ia nv))
    case h1=>exact λ_ e=>A4 ⟨⟨_,rfl⟩,.inl ⟨_,rfl,G2.last (by simpa using e) h1⟩⟩
    case h1'=>exact λ_ _ e=>A4 ⟨⟨_,rfl⟩,.inl ⟨_,rfl,G2.fin (.inl (by simpa using e))⟩⟩
    case h2 =>
     intro _ e3 e4;have e3:¬ i1+1=a.size:=by simpa using e3
     have e4:¬ i1=a.size:=by simpa using e4
     have e5:i1<a.size:=D2 k4 e4;exact⟨G2,D2 e5 e3,k6,k5 e5⟩
    case h3 =>
     intro e;have e:=k7 (E4 e);exact⟨G,hi,hq,by rw[e];exact k5 (by rw[<- e];exact hi0)⟩
    case hK =>
     rintro out ia ⟨G2,hl,hq,hc⟩;have ha0:ia<a.size:=HM hl;refine Au (qZ hj ?_);have G3:=G2.pb sa hj λ_=>Ds hc;refine qL (λe=>A4 ⟨⟨_,rfl⟩,.inl ⟨_,rfl,G3.fin (.inr (by simpa using e))⟩⟩) λe5=>?_
     have e5:¬ j+1=b.size:=by simpa using e5
     have hj1:j+1<b.size:=D2 hj e5;refine Au (qZ ha0 ?_);refine Au (iA C hk (HN hj1) (Lm (Kj hj)) (λi hi=>ub _ (zD (EA hi))) (ua _ (zD ha0)) (λi j h1 h2=>xT sb (D8 h1 _) (EA h2)) λm m1 m2 m3=>?_);dsimp only;have G4:=G3.eb sa ha0 λi hi=>Ds (m2 i hi);have m4:j+1+m<=b.size:=Jc hj m1;have m5:j+1+m<b.size->r (a.getD ia nv)<=r (b.getD (j+1+m) nv):=λh=>m3 m (Ar _) (Jp (by rw[NM];exact h))
     have m6:j+1<=j+1+m:=Ie _ _;have m7:m=0->j+1=j+1+m:=λh=>by rw[h]
     generalize j+1+m=j1 at G4 m4 m5 m6 m7 ⊢;generalize out.push (b.getD j nv)++b.extract (j+1) j1=o2 at G4 ⊢;apply cJ (x:=o2) (w:=j1) (y:=out.push (b.getD j nv)) (v:=j+1) (P:=λout ib=>GL r a b out ia ib/\ib<b.size/\j+1<=ib/\r (a.getD ia nv)<=r (b.getD ib nv))
     case h1=>exact λ_ e=>A4 ⟨⟨_,rfl⟩,.inl ⟨_,rfl,G4.fin (.inr (by simpa using e))⟩⟩
     case h2 =>
      intro _ e6;have e6:¬ j1=b.size:=by simpa using e6
      have e7:=D2 m4 e6;exact⟨G4,e7,m6,m5 e7⟩
     case h3 =>
      intro e;have e:=m7 (E4 e);exact⟨G3,hj1,Ar _,by rw[e];exact m5 (by rw[<- e];exact hj1)⟩
     case hK =>
      rintro out ib ⟨G4,hb1,hb2,hc4⟩;refine Au (qZ ha0 ?_);have G5:=G4.pa sb ha0 λ_=>hc4;refine qL (λe=>A4 ⟨⟨_,rfl⟩,.inl ⟨_,rfl,G5.last (by simpa using e) h1⟩⟩) λe7=>?_
      have e7:¬ ia+1+1=a.size:=by simpa using e7
      have e8:ia+1+1<a.size:=D2 hl e7;have e9:x+1<ia+1+ib:=Aw hq (Nb (NW _) (Nat.le_of_succ_le hb2));exact qL (λ_=>A4 ⟨⟨_,rfl⟩,.inr ⟨_,_,_,_,_,_,rfl,G5,e8,hb1,e9⟩⟩) λ_=>A4 ⟨⟨_,rfl⟩,_,_,_,_,_,_,rfl,G5,e8,hb1,e9⟩
   .rintro c st' ⟨z,o,i',j',p,q,t,rfl,G,hi,hj,hq⟩
    exact⟨z,.inr ⟨_,_,_,_,_,_,rfl,G,hi,hj,by lia⟩⟩
   .rintro c st' ⟨⟨g,rfl⟩,⟨m,hc,hm⟩|⟨o,i',j',p,q,t,rfl,G,hi,hj,hq⟩⟩
    .obtain⟨c0,c1⟩:=c
     cases hc;exact A4 ⟨⟨g,rfl⟩,m,rfl,hm⟩
    dsimp only;refine Au (DV ?_);exact A4 ⟨⟨_,rfl⟩,_,_,_,_,rfl,G,hi,hj,by lia⟩
 .rintro c st' ⟨z,o,i',j',p,rfl,G,hi,hj,hq⟩
  exfalso
  lia
 .rintro c st' ⟨⟨g,rfl⟩,m,hc,hm⟩
  obtain⟨c0,c1⟩:=c;cases hc;exact A4 (h m g hm)
end
theorem bP {a:A6 A7}(h:0<n)(hn:n<=a.size):a.toList.take n=a.toList.take (n-1)++[a.getD (n-1) nv]:=by
 obtain⟨m,rfl⟩:∃ m,n=m+1:=⟨n-1,by lia⟩
 rw[Nat.add_sub_cancel,List.take_add_one];have hm:m<a.size:=by lia
 simp[DU,hm]
theorem mV {a:A6 A7}{i:Aj}(h:i<=n):a.toList.take i++(a.extract i n).toList=a.toList.take n:=by
 rw[Ee,Dx]
 conv=>rhs;rw[show n=i+(n-i) by lia,List.take_add]
theorem uT {a:A6 A7}:(a.extract 0 n).toList=a.toList.take n:=by
 rw[Ee,Dx];simp
theorem j9 {a:A6 A7}{i:Aj}{x:A7}(hn:i<=n)(h:x∈(a.extract i n).toList):∃ j,i<=j/\j<n/\j<a.size/\x=a.getD j nv:=by
 obtain⟨k,rfl⟩:∃ k,n=i+k:=⟨n-i,by lia⟩
 exact bI h
def GH (r:A7->Am)(a b o:A6 A7)(i j:Aj):Prop:=Mh r (a.toList.take i) (b.toList.take j) o.toList.reverse (a.toList++b.toList)
section
variable {r:A7->Am}{a b o:A6 A7}{i j k:Aj}
theorem GH.pa (sb:b.toList.Pairwise (Le r))(h:GH r a b o i j)(h1:0<i)(h2:i<=a.size)(hj:j<=b.size)(l:0<j->r (b.getD (j-1) nv)<=r (a.getD (i-1) nv)):GH r a b (o.push (a.getD (i-1) nv)) (i-1) j:=by
 have h':Mh r (a.toList.take (i-1)++[a.getD (i-1) nv]) (b.toList.take j) o.toList.reverse (a.toList++b.toList):=by rw[<- bP h1 h2];exact h
 have:=h'.a λx hx y hy=>by
  cases Cj.mp hy;obtain⟨m,q1,q2,rfl⟩:=jA hx;exact CI (xT sb (by lia) (by lia)) (l (by lia))
 unfold GH;rw[Ec,EW];exact this
theorem GH.pb (sa:a.toList.Pairwise (Le r))(h:GH r a b o i j)(h1:0<j)(h2:j<=b.size)(hi:i<=a.size)(l:0<i->r (a.getD (i-1) nv)<=r (b.getD (j-1) nv)):GH r a b (o.push (b.getD (j-1) nv)) i (j-1):=by
 have h':Mh r (a.toList.take i) (b.toList.take (j-1)++[b.getD (j-1) nv]) o.toList.reverse (a.toList++b.toList):=by rw[<- bP h1 h2];exact h
 have:=h'.b λx hx y hy=>by
  cases Cj.mp hy;obtain⟨m,q1,q2,rfl⟩:=jA hx;exact CI (xT sa (by lia) (by lia)) (l (by lia))
 unfold GH;rw[Ec,EW];exact this
theorem GH.ea (sb:b.toList.Pairwise (Le r))(h:GH r a b o i j)(hk:k<=i)(hj:j<=b.size)(l:0<j->∀ m,k<=m->m<i->m<a.size->r (b.getD (j-1) nv)<=r (a.getD m nv)):GH r a b (o++(a.extract k i).reverse) k j:=by
 have h':Mh r (a.toList.take k++(a.extract k i).toList) (b.toList.take j) o.toList.reverse (a.toList++b.toList):=by rw[mV hk];exact h
 have:=h'.a λx hx y hy=>by
  obtain⟨m,q1,q2,rfl⟩:=jA hx;obtain⟨m',q3,q4,q5,rfl⟩:=j9 hk hy;exact CI (xT sb (by lia) (by lia)) (l (by lia) m' q3 q4 q5)
 unfold GH;rw[AZ,EN,EW,Jr];exact this
theorem GH.eb (sa:a.toList.Pairwise (Le r))(h:GH r a b o i j)(hk:k<=j)(hi:i<=a.size)(l:0<i->∀ m,k<=m->m<j->m<b.size->r (a.getD (i-1) nv)<=r (b.getD m nv)):GH r a b (o++(b.extract k j).reverse) i k:=by
 have h':Mh r (a.toList.take i) (b.toList.take k++(b.extract k j).toList) o.toList.reverse (a.toList++b.toList):=by rw[mV hk];exact h
 have:=h'.b λx hx y hy=>by
  obtain⟨m,q1,q2,rfl⟩:=jA hx;obtain⟨m',q3,q4,q5,rfl⟩:=j9 hk hy;exact CI (xT sa (by lia) (by lia)) (l (by lia) m' q3 q4 q5)
 unfold GH;rw[AZ,EN,EW,Jr];exact this
theorem GH.fin (h:GH r a b o i j)(e:i=0\/j=0):Mo r (a.toList++b.toList) (a.extract 0 i++b.extract 0 j++o.reverse):=by
 refine⟨?_,?_⟩ <;> rw[AZ,AZ,uT,uT,EN]
 .exact h.pm
 .rcases e with rfl|rfl
  .rw[Nc,DY];exact h.p2
  .rw[Nc,CG];exact h.p1
theorem GH.first (h:GH r a b o i j)(e:j=1)(hb:0<b.size)(l:∀ x∈a.toList,Le r (b.getD 0 nv) x):Mo r (a.toList++b.toList) (b.extract 0 j++a.extract 0 i++o.reverse):=by
 subst e;have hd:b.toList.take 1=[b.getD 0 nv]:=by rw[bP (by lia) (by lia)];rfl
 refine⟨?_,?_⟩ <;> rw[AZ,AZ,uT,uT,EN]
 .refine He ?_ h.pm
  exact DC _ DQ
 .have p2:=h.p2
  rw[hd] at p2 ⊢;rw[AK];rw[Bf] at p2 ⊢;refine⟨p2.1,h.p1,λx hx y hy=>?_⟩;rcases AX.mp hy with hy|hy
  .cases Cj.mp hx
   exact l y (List.mem_of_mem_take hy)
  .exact p2.2.2 x hx y hy
end
section
variable {prog:A0}{w:AH}{A:AF}{E:Ac->Af->Prop}{s:Af}{κ : Fd}{U:A7->Prop}{r:A7->Am}
theorem nM (C:Cm (Aq prog w) A s κ U r){a b:A6 A7}{Q:A6 A7->CK->Prop}{st:CK}(hk:kindOf st=κ)(ua:∀ x∈a.toList,U x)(ub:∀ x∈b.toList,U x)(sa:a.toList.Pairwise (Le r))(sb:b.toList.Pairwise (Le r))
  (h:∀ m g,Mo r (a.toList++b.toList) m->Q m (wL st g)) (ha:0<a.size) (hb:0<b.size) (h0:∀ x∈a.toList,Le r (b.getD 0 nv) x) (h1:r (b.getD (b.size-1) nv)<=r (a.getD (a.size-1) nv)):wpS (Aq prog w) A E s (iR a b) Q st:=by
 have G0:GH r a b #[] a.size b.size:=by
  unfold GH;rw[E2 (by simp),E2 (by simp)]
  exact⟨by simpa using sa,by simpa using sb,by simp⟩
 have G1:=G0.pa sb ha (Ar _) (Ar _) λ_=>h1;refine Au (HA (D7 ⟨rfl,?_⟩));refine Au (qZ (i:=a.size-1) (by lia) ?_)
 dsimp only;refine qL (λe=>A4 (h _ (IQ st) (G1.fin (.inl (by simpa using e))))) λe1=>?_
 refine qL (λe=>A4 (h _ (IQ st) (G1.first (by simpa using e) hb h0))) λe2=>?_
 have e1:¬ a.size-1=0:=by simpa using e1
 have e2:¬ b.size=1:=by simpa using e2
 refine Au (Fp ?_);refine Au (Dq (CA (I:=λx c st'=>(∃ g,st'=wL st g)/\∃ o i j g,c=(none,i,j,o,g)/\GH r a b o i j/\0<i/\i<=a.size/\1<j/\j<=b.size/\x+i+j<a.size+b.size)
  (Q:=λc st'=>(∃ g,st'=wL st g)/\∃ m,c.1=Ab m/\Mo r (a.toList++b.toList) m) ?_ ?_ ⟨⟨IQ st,rfl⟩,_,a.size-1,b.size,_,rfl,G1,by lia,by lia,by lia,by lia,by lia⟩) ?_)
 .rintro x c st' _ hx ⟨⟨g,rfl⟩,o,i,j,mg,rfl,G,hi,hi2,hj,hj2,hp⟩
  dsimp only;refine Au (Dq (CA (I:=λy c st'=>(∃ g,st'=wL st g)/\∃ o i' j' p q,c=(none,i',j',o,p,q)/\GH r a b o i' j'/\0<i'/\i'<=a.size/\1<j'/\j'<=b.size/\i'+j'+y<=i+j)
   (Q:=λc st'=>(∃ g,st'=wL st g)/\((∃ m,c.1=Ab m/\Mo r (a.toList++b.toList) m)\/∃ o i' j' p q,c=(none,i',j',o,p,q)/\GH r a b o i' j'/\0<i'/\i'<=a.size/\1<j'/\j'<=b.size/\x+1+i'+j'<a.size+b.size)) ?_ ?_ ⟨⟨g,rfl⟩,o,i,j,0,0,rfl,G,hi,hi2,hj,hj2,by lia⟩) ?_)
  .rintro y c st' _ hy ⟨⟨g,rfl⟩,o,i',j',p,q,rfl,G,hi,hi2,hj,hj2,hq⟩
   dsimp only;refine Au (qZ (i:=j'-1) (by lia) (Au (qZ (i:=i'-1) (by lia) (Au (C.lt (ub _ (zD (i:=j'-1) (by lia))) (ua _ (zD (i:=i'-1) (by lia))) hk ?_)))))
   dsimp only;refine qL (λl=>?_) λl=>?_
   .have l:r (b.getD (j'-1) nv)<r (a.getD (i'-1) nv):=by simpa using l
    have G2:=G.pa sb hi hi2 hj2 λ_=>Ds l;refine Au (qZ (i:=i'-1) (by lia) ?_)
    refine qL (λe=>A4 ⟨⟨g,rfl⟩,.inl ⟨_,rfl,G2.fin (.inl (by simpa using e))⟩⟩) λe=>?_
    have e:¬ i'-1=0:=by simpa using e
    exact qL (λ_=>A4 ⟨⟨g,rfl⟩,.inr ⟨_,_,_,_,_,rfl,G2,by lia,by lia,hj,hj2,by lia⟩⟩) λ_=>A4 ⟨⟨g,rfl⟩,_,_,_,_,_,rfl,G2,by lia,by lia,hj,hj2,by lia⟩
   .have l:¬ r (b.getD (j'-1) nv)<r (a.getD (i'-1) nv):=by simpa using l
    have G2:=G.pb sa (by lia) hj2 hi2 λ_=>Ki.mp l
    refine Au (qZ (i:=j'-1) (by lia) ?_)
    refine qL (λe=>A4 ⟨⟨g,rfl⟩,.inl ⟨_,rfl,G2.first (by simpa using e) hb h0⟩⟩) λe=>?_
    have e:¬ j'-1=1:=by simpa using e
    exact qL (λ_=>A4 ⟨⟨g,rfl⟩,.inr ⟨_,_,_,_,_,rfl,G2,hi,hi2,by lia,by lia,by lia⟩⟩) λ_=>A4 ⟨⟨g,rfl⟩,_,_,_,_,_,rfl,G2,hi,hi2,by lia,by lia,by lia⟩
  .rintro c st' ⟨z,o,i',j',p,q,rfl,G,hi,hi2,hj,hj2,hq⟩
   exact⟨z,.inr ⟨_,_,_,_,_,rfl,G,hi,hi2,hj,hj2,by lia⟩⟩
  .rintro c st' ⟨⟨g,rfl⟩,⟨m,hc,hm⟩|⟨o,i',j',p,q,rfl,G,hi,hi2,hj,hj2,hq⟩⟩
   .obtain⟨c0,c1⟩:=c
    cases hc;exact A4 ⟨⟨g,rfl⟩,m,rfl,hm⟩
   dsimp only;refine Au (HA (D7 ⟨rfl,?_⟩));refine Au (Dq (CA (I:=λy c st'=>(∃ g,st'=wL st g)/\∃ o i' j' p q t,c=(none,i',j',o,p,q,t)/\GH r a b o i' j'/\0<i'/\i'<=a.size/\1<j'/\j'<=b.size/\x+1+i'+j'<a.size+b.size)
    (Q:=λc st'=>(∃ g,st'=wL st g)/\((∃ m,c.1=Ab m/\Mo r (a.toList++b.toList) m)\/∃ o i' j' p q t,c=(none,i',j',o,p,q,t)/\GH r a b o i' j'/\0<i'/\i'<=a.size/\1<j'/\j'<=b.size/\x+1+i'+j'<a.size+b.size)) ?_ ?_ ⟨⟨g,rfl⟩,o,i',j',_,_,_,rfl,G,hi,hi2,hj,hj2,hq⟩) ?_)
   .rintro y c st' _ hy ⟨⟨g,rfl⟩,o,i,j,p,q,t,rfl,G,hi,hi2,hj,hj2,hq⟩
    dsimp only;generalize p-1=p1;apply lY (x:=p1) (y:=p);intro mg;refine Au (DV ?_);have j0:0<j:=HM hj;have jb:j-1<b.size:=Aw (EY j0 EB) hj2;refine Au (qZ jb ?_);refine Au (i9 C hk (EY hi EB) (by rw[DW];exact hi2) (λi' hi'=>ua _ (zD (by rw[DW];exact Aw hi' hi2))) (ub _ (zD jb)) (λi' j' h1 h2=>xT sa (D8 h1 0) (by rw[DW];exact Aw h2 hi2)) λk k1 k2 k3=>?_)
    simp only[DW] at k2 k3;dsimp only;have G2:=G.ea sb k1 hj2 λ_ m q1 q2 _=>Ds (k3 m q1 q2);have kc:i-k=0->k=i:=λh=>IP k1 (Jd h);generalize i-k=ac at kc ⊢;generalize o++(a.extract k i).reverse=o1 at G2 ⊢;apply cJ (x:=k) (w:=o1) (y:=i) (v:=o) (P:=λna out=>GH r a b out na j/\0<na/\na<=a.size/\x+1+na+j<a.size+b.size/\r (a.getD (na-1) nv)<=r (b.getD (j-1) nv))
    case h1=>exact λ_ e=>A4 ⟨⟨_,rfl⟩,.inl ⟨_,rfl,G2.fin (.inl (by simpa using e))⟩⟩
    case hK =>
     rintro na out ⟨G2,hl,hl2,hq,hc⟩;have na1:na-1<a.size:=Aw (EY hl EB) hl2;refine Au (qZ jb ?_);have G3:=G2.pb sa j0 hj2 hl2 λ_=>hc;refine qL (λe=>A4 ⟨⟨_,rfl⟩,.inl ⟨_,rfl,G3.first (by simpa using e) hb h0⟩⟩) λe5=>?_
     have e5:¬ j-1=1:=by simpa using e5
     have j1:0<j-1:=HN hj;refine Au (qZ na1 ?_);refine Au (iA C hk (EY j1 EB) (by rw[DW];exact CM jb) (λi hi=>ub _ (zD (by rw[DW];exact EJ hi jb))) (ua _ (zD na1)) (λi j h1 h2=>xT sb (D8 h1 0) (by rw[DW];exact EJ h2 jb)) λm m1 m2 m3=>?_)
     simp only[DW] at m2 m3;dsimp only;have G4:=G3.eb sa m1 hl2 λ_ m q1 q2 _=>m3 m q1 q2;have mc:j-1-m=0->m=j-1:=λh=>IP m1 (Jd h);generalize j-1-m=bc at mc ⊢;generalize out.push (b.getD (j-1) nv)++(b.extract m (j-1)).reverse=o2 at G4 ⊢;apply cK (x:=m) (w:=o2) (y:=j-1) (v:=out.push (b.getD (j-1) nv)) (P:=λnb out=>GH r a b out na nb/\1<nb/\nb<=j-1/\r (b.getD (nb-1) nv)<=r (a.getD (na-1) nv))
     case h1=>exact λ_ e=>A4 ⟨⟨_,rfl⟩,.inl ⟨_,rfl,G4.first (by simpa using e) hb h0⟩⟩
     case h1'=>exact λ_ _ e=>A4 ⟨⟨_,rfl⟩,.inl ⟨_,rfl,G4.fin (.inr (by simpa using e))⟩⟩
     case hK =>
      rintro nb out ⟨G4,h4,h5,hc4⟩;have h6:nb<=b.size:=Bh h5 (CM jb);have hq2:x+1+(na-1)+nb<a.size+b.size:=Fj (Nb (D8 (Nat.sub_le _ _) _) (Bh h5 (Nat.sub_le _ _))) hq;refine Au (qZ na1 ?_);have G5:=G4.pa sb hl hl2 h6 λ_=>hc4;refine qL (λe=>A4 ⟨⟨_,rfl⟩,.inl ⟨_,rfl,G5.fin (.inl (by simpa using e))⟩⟩) λe7=>?_
      have e7:0<na-1:=Fk (by simpa using e7)
      exact qL (λ_=>A4 ⟨⟨_,rfl⟩,.inr ⟨_,_,_,_,_,_,rfl,G5,e7,CM na1,h4,h6,hq2⟩⟩) λ_=>A4 ⟨⟨_,rfl⟩,_,_,_,_,_,_,rfl,G5,e7,CM na1,h4,h6,hq2⟩
     case h2 =>
      intro _ e6 e7;have e6:¬ m=1:=by simpa using e6
      have e7:¬ m=0:=by simpa using e7
      exact⟨G4,D2 (Fk e7) (Df e6),m1,Ds (m2 (m-1) (EY (Fk e7) EB))⟩
     case h3 =>
      intro e;cases mc (E4 e);exact⟨G3,D2 j1 (Df e5),Ar _,Ds (m2 (j-1-1) (EY j1 EB))⟩
    case h2 =>
     intro _ e;have e3:0<k:=Fk (by simpa using e)
     exact⟨G2,e3,Bh k1 hi2,Fj (Jq (D8 k1 _) _) hq,k2 (k-1) (EY e3 EB)⟩
    case h3 =>
     intro e;have e:=kc (E4 e);exact⟨G,hi,hi2,hq,k2 (i-1) (by rw[e];exact EY hi EB)⟩
   .rintro c st' ⟨z,o,i',j',p,q,t,rfl,G,hi,hi2,hj,hj2,hq⟩
    exact⟨z,.inr ⟨_,_,_,_,_,_,rfl,G,hi,hi2,hj,hj2,by lia⟩⟩
   .rintro c st' ⟨⟨g,rfl⟩,⟨m,hc,hm⟩|⟨o,i',j',p,q,t,rfl,G,hi,hi2,hj,hj2,hq⟩⟩
    .obtain⟨c0,c1⟩:=c
     cases hc;exact A4 ⟨⟨g,rfl⟩,m,rfl,hm⟩
    dsimp only;refine Au (DV ?_);exact A4 ⟨⟨_,rfl⟩,_,_,_,_,rfl,G,hi,hi2,hj,hj2,by lia⟩
 .rintro c st' ⟨z,o,i',j',p,rfl,G,hi,hi2,hj,hj2,hq⟩
  exfalso
  lia
 .rintro c st' ⟨⟨g,rfl⟩,m,hc,hm⟩
  obtain⟨c0,c1⟩:=c;cases hc;exact A4 (h m g hm)
end
theorem sS:∀ (l:Aa A7) (arr:A6 A7) (o d:Aj),o+d+l.length<=arr.size->∀ k,((l.zipIdx d).foldl (λa p=>a.setIfInBounds (o+p.2) p.1) arr)[k]? = if o+d<=k/\k<o+d+l.length then l[k-(o+d)]? else arr[k]?
 |[],arr,o,d,h,k=>by
  rw[AD (by simp only[CO];lia)];rfl
 |x::l,arr,o,d,h,k=>by
  rw[AG] at h;rw[Ih,List.foldl_cons,sS l _ o (d+1) (by rw[Array.size_setIfInBounds];lia) k,AG]
  by_cases h1:k=o+d
  .subst h1
   rw[AD (by lia),AA (by lia),Ln,Array.getElem?_setIfInBounds_self_of_lt (by lia)]
   rfl
  .by_cases h2:o+(d+1)<=k/\k<o+(d+1)+l.length
   .rw[AA h2,AA (by lia),show k-(o+d)=(k-(o+(d+1)))+1 by lia,List.getElem?_cons_succ]
   .rw[AD h2,AD (by lia),Array.getElem?_setIfInBounds_ne (by lia)]
noncomputable def wb (arr:A6 A7)(o:Aj)(m:A6 A7):A6 A7:=m.toList.zipIdx.foldl (λa p=>a.setIfInBounds (o+p.2) p.1) arr
theorem Y5 {o:Aj}(h:o+m.size<=arr.size)(k:Aj):(wb arr o m).getD k nv=if o<=k/\k<o+m.size then m.getD (k-o) nv else arr.getD k nv:=by
 have e:=sS m.toList arr o 0 (by simpa using h) k
 simp only[Lo,AJ,Bx] at e;rw[Co,Co,Co];unfold wb;rw[e]
 split <;> rfl
theorem Y6 {o:Aj}(h:o+m.size<=arr.size):(wb arr o m).toList=arr.toList.take o++(m.toList++arr.toList.drop (o+m.size)):=by
 apply L9;intro k;have e:=sS m.toList arr o 0 (by simpa using h) k
 simp only[Lo,AJ,Bx] at e;unfold wb;rw[Bx,e];have lt:(arr.toList.take o).length=o:=by rw[Du,AJ];lia
 by_cases h1:k<o
 .rw[AD (by lia),AY (by lia),HR h1,Bx]
 .rw[Bc (by lia),lt]
  by_cases h2:k<o+m.size
  .rw[AA (by lia),AY (by rw[AJ];lia),Bx]
  .rw[AD (by lia),Bc (by rw[AJ];lia),List.getElem?_drop,AJ,Bx]
   congr 1
   lia
theorem Y7 {o:Aj}(h:o+n<=arr.size)(p:m.toList.Perm (arr.extract o (o+n)).toList):(wb arr o m).toList.Perm arr.toList:=by
 have hm:m.size=n:=by
  have:=p.length_eq;rw[AJ,AJ,DM] at this
  lia
 rw[Y6 (by lia),hm]
 have e:arr.toList=arr.toList.take o++((arr.extract o (o+n)).toList++arr.toList.drop (o+n)):=by rw[gG,Gq]
 conv=>rhs;rw[e]
 exact Dw _ (DC _ p)
def Seg (r:A7->Am)(a:A6 A7)(lo n:Aj):Prop:=∀ i j,lo<=i->i<=j->j<lo+n->r (a.getD i nv)<=r (a.getD j nv)
theorem lR {r:A7->Am}{a:A6 A7}(h:Seg r a lo n){i k:Aj}(h1:lo<=i)(h2:i+k<=lo+n)(h3:i+k<=a.size):(a.extract i (i+k)).toList.Pairwise (Le r):=by
 rw[EV];intro x y hx hy l;have hx':x<k:=by rw[AJ,DM] at hx;lia
 have hy':y<k:=by rw[AJ,DM] at hy;lia
 have e:=h (i+x) (i+y) (by lia) (by lia) (by lia)
 have q1:i+x<a.size:=by lia
 have q2:i+y<a.size:=by lia
 simpa [DU,q1,q2,Le] using e
theorem mU {a:A6 A7}{i k m:Aj}(h:m<k)(h3:i+k<=a.size):(a.extract i (i+k)).getD m nv=a.getD (i+m) nv:=by
 have q1:i+m<a.size:=by lia
 have q2:m<(a.extract i (i+k)).size:=by rw[DM];lia
 have q3:m<min (i+k) a.size-i:=by lia
 simp[DU,q1,q3]
theorem i7 {a:A6 A7}{i j k:Aj}(h1:i<=j)(h2:j<=k):(a.extract i j).toList++(a.extract j k).toList=(a.extract i k).toList:=by
 rw[<- AZ,Array.extract_append_extract]
 congr 2 <;> lia
section
variable {prog:A0}{w:AH}{A:AF}{E:Ac->Af->Prop}{s:Af}{κ : Fd}{U:A7->Prop}{r:A7->Am}
theorem Y8 {M:EM}{σ:Type}{Q:PUnit->σ->Prop}{st st':σ}(h:Q ⟨⟩ st'):wpS M A E s (set st':Go σ EE PUnit) Q st:=by
 unfold wpS;rw[StateT.run_set];exact As ⟨rfl,h⟩
theorem nK (C:Cm (Aq prog w) A s κ U r){i sa na pw nb pz:Aj}{Q:Ap->CK->Prop}{arr:A6 A7}{pd:A6 (Aj × Aj × Aj)}{g:Aj}(ua:∀ x∈arr.toList,U x)(e1:pd[i]? = Ab (sa,na,pw))(e2:pd[i+1]? = Ab (sa+na,nb,pz))(p1:0<na)(p2:0<nb)(hz:sa+na+nb<=arr.size)
  (s1:Seg r arr sa na) (s2:Seg r arr (sa+na) nb)
  (h:∀ arr' g,arr'.toList.Perm arr.toList->(∀ k,k<sa\/sa+na+nb<=k->arr'.getD k nv=arr.getD k nv)->Seg r arr' sa (na+nb)->Q true (AW κ arr' ((pd.setIfInBounds i (sa,na+nb,pw)).eraseIdxIfInBounds (i+1)) g none)) :
  wpS (Aq prog w) A E s (mergeAt' i) Q (AW κ arr pd g none):=by
 refine Au (Fp ?_);dsimp only;rw[e1,e2];dsimp only;refine Au (Y8 ?_);refine Au (qZ (i:=sa+na) (by omega) ?_)
 refine Au (i9 C rfl (by omega) (by omega) (λi hi=>ua _ (zD (by omega))) (ua _ (zD (by omega))) (λi j a b=>s1 _ _ (by omega) (by omega) (by omega)) λk k1 k2 k3=>?_)
 dsimp only;refine qL (λe=>A4 (h arr g (Hv _) (λ_ _=>rfl) λi j a b c=>?_)) λe=>?_
 .have e:na-k=0:=by simpa using e
  by_cases q1:j<sa+na
  .exact s1 i j a b q1
  .by_cases q2:sa+na<=i
   .exact s2 i j q2 b (by omega)
   .have:=k2 (i-sa) (by omega)
    rw[show sa+(i-sa)=i by omega] at this
    exact CI this (s2 _ _ (Ar _) (by omega) (by omega))
 have e:¬ na-k=0:=by simpa using e
 refine Au (qZ (i:=sa+k+(na-k)-1) (by omega) ?_)
 refine Au (iA C rfl (by omega) (by omega) (λi hi=>ua _ (zD (by omega))) (ua _ (zD (by omega))) (λi j a b=>s2 _ _ (by omega) (by omega) (by omega)) λm m1 m2 m3=>?_)
 dsimp only;rw[show sa+k+(na-k)-1=sa+na-1 by omega] at m2 m3
 have hk3:=k3 k (Ar _) (by omega)
 refine qL (λe=>?_) λe'=>?_
 .exfalso
  have e:m=0:=by simpa using e
  subst e;have q1:=m3 0 (Ar _) p2;have q2:=s1 (sa+k) (sa+na-1) (by omega) (by omega) (by omega)
  rw[Lo] at q1;omega
 have e':¬ m=0:=by simpa using e'
 have ex:arr.extract (sa+k) (sa+na)=arr.extract (sa+k) (sa+k+(na-k)):=by rw[show sa+k+(na-k)=sa+na by omega]
 have zx:(arr.extract (sa+k) (sa+na)).size=na-k:=by rw[DM];omega
 have zy:(arr.extract (sa+na) (sa+na+m)).size=m:=by rw[DM];omega
 have gx:∀ i,i<na-k->(arr.extract (sa+k) (sa+na)).getD i nv=arr.getD (sa+k+i) nv:=λi hi=>by rw[ex];exact mU hi (by omega)
 have gy:∀ i,i<m->(arr.extract (sa+na) (sa+na+m)).getD i nv=arr.getD (sa+na+i) nv:=λi hi=>mU hi (by omega)
 have px:(arr.extract (sa+k) (sa+na)).toList.Pairwise (Le r):=by rw[ex];exact lR s1 (by omega) (by omega) (by omega)
 have py:(arr.extract (sa+na) (sa+na+m)).toList.Pairwise (Le r):=lR s2 (by omega) (by omega) (by omega)
 have mx:∀ x∈(arr.extract (sa+k) (sa+na)).toList,∃ j,sa+k<=j/\j<sa+na/\x=arr.getD j nv:=λx hx=>by
  obtain⟨j,q1,q2,q3,q4⟩:=j9 (by omega) hx
  exact⟨j,q1,q2,q4⟩
 have my:∀ x∈(arr.extract (sa+na) (sa+na+m)).toList,∃ j,sa+na<=j/\j<sa+na+m/\x=arr.getD j nv:=λx hx=>by
  obtain⟨j,q1,q2,q3,q4⟩:=j9 (by omega) hx
  exact⟨j,q1,q2,q4⟩
 have lox:∀ x∈(arr.extract (sa+k) (sa+na)).toList,r (arr.getD (sa+na) nv)<=r x/\r x<=r (arr.getD (sa+na-1) nv):=λx hx=>by
  obtain⟨j,q1,q2,rfl⟩:=mx x hx;have:=s1 (sa+k) j (by omega) q1 q2
  exact⟨by omega,s1 j _ (by omega) (by omega) (by omega)⟩
 have loy:∀ x∈(arr.extract (sa+na) (sa+na+m)).toList,r (arr.getD (sa+na) nv)<=r x/\r x<=r (arr.getD (sa+na-1) nv):=λx hx=>by
  obtain⟨j,q1,q2,rfl⟩:=my x hx;have:=m2 (j-(sa+na)) (by omega)
  rw[show sa+na+(j-(sa+na))=j by omega] at this
  exact⟨s2 _ _ (Ar _) q1 (by omega),by omega⟩
 have fin:∀ mg g',Mo r ((arr.extract (sa+k) (sa+na)).toList++(arr.extract (sa+na) (sa+na+m)).toList) mg->Q true (AW κ (wb arr (sa+k) mg) ((pd.setIfInBounds i (sa,na+nb,pw)).eraseIdxIfInBounds (i+1)) g' none):=by
  intro mg g' M;have ej:(arr.extract (sa+k) (sa+na)).toList++(arr.extract (sa+na) (sa+na+m)).toList=(arr.extract (sa+k) (sa+k+(na-k+m))).toList:=by
   rw[i7 (by omega) (by omega),show sa+k+(na-k+m)=sa+na+m by omega]
  have hm:mg.size=na-k+m:=by
   have:=M.pm.length_eq;rw[AT,AJ,AJ,AJ,zx,zy] at this;exact this
  have gd:=λj=>Y5 (arr:=arr) (m:=mg) (o:=sa+k) (by omega) j
  refine h _ g' (Y7 (n:=na-k+m) (by omega) (ej▸M.pm)) (λj hj=>?_) λi j a b c=>?_
  .rw[gd,AD (by omega)]
  .have bd:∀ j,sa+k<=j->j<sa+na+m->r (arr.getD (sa+na) nv)<=r (mg.getD (j-(sa+k)) nv)/\r (mg.getD (j-(sa+k)) nv)<=r (arr.getD (sa+na-1) nv):=λj h1 h2=>by
    have:=M.pm.mem_iff.mp (zD (a:=mg) (i:=j-(sa+k)) (by omega))
    rcases AX.mp this with q|q
    .exact lox _ q
    .exact loy _ q
   rw[gd,gd,hm];by_cases i1:i<sa+k
   .rw[AD (by omega)]
    have u:=k2 (i-sa) (by omega)
    rw[show sa+(i-sa)=i by omega] at u
    by_cases j1:j<sa+k
    .rw[AD (by omega)];exact s1 i j a b (by omega)
    .by_cases j2:j<sa+na+m
     .rw[AA (by omega)];exact CI u (bd j (by omega) j2).1
     .rw[AD (by omega)];exact CI u (s2 _ _ (Ar _) (by omega) (by omega))
   .by_cases i2:i<sa+na+m
    .rw[AA (by omega)]
     by_cases j2:j<sa+na+m
     .rw[AA (by omega)];exact xT M.up (by omega) (by omega)
     .rw[AD (by omega)]
      have v:=m3 (j-(sa+na)) (by omega) (by omega)
      rw[show sa+na+(j-(sa+na))=j by omega] at v
      exact CI (bd i (by omega) i2).2 v
    .rw[AD (by omega),AD (by omega)]
     exact s2 i j (by omega) b (by omega)
 have ux:∀ x∈(arr.extract (sa+k) (sa+na)).toList,U x:=λx hx=>by obtain⟨j,q1,q2,rfl⟩:=mx x hx;exact ua _ (zD (by omega))
 have uy:∀ x∈(arr.extract (sa+na) (sa+na+m)).toList,U x:=λx hx=>by obtain⟨j,q1,q2,rfl⟩:=my x hx;exact ua _ (zD (by omega))
 have y0:(arr.extract (sa+na) (sa+na+m)).getD 0 nv=arr.getD (sa+na) nv:=gy 0 (by omega)
 have xl:(arr.extract (sa+k) (sa+na)).getD ((arr.extract (sa+k) (sa+na)).size-1) nv=arr.getD (sa+na-1) nv:=by rw[zx,gx _ (by omega)];congr 1;omega
 refine qL (λ_=>?_) λ_=>?_
 .refine Au (nN C rfl ux uy px py (λmg g' M=>?_) (by rw[zx];omega) (by rw[zy];omega) ?_ λx hx=>?_)
  .refine Au (DV (Au (Fp (A4 ?_))))
   exact fin mg g' M
  .rw[y0];exact(lox _ (zD (by rw[zx];omega))).1
  .rw[xl];exact(loy x hx).2
 .refine Au (nM C rfl ux uy px py (λmg g' M=>?_) (by rw[zx];omega) (by rw[zy];omega) (λx hx=>?_) ?_)
  .refine Au (DV (Au (Fp (A4 ?_))))
   exact fin mg g' M
  .rw[y0];exact(lox x hx).1
  .rw[xl];exact(loy _ (zD (by rw[zy];omega))).2
end
noncomputable def mir (a:A6 A7)(i j:Aj):A6 A7:=mirror a i j ((j-i)/2)
theorem xQ {a:A6 A7}{i j:Aj}(hj:j<=a.size)(k:Aj):(mir a i j).getD k nv=if i<=k/\k<j then a.getD (i+j-1-k) nv else a.getD k nv:=by
 rw[Co,Co,Co];unfold mir;rw[getElem?_mirror_all hj]
 split <;> rfl
structure Cr (a b:A6 A7)(lo n:Aj):Prop where
 pm:b.toList.Perm a.toList
 out:∀ k,k<lo\/lo+n<=k->b.getD k nv=a.getD k nv
theorem Cr.z {a b:A6 A7}(h:Cr a b lo n):b.size=a.size:=by
 have:=h.pm.length_eq;simpa using this
theorem Cr.rfl' {a:A6 A7}:Cr a a lo n:=⟨Hv _,λ_ _=>rfl⟩
theorem Cr.mir {a b:A6 A7}{i j:Aj}(h:Cr a b lo n)(h1:lo<=i)(h2:j<=lo+n)(h3:j<=a.size):Cr a (mir b i j) lo n:=
 ⟨(H9.mp (mirror_perm _ _ _ _)).trans h.pm,λk hk=>by rw[xQ (by rw[h.z];exact h3),AD (by lia)];exact h.out k hk⟩
def Dsg (r:A7->Am)(a:A6 A7)(lo n:Aj):Prop:=∀ i j,lo<=i->i<=j->j<lo+n->r (a.getD j nv)<=r (a.getD i nv)
theorem oM {r:A7->Am}{a:A6 A7}(h:Seg r a lo n)(h1:1<=n)(l:r (a.getD (lo+n-1) nv)<=r (a.getD (lo+n) nv)):Seg r a lo (n+1):=λi j h2 h3 h4=>by
 by_cases q:j<lo+n
 .exact h i j h2 h3 q
 .have:j=lo+n:=by lia
  subst this;by_cases q2:i=lo+n
  .subst q2;exact Gp _
  .exact CI (h i (lo+n-1) h2 (by lia) (by lia)) l
theorem yT {r:A7->Am}{a:A6 A7}(h:Dsg r a lo n)(h1:1<=n)(l:r (a.getD (lo+n) nv)<=r (a.getD (lo+n-1) nv)):Dsg r a lo (n+1):=λi j h2 h3 h4=>by
 by_cases q:j<lo+n
 .exact h i j h2 h3 q
 .have:j=lo+n:=by lia
  subst this;by_cases q2:i=lo+n
  .subst q2;exact Gp _
  .exact CI l (h i (lo+n-1) h2 (by lia) (by lia))
theorem lS {r:A7->Am}{a:A6 A7}:Seg r a lo 1:=λi j h2 h3 h4=>by
 have:i=j:=by lia
 subst this;exact Gp _
theorem ZY {r:A7->Am}{a:A6 A7}:Dsg r a lo 1:=λi j h2 h3 h4=>by
 have:i=j:=by lia
 subst this;exact Gp _
def cQ (r:A7->Am)(a:A6 A7)(lo n q:Aj):Prop:=q+1<=n/\∀ k,lo+n-(q+1)<=k->k<lo+n->r (a.getD k nv)=r (a.getD (lo+n-1) nv)
set_option tactic.hygienic true in
theorem uS {r:A7->Am}{a:A6 A7}{q:Aj}(hn:lo+n<=a.size)(h:cQ r a lo n q)(k:Aj):r ((mir a (lo+n-(q+1)) (lo+n)).getD k nv)=r (a.getD k nv):=by
 rw[xQ hn];have:=h.1
 split
 .rename_i c
  rw[h.2 k (by lia) c.2,h.2 _ (by lia) (by lia)]
 .rfl
theorem ZX {r:A7->Am}{a:A6 A7}(hn:lo+n<=a.size)(h:Dsg r a lo n):Seg r (mir a lo (lo+n)) lo n:=λi j h2 h3 h4=>by
 rw[xQ hn,xQ hn,AA (by lia),AA (by lia)]
 exact h _ _ (by lia) (by lia) (by lia)
section
variable {prog:A0}{w:AH}{A:AF}{E:Ac->Af->Prop}{s:Af}{κ : Fd}{U:A7->Prop}{r:A7->Am}
theorem uK (C:Cm (Aq prog w) A s κ U r){i j:Aj}{arr:A6 A7}{pd:A6 (Aj × Aj × Aj)}{g:Aj}{Q:Ak Ap->CK->Prop}(ua:∀ x∈arr.toList,U x)(hi:i<arr.size)(hj:j<arr.size)
  (q:Q (Ab (decide (r (arr.getD i nv)<r (arr.getD j nv)))) (AW κ arr pd g none)):wpS (Aq prog w) A E s (ltAt' i j) Q (AW κ arr pd g none):=by
 refine Au (Fp ?_);exact Au (qZ hi (Au (qZ hj (C.lt (ua _ (zD hi)) (ua _ (zD hj)) rfl q))))
theorem kW {i j:Aj}{pd:A6 (Aj × Aj × Aj)}{g:Aj}{Q:PUnit->CK->Prop}(q:Q ⟨⟩ (AW κ (mir arr i j) pd g none)):wpS (Aq prog w) A E s (reverseSlice' i j) Q (AW κ arr pd g none):=DV q
theorem fM (C:Cm (Aq prog w) A s κ U r){lo N:Aj}{arr:A6 A7}{pd:A6 (Aj × Aj × Aj)}{g:Aj}{Q:Ak Aj->CK->Prop}(ua:∀ x∈arr.toList,U x)(h1:1<=N)(hz:lo+N<=arr.size)
  (h:∀ n b,1<=n->n<=N->Cr arr b lo N->Seg r b lo n->Q (Ab n) (AW κ b pd g none)):wpS (Aq prog w) A E s (countRun' lo N) Q (AW κ arr pd g none):=by
 have uc:∀ {b:A6 A7},Cr arr b lo N->∀ x∈b.toList,U x:=λh x hx=>ua x (h.pm.mem_iff.mp hx);have asc:∀ {b:A6 A7} {n:Aj} {f:Aj->Ak (Ak Aj) × Aj->Go CK EE (ForInStep (Ak (Ak Aj) × Aj))},Cr arr b lo N->1<=n->n<=N->Seg r b lo n ->
   (∀ x m,f x (none,m)=(ltAt' (lo+m) (lo+m-1) >>= λo=>match o with
    |some z=>if z then pure (.done (none,m)) else pure (.yield (none,m+1))
    |_=>pure (.done (Ab none,m))))->wpS (Aq prog w) A E s (forIn [n:N] (none,n) f) (λc st'=>st'=AW κ b pd g none/\∃ m,c=(none,m)/\n<=m/\m<=N/\Seg r b lo m/\(m=N\/r (b.getD (lo+m) nv)<r (b.getD (lo+m-1) nv))) (AW κ b pd g none):=by
  intro b n f cr hn hN sg hf;have zb:=cr.z;refine CA (I:=λx c st'=>st'=AW κ b pd g none/\c=(none,x)/\n<=x/\Seg r b lo x) ?_ ?_ ⟨rfl,rfl,Ar _,sg⟩
  .rintro x c st' hx1 hx ⟨rfl,rfl,hx3,sg⟩
   rw[hf];refine Au (uK C (uc cr) (by lia) (by lia) ?_)
   by_cases l:r (b.getD (lo+x) nv)<r (b.getD (lo+x-1) nv)
   .simp only[l,E9,Bq]
    exact A4 ⟨rfl,x,rfl,hx1,by lia,sg,.inr l⟩
   .simp only[l,EK,Bj,D0]
    exact A4 ⟨rfl,rfl,by lia,oM sg (by lia) (by lia)⟩
  .rintro c st' ⟨rfl,rfl,hx3,sg⟩
   rw[show max n N=N by lia] at sg ⊢
   exact⟨rfl,N,rfl,hN,Ar _,sg,.inl rfl⟩
 refine Au (Dq (asc Cr.rfl' (Ar 1) h1 lS λ_ _=>rfl) ?_);rintro c st' ⟨rfl,n,rfl,n1,n2,sg,nd⟩;dsimp only;refine qL (λe=>A4 (h n arr n1 n2 Cr.rfl' sg)) λe=>?_;have e:¬ n=N:=by simpa using e
 have nd:r (arr.getD (lo+n) nv)<r (arr.getD (lo+n-1) nv):=by lia
 apply qL
 case' h1 =>
  intro np;refine Au (uK C ua (by lia) (by lia) ?_)
  dsimp only;refine qL (λe=>A4 (h n arr n1 n2 Cr.rfl' sg)) λl=>?_;have l:¬ r (arr.getD lo nv)<r (arr.getD (lo+n-1) nv):=by simpa using l
  refine Au (kW ?_);have cr:Cr arr (mir arr lo (lo+n)) lo N:=Cr.rfl'.mir (Ar _) (by lia) (by lia)
  have ds:Dsg r (mir arr lo (lo+n)) lo (n+1):=by
   refine yT (λi j a b c=>?_) n1 ?_
   .rw[xQ (by lia),xQ (by lia),AA (by lia),AA (by lia)]
    exact sg _ _ (by lia) (by lia) (by lia)
   .rw[xQ (by lia),xQ (by lia),AD (by lia),AA (by lia),show lo+(lo+n)-1-(lo+n-1)=lo by lia]
    lia
 case' h2 =>
  intro np;have cr:Cr arr arr lo N:=Cr.rfl';have ds:Dsg r arr lo (n+1):=by
   have:n=1:=by lia
   subst this;exact yT ZY (Ar _) (Ds nd)
 all_goals
  refine Au (HA (D7 ⟨rfl,?_⟩));refine Au (Dq (CA (I:=λx c st'=>∃ b q,st'=AW κ b pd g none/\c=(none,x,q)/\Cr arr b lo N/\Dsg r b lo x/\cQ r b lo x q)
   (Q:=λc st'=>∃ b m q,st'=AW κ b pd g none/\c=(none,m,q)/\1<=m/\m<=N/\Cr arr b lo N/\Dsg r b lo m/\cQ r b lo m q) ?_ ?_ ⟨_,0,rfl,rfl,cr,ds,by lia,λk a b=>by rw[show k=lo+(n+1)-1 by lia]⟩) ?_)
  .rintro x c st' hx1 hx ⟨b,q,rfl,rfl,cr,ds,eq⟩
   dsimp only;have zb:=cr.z;refine Au (uK C (uc cr) (by lia) (by lia) ?_)
   dsimp only;refine qL (λl=>?_) λl=>?_
   .have l:r (b.getD (lo+x) nv)<r (b.getD (lo+x-1) nv):=by simpa using l
    refine qL (λqp=>Au (kW (A4 ⟨_,0,rfl,rfl,cr.mir (by have:=eq.1;lia) (by lia) (by lia),λi j a c d=>?_,by lia,λk a b=>by rw[show k=lo+(x+1)-1 by lia]⟩))) λqp=>A4 ⟨_,0,rfl,rfl,cr,yT ds (by lia) (Ds l),by lia,λk a b=>by rw[show k=lo+(x+1)-1 by lia]⟩
    rw[uS (by lia) eq,uS (by lia) eq]
    exact yT ds (by lia) (Ds l) i j a c d
   .have l:¬ r (b.getD (lo+x) nv)<r (b.getD (lo+x-1) nv):=by simpa using l
    refine Au (uK C (uc cr) (by lia) (by lia) ?_)
    dsimp only;refine qL (λl2=>A4 ⟨b,x,q,rfl,rfl,by lia,by lia,cr,ds,eq⟩) λl2=>?_
    have l2:¬ r (b.getD (lo+x-1) nv)<r (b.getD (lo+x) nv):=by simpa using l2
    have ee:r (b.getD (lo+x) nv)=r (b.getD (lo+x-1) nv):=by lia
    refine A4 ⟨b,q+1,rfl,rfl,cr,yT ds (by lia) (by lia),by have:=eq.1;lia,λk a c=>?_⟩
    rw[show lo+(x+1)-1=lo+x by lia]
    by_cases kx:k=lo+x
    .rw[kx]
    .rw[ee];exact eq.2 k (by lia) (by lia)
  .rintro c st' ⟨b,q,rfl,rfl,cr,ds,eq⟩
   rw[show max (n+1) N=N by lia] at ds eq ⊢
   exact⟨b,N,q,rfl,rfl,h1,Ar _,cr,ds,eq⟩
  .rintro c st' ⟨b,m,q,rfl,rfl,m1,m2,cr,ds,eq⟩
   dsimp only;have zb:=cr.z;apply qL
   case' h1 =>
    intro qp;refine Au (kW ?_);have cr2:=cr.mir (i:=lo+m-(q+1)) (j:=lo+m) (by have:=eq.1;lia) (by lia) (by lia)
    have ds2:Dsg r (mir b (lo+m-(q+1)) (lo+m)) lo m:=λi j a c d=>by
     rw[uS (by lia) eq,uS (by lia) eq]
     exact ds i j a c d
   case' h2 =>
    intro qp;have cr2:=cr;have ds2:=ds
   all_goals
    have z2:=cr2.z;refine Au (kW ?_);refine Au (Dq (asc (cr2.mir (Ar _) (by lia) (by lia)) m1 m2 (ZX (by lia) ds2) λ_ _=>rfl) ?_)
    rintro c st' ⟨rfl,n',rfl,q1,q2,q3,_⟩;exact A4 (h n' _ (by lia) q2 (cr2.mir (Ar _) (by lia) (by lia)) q3)
end
theorem mC {a:A6 A7}{src d:Aj}(hs:src<a.size)(hd:d<=src)(k:Aj):(bubble a src d).getD k nv=if k=src-d then a.getD src nv else if src-d<k/\k<=src then a.getD (k-1) nv else a.getD k nv:=by
 simp only[Co];rw[getElem?_bubble hs d hd]
 repeat' split
 all_goals rfl
section
variable {prog:A0}{w:AH}{A:AF}{E:Ac->Af->Prop}{s:Af}{κ : Fd}{U:A7->Prop}{r:A7->Am}
theorem n9 (C:Cm (Aq prog w) A s κ U r){lo n ok:Aj}{arr:A6 A7}{pd:A6 (Aj × Aj × Aj)}{g:Aj}{Q:Ap->CK->Prop}(ua:∀ x∈arr.toList,U x)(h1:ok<=n)(hz:lo+n<=arr.size)(sg:Seg r arr lo ok)
  (h:∀ b,Cr arr b lo n->Seg r b lo n->Q true (AW κ b pd g none)):wpS (Aq prog w) A E s (binarySort' lo n ok) Q (AW κ arr pd g none):=by
 have uc:∀ {b:A6 A7},Cr arr b lo n->∀ x∈b.toList,U x:=λh x hx=>ua x (h.pm.mem_iff.mp hx);have sg1:Seg r arr lo (max ok 1):=by
  by_cases q:ok=0
  .rw[q];exact lS
  .rw[show max ok 1=ok by lia];exact sg
 refine Au (Dq (CA (I:=λk c st'=>c=(none,())/\∃ b,st'=AW κ b pd g none/\Cr arr b lo n/\Seg r b lo (min k (max ok (max n 1))))
  (Q:=λc st'=>c=(none,())/\∃ b,st'=AW κ b pd g none/\Cr arr b lo n/\Seg r b lo n) ?_ ?_ ⟨rfl,arr,rfl,Cr.rfl',?_⟩) ?_)
 .rintro k c st' hk hkn ⟨rfl,b,rfl,cr,sg⟩
  have zb:=cr.z;rw[show min k (max ok (max n 1))=k by lia] at sg
  dsimp only;refine Au (Dq (CA (I:=λx c st'=>st'=AW κ b pd g none/\∃ l u,c=(none,l,u)/\l<=u/\u<=k/\u-l<=k-x/\(∀ i,i<l->r (b.getD (lo+i) nv)<=r (b.getD (lo+k) nv))/\∀ i,u<=i->i<k->r (b.getD (lo+k) nv)<r (b.getD (lo+i) nv))
   (Q:=λc st'=>st'=AW κ b pd g none/\∃ l u,c=(none,l,u)/\l<=k/\(∀ i,i<l->r (b.getD (lo+i) nv)<=r (b.getD (lo+k) nv))/\∀ i,l<=i->i<k->r (b.getD (lo+k) nv)<r (b.getD (lo+i) nv)) ?_ ?_
   ⟨rfl,0,k,rfl,by lia,by lia,by lia,λi hi=>by lia,λi a b=>by lia⟩) ?_)
  .rintro x c st' _ hx ⟨rfl,l,u,rfl,q1,q2,q3,q4,q5⟩
   dsimp only;refine qL (λe=>A4 ⟨rfl,l,u,rfl,by lia,q4,λi a b=>q5 i (by lia) b⟩) λe=>?_
   refine Au (uK C (uc cr) (by lia) (by lia) ?_)
   dsimp only;refine qL (λz=>?_) λz=>?_
   .have z:r (b.getD (lo+k) nv)<r (b.getD (lo+(l+u)/2) nv):=by simpa using z
    exact A4 ⟨rfl,_,_,rfl,by lia,by lia,by lia,q4,λi a c=>Int.lt_of_lt_of_le z (sg _ _ (by lia) (by lia) (by lia))⟩
   .have z:¬ r (b.getD (lo+k) nv)<r (b.getD (lo+(l+u)/2) nv):=by simpa using z
    exact A4 ⟨rfl,_,_,rfl,by lia,by lia,by lia,λi a=>CI (sg _ _ (by lia) (by lia) (by lia)) (Ki.mp z),q5⟩
  .rintro c st' ⟨rfl,l,u,rfl,q1,q2,q3,q4,q5⟩
   exact⟨rfl,l,u,rfl,by lia,q4,λi a b=>q5 i (by lia) b⟩
  .rintro c st' ⟨rfl,l,u,rfl,q1,q4,q5⟩
   dsimp only;refine Au (DV (A4 ⟨rfl,_,rfl,⟨(H9.mp (bubble_perm _ _ _)).trans cr.pm,λj hj=>?_⟩,?_⟩))
   .show (bubble b (lo+k) (lo+k-(lo+l))).getD j nv=_
    rw[mC (by lia) (by lia),AD (by lia),AD (by lia)]
    exact cr.out j hj
   .rw[show min (k+1) (max ok (max n 1))=k+1 by lia]
    have e:∀ j,(bubble b (lo+k) (lo+k-(lo+l))).getD j nv=if j=lo+l then b.getD (lo+k) nv else if lo+l<j/\j<=lo+k then b.getD (j-1) nv else b.getD j nv:=λj=>by
     rw[mC (by lia) (by lia),show lo+k-(lo+k-(lo+l))=lo+l by lia]
    intro i j a c d;show r ((bubble b (lo+k) (lo+k-(lo+l))).getD i nv)<=r ((bubble b (lo+k) (lo+k-(lo+l))).getD j nv);rw[e,e];by_cases i1:i<lo+l
    .rw[AD (by lia),AD (by lia)]
     have u1:=q4 (i-lo) (by lia)
     rw[show lo+(i-lo)=i by lia] at u1
     by_cases j1:j<lo+l
     .rw[AD (by lia),AD (by lia)];exact sg i j a c (by lia)
     .by_cases j2:j=lo+l
      .rw[AA j2];exact u1
      .rw[AD j2,AA (by lia)];exact sg _ _ a (by lia) (by lia)
    .by_cases i2:i=lo+l
     .rw[AA i2]
      by_cases j2:j=lo+l
      .rw[AA j2];exact Gp _
      .rw[AD j2,AA (by lia)]
       have:=q5 (j-1-lo) (by lia) (by lia)
       rw[show lo+(j-1-lo)=j-1 by lia] at this
       exact Ds this
     .rw[AD i2,AA (by lia),AD (by lia),AA (by lia)]
      exact sg _ _ (by lia) (by lia) (by lia)
 .rintro c st' ⟨rfl,b,rfl,cr,sg⟩
  refine⟨rfl,b,rfl,cr,?_⟩;intro i j a c d;exact sg i j a c (by lia)
 .rw[show min (max ok 1) (max ok (max n 1))=max ok 1 by lia];exact sg1
 .rintro c st' ⟨rfl,b,rfl,cr,sg⟩
  exact A4 (h b cr sg)
end
def Rn (r:A7->Am)(a:A6 A7):Aa (Aj × Aj × Aj)->Aj->Aj->Prop
 |[],x,y=>x=y
 |(s,n,_)::t,x,y=>s=x/\0<n/\Seg r a s n/\Rn r a t (x+n) y
section
variable {r:A7->Am}{a b:A6 A7}
theorem Rn.app:∀ {L1 L2:Aa (Aj × Aj × Aj)} {x y:Aj},Rn r a (L1++L2) x y↔∃ m,Rn r a L1 x m/\Rn r a L2 m y
 |[],L2,x,y=>⟨λh=>⟨x,rfl,h⟩,λ⟨m,h1,h2⟩=>by cases h1;exact h2⟩
 |(s,n,p)::t,L2,x,y=>by
  show s=x/\0<n/\Seg r a s n/\Rn r a (t++L2) (x+n) y↔∃ m,(s=x/\0<n/\Seg r a s n/\Rn r a t (x+n) m)/\Rn r a L2 m y;rw[Rn.app];exact⟨λ⟨h1,h2,h3,m,h4,h5⟩=>⟨m,⟨h1,h2,h3,h4⟩,h5⟩,λ⟨m,⟨h1,h2,h3,h4⟩,h5⟩=>⟨h1,h2,h3,m,h4,h5⟩⟩
theorem Rn.le:∀ {L:Aa (Aj × Aj × Aj)} {x y:Aj},Rn r a L x y->x+L.length<=y
 |[],x,y,h=>by cases h;simp
 |(s,n,p)::t,x,y,h=>by have:=Rn.le h.2.2.2;have:=h.2.1;simp only[AG];lia
theorem Rn.congr:∀ {L:Aa (Aj × Aj × Aj)} {x y:Aj},Rn r a L x y->(∀ k,x<=k->k<y->b.getD k nv=a.getD k nv)->Rn r b L x y
 |[],x,y,h,_=>h
 |(s,n,p)::t,x,y,h,e=>by
  obtain⟨rfl,h2,h3,h4⟩:=h;have l:=Rn.le h4;refine⟨rfl,h2,λi j a c d=>?_,Rn.congr h4 λk h1 h2=>e k (by lia) h2⟩
  rw[e i (by lia) (by lia),e j (by lia) (by lia)]
  exact h3 i j a c d
theorem Rn.mod {f:Aj × Aj × Aj->Aj × Aj × Aj}(hf:∀ u v p,∃ p',f (u,v,p)=(u,v,p')):∀ {L:Aa (Aj × Aj × Aj)} {i x y:Aj},Rn r a L x y->Rn r a (L.modify i f) x y
 |[],i,x,y,h=>by simpa using h
 |(s,n,p)::t,0,x,y,h=>by
  obtain⟨p',e⟩:=hf s n p;rw[List.modify_zero_cons,e];exact h
 |(s,n,p)::t,i+1,x,y,h=>by
  rw[List.modify_succ_cons];exact⟨h.1,h.2.1,h.2.2.1,Rn.mod hf h.2.2.2⟩
end
theorem KL {α:Type}{l:Aa α}{i:Aj}(h:i+1<l.length):∃ L1 x y L2,l=L1++x::y::L2/\L1.length=i:=by
 refine⟨l.take i,l[i],l[i+1],l.drop (i+2),?_,by rw[Du];lia⟩
 rw[<- Dv h,<- Dv (by lia),Gq]
section
variable {prog:A0}{w:AH}{A:AF}{E:Ac->Af->Prop}{s:Af}{κ : Fd}{U:A7->Prop}{r:A7->Am}
theorem p4 (C:Cm (Aq prog w) A s κ U r){i e:Aj}{Q:Ap->CK->Prop}{arr:A6 A7}{pd:A6 (Aj × Aj × Aj)}{g:Aj}(ua:∀ x∈arr.toList,U x)(hi:i+1<pd.size)(R:Rn r arr pd.toList 0 e)(he:e<=arr.size)
  (h:∀ b pd' g,b.toList.Perm arr.toList->(∀ k,e<=k->b.getD k nv=arr.getD k nv)->Rn r b pd'.toList 0 e->pd'.size+1=pd.size->Q true (AW κ b pd' g none)):wpS (Aq prog w) A E s (mergeAt' i) Q (AW κ arr pd g none):=by
 obtain⟨L1,⟨sa,na,pa⟩,⟨sb,nb,pb⟩,L2,el,hl⟩:=KL (l:=pd.toList) (i:=i) (by simpa using hi)
 rw[el] at R;obtain⟨m,R1,rfl,p1,s1,rfl,p2,s2,R2⟩:=Rn.app.mp R;have l2:=Rn.le R2;have e1:pd[i]? = Ab (sa,na,pa):=by
  rw[<- Bx,el,<- hl,Bc (Ar _),Ln];rfl
 have e2:pd[i+1]? = Ab (sa+na,nb,pb):=by
  rw[<- Bx,el,<- hl,Bc (by lia),Er];rfl
 refine nK C ua e1 e2 p1 p2 (by lia) s1 s2 λb g pm out sg=>?_
 have ep:((pd.setIfInBounds i (sa,na+nb,pa)).eraseIdxIfInBounds (i+1)).toList=L1++(sa,na+nb,pa)::L2:=by
  rw[Array.toList_eraseIdxIfInBounds,Array.toList_setIfInBounds,el,<- hl,List.set_append_right _ _ (Ar _),Ln,List.set_cons_zero,List.eraseIdx_append_of_length_le (by lia),Er]
  rfl
 refine h b _ g pm (λk hk=>out k (by lia)) ?_ ?_
 .rw[ep]
  refine Rn.app.mpr ⟨sa,R1.congr λk _ hk=>out k (by lia),rfl,by lia,sg,?_⟩
  rw[<- Nat.add_assoc];exact R2.congr λk hk _=>out k (by lia)
 .have:=congrArg IU ep
  have q:=congrArg IU el;simp only[AJ,AT,AG] at this q
  lia
theorem fN (C:Cm (Aq prog w) A s κ U r){Q:Ho->CK->Prop}{arr:A6 A7}{g:Aj}(ua:∀ x∈arr.toList,U x)(h2:0<arr.size)
  (h:∀ b pd g,b.toList.Perm arr.toList->b.toList.Pairwise (Le r)->Q () (AW κ b pd g none)):wpS (Aq prog w) A E s sortRuns' Q (AW κ arr #[] g none):=by
 have uc:∀ {b:A6 A7},b.toList.Perm arr.toList->∀ x∈b.toList,U x:=λh x hx=>ua x (h.mem_iff.mp hx);have zc:∀ {b:A6 A7},b.toList.Perm arr.toList->b.size=arr.size:=λh=>by simpa using h.length_eq
 refine Au (Fp ?_);dsimp only;refine Au (Dq (CA (I:=λx c st'=>∃ b pd g lo,st'=AW κ b pd g none/\c=(none,lo)/\b.toList.Perm arr.toList/\lo<=arr.size/\min x arr.size<=lo/\Rn r b pd.toList 0 lo)
  (Q:=λc st'=>∃ b pd g,st'=AW κ b pd g none/\c=(none,arr.size)/\b.toList.Perm arr.toList/\Rn r b pd.toList 0 arr.size) ?_ ?_ ⟨arr,#[],g,0,rfl,rfl,Hv _,by lia,by lia,rfl⟩) ?_)
 .rintro x c st' _ hx ⟨b,pd,g,lo,rfl,rfl,pm,lo1,lo2,R⟩
  have zb:=zc pm;dsimp only;refine qL (λe=>A4 ⟨b,pd,g,rfl,by rw[show lo=arr.size by lia],pm,by rw[show arr.size=lo by lia];exact R⟩) λe=>?_
  refine Au (fM C (uc pm) (by lia) (by lia) λn b2 n1 n2 cr sg=>?_)
  have R2:Rn r b2 pd.toList 0 lo:=R.congr λk _ hk=>cr.out k (.inl hk);have pm2:=cr.pm.trans pm;have z2:=zc pm2;dsimp only;apply qL
  case' h1 =>
   intro lt;refine Au (HA (D7 ⟨rfl,?_⟩));refine Au (n9 C (uc pm2) (by lia) (by lia) sg λb3 cr3 sg3=>?_)
   have R3:Rn r b3 pd.toList 0 lo:=R2.congr λk _ hk=>cr3.out k (.inl hk);have pm3:=cr3.pm.trans pm2;refine qL (λe=>by simp at e) λ_=>?_
   have n3:lo+min (arr.size-lo) ((sortPriv% PySem.Builtin.minRun) arr.size arr.size 0)<=arr.size:=by lia
   have n4:0<min (arr.size-lo) ((sortPriv% PySem.Builtin.minRun) arr.size arr.size 0):=by lia
  case' h2 =>
   intro lt;have R3:=R2;have pm3:=pm2;have sg3:=sg;have n3:lo+n<=arr.size:=by lia
   have n4:0<n:=n1
  all_goals
   refine Au (Fp ?_);dsimp only;rcases hb:pd.back? with _|⟨s1,l1,p1⟩
   .dsimp only
    refine Au (DV (A4 ⟨_,_,_,_,rfl,rfl,pm3,n3,by lia,?_⟩))
    show Rn r _ (pd.push _).toList 0 _;rw[Ec];exact Rn.app.mpr ⟨lo,R3,rfl,n4,sg3,rfl⟩
   .dsimp only
    refine Au (Dq (CA (I:=λ_ c st'=>c=(none,())/\∃ b pd g,st'=AW κ b pd g none/\b.toList.Perm arr.toList/\Rn r b pd.toList 0 lo/\Seg r b lo _)
     (Q:=λc st'=>c=(none,())/\∃ b pd g,st'=AW κ b pd g none/\b.toList.Perm arr.toList/\Rn r b pd.toList 0 lo/\Seg r b lo _) ?_ (λ_ _ z=>z) ⟨rfl,_,pd,g,rfl,pm3,R3,sg3⟩) ?_)
    .rintro y c st' _ hy ⟨rfl,b,pd,g,rfl,pm,R,sg⟩
     have zb:=zc pm;refine Au (Fp ?_);dsimp only;by_cases hp:pd.size>1
     .rw[AA hp]
      rcases hq:pd[pd.size-2]? with _|⟨u,v,old⟩
      .exact A4 ⟨rfl,b,pd,g,rfl,pm,R,sg⟩
      .dsimp only
       refine qL (λ_=>A4 ⟨rfl,b,pd,g,rfl,pm,R,sg⟩) λ_=>?_;refine Au (p4 C (uc pm) (by lia) R (by lia) λb' pd' g' p' out R' _=>?_)
       refine qL (λe=>by simp at e) λ_=>A4 ⟨rfl,b',pd',g',rfl,p'.trans pm,R',λi j a c d=>?_⟩
       rw[out i a,out j (by lia)]
       exact sg i j a c d
     .rw[AD hp]
      exact A4 ⟨rfl,b,pd,g,rfl,pm,R,sg⟩
    .rintro c st' ⟨rfl,b,pd,g,rfl,pm,R,sg⟩
     dsimp only;refine Au (DV (Au (DV (A4 ⟨_,_,_,_,rfl,rfl,pm,n3,by lia,?_⟩))))
     show Rn r b ((pd.modify (pd.size-1) _).push _).toList 0 _;rw[Ec,Array.toList_modify];exact Rn.app.mpr ⟨lo,Rn.mod (λ_ _ _=>⟨_,rfl⟩) R,rfl,n4,sg,rfl⟩
 .rintro c st' ⟨b,pd,g,lo,rfl,rfl,pm,lo1,lo2,R⟩
  have:lo=arr.size:=by lia
  subst this;exact⟨b,pd,g,rfl,rfl,pm,R⟩
 .rintro c st' ⟨b,pd,g,rfl,rfl,pm,R⟩
  dsimp only;have hl:=R.le;rw[AJ] at hl;refine Au (Dq (CA (I:=λx c st'=>c=(none,())/\∃ b pd g,st'=AW κ b pd g none/\b.toList.Perm arr.toList/\Rn r b pd.toList 0 arr.size/\(pd.size<=1\/pd.size+x<=arr.size))
   (Q:=λc st'=>c=(none,())/\∃ b pd g,st'=AW κ b pd g none/\b.toList.Perm arr.toList/\Rn r b pd.toList 0 arr.size/\pd.size<=1) ?_ ?_ ⟨rfl,b,pd,g,rfl,pm,R,by lia⟩) ?_)
  .rintro x c st' _ hx ⟨rfl,b,pd,g,rfl,pm,R,hs⟩
   have zb:=zc pm;refine Au (Fp ?_);dsimp only;refine qL (λe=>A4 ⟨rfl,b,pd,g,rfl,pm,R,e⟩) λe=>?_;refine Au (p4 C (uc pm) ?_ R (by lia) λb' pd' g' p' out R' z'=>?_)
   .have e:¬ pd.size<=1:=e
    have q:∀ (c:Prop) [Em c],(if c then pd.size-2-1 else pd.size-2)+1<pd.size:=λc _=>by split <;> lia
    exact q _
   exact qL (λe=>by simp at e) λ_=>A4 ⟨rfl,b',pd',g',rfl,p'.trans pm,R',by lia⟩
  .rintro c st' ⟨rfl,b,pd,g,rfl,pm,R,hs⟩
   exact⟨rfl,b,pd,g,rfl,pm,R,by lia⟩
  .rintro c st' ⟨rfl,b,pd,g,rfl,pm,R,hs⟩
   have zb:=zc pm;refine A4 (h b pd g pm ?_);have hs:pd.toList.length<=1:=by simpa using hs
   revert R hs
   cases pd.toList with
   |nil=>intro R;have:0=arr.size:=R;lia
   |cons q t =>
    obtain⟨s0,n0,p0⟩:=q;intro R hs;have:t=[]:=by cases t with|nil=>rfl|cons _ _=>simp at hs
    subst this;obtain⟨rfl,_,sg,e⟩:=R;have e:n0=arr.size:=by have:0+n0=arr.size:=e;lia
    subst e;rw[EV];intro i j hi hj l;have hi':i<b.size:=by simpa using hi
    have hj':j<b.size:=by simpa using hj
    have:=sg i j (by lia) (by lia) (by lia)
    simpa [DU,hi',hj',Le] using this
end
structure Cmps (prog:A0)(w:AH)(h0:A8)(vs:Aa Ac)(f:Aj->Aj->Ap):Prop where
 ex:∃ κ,∀ (A:AF),A.units+8<D3->∀ (s:Af),Sup h0 s.heap->(∀ (Q:Fd->Af->Prop) (E:Ac->Af->Prop),Q κ s->Ao (Aq prog w) A (keyKind' vs.toArray) Q E s)/\∀ i j (C:Ap->Af->Prop),i<vs.length->j<vs.length->C (f i j) s->kas_ask prog w A κ vs i j C s
open Classical in
def kV {K:Type}(is:K->Ac->Prop)(d:K)(v:Ac):K:=if h:∃ k,is k v then choose h else d
open Classical in
theorem fT {K:Type}{is:K->Ac->Prop}{d:K}{v:Ac}(h:∃ k,is k v):is (kV is d v) v:=by
 unfold kV;rw[dif_pos h];exact choose_spec h
section
variable {prog:A0}{w:AH}{A:AF}{E:Ac->Af->Prop}{s:Af}
theorem Q8 {K:Type}{is:K->Ac->Prop}{lt':K->K->Ap}{d:K}(O:Ord lt')(inj:∀ {k k':K} {v:Ac},is k v->is k' v->k=k'){a:Ad}{vs:Aa Ac}{ks:Aa K}{n:Aj}{h0:A8}{P:PySem.Fin->Af->Prop}(hlen:vs.length=ks.length)(hks:∀ i v,vs[i]? = Ab v->is (ks.getD i d) v)(ho:s.heap.get? a=Ab (Bt "list" vs.toArray n))(hu:A.units+8<D3)(hz:vs.length<=100000)(c:2<=vs.length->Cmps prog w h0 vs (pO lt' ks d))(hS:Sup h0 s.heap)(ha:h0.get? a=none)
  (h:∀ ps:Aa (K × Ac),ps.Perm (ks.zip vs)->Nf lt' (ps.map (·.1))->P (.done (.ret .none)) { s with heap:=sortedHeap s.heap a vs (ps.map (·.2)).toArray }) : Ao (Aq prog w) A (EH.«list.sort» ⟨[.ref a],[]⟩) P E s:=by
 rw[list_sort_plain];have hb:a<s.heap.objs.size:=Ay ho;have hsz:vs.toArray.size=vs.length:=by simp
 refine Ag (listItems_at ho rfl (Ag (listUpdate_at ho rfl ?_ (by rw[hsz,Ch];lia) (Ek _))))
 obtain⟨e1,ho1⟩:∃ e1,(s.heap.update a (CS λ_=>#[])).get? a=Ab (Bt "list" #[] e1):=⟨_,Fe ho (λ_=>#[])⟩;refine Ag (seqEpoch_at ho1 rfl (Ag (Jh (Ag (Kk (CZ ?_) (Ek _))) (by show vs.length<=_;rw[Ch];lia))))
 have ho6:(((s.heap.update a (CS λ_=>#[])).push (Bt "tuple" vs.toArray 0)).push (Bt "list" #[] 0)).get? a=Ab (Bt "list" #[] e1):=
  Ai _ (Ai _ ho1)
 have S6:Sup h0 (((s.heap.update a (CS λ_=>#[])).push (Bt "tuple" vs.toArray 0)).push (Bt "list" #[] 0)):=λb o e =>
  Ai _ (Ai _ ((CH _ _ (λz:a=b=>by rw[<- z,ha] at e;cases e)).trans (hS b o e)))
 show Ao (Aq prog w) A _ P E { s with heap:=((s.heap.update a (CS λ_=>#[])).push (Bt "tuple" vs.toArray 0)).push (Bt "list" #[] 0) }
 dsimp only;have fin:∀ (st':CK) (ps:Aa (K × Ac)),(arrOf st').map (·.2)=(ps.map (·.2)).toArray->failedOf st'=none->ps.Perm (ks.zip vs)->Nf lt' (ps.map (·.1))->Ao (Aq prog w) A (do
   let touched:=(<- seqEpoch a) != e1
   NN (.ref a) λ_=>(arrOf st').map (·.2)
   if let Ab e:=failedOf st' then rule "list.sort.comparison-raised";throw e
   if touched then rule "list.sort.modified";raiseError "ValueError" "list modified during sort"
   ret .none) P E { s with heap:=((s.heap.update a (CS λ_=>#[])).push (Bt "tuple" vs.toArray 0)).push (Bt "list" #[] 0) }:=by
  intro st' ps h1 h2 h3 h4;have hl:(ps.map (·.2)).length=vs.length:=by rw[Az,h3.length_eq,Mq,hlen,Li]
  refine Ag (seqEpoch_at ho6 rfl ?_);rw[h1];refine Ag (listUpdate_at ho6 rfl ?_ (Ek _) (by show (ps.map (·.2)).toArray.size<=_;rw[A9,hl,Ch];lia))
  rw[h2];simp only[bne_self_eq_false,Bj,D0];exact As (h ps h3 h4)
 by_cases h2:vs.toArray.size<2
 .rw[AA h2,AA h2]
  refine Ag (As ?_);rw[StateT.run_pure];refine Ag (As ?_);refine fin (AW general' (vs.toArray.zip vs.toArray) #[] 7 none) (ks.zip vs) ?_ rfl (Hv _) ?_
  .show (vs.toArray.zip vs.toArray).map (·.2)=_
   apply Mc.mp;simp[List.map_snd_zip,hlen]
  .rw[Il (by lia)]
   match ks,hlen with
   |[],_=>exact HF
   |[_],_=>exact Es _ _
   |_::_::_,e=>simp at e h2;lia
 .rw[AD h2,AD h2]
  have h2':2<=vs.length:=by lia
  obtain⟨κ,C⟩:=c h2';obtain⟨k1,k2⟩:=C A hu { s with heap:=((s.heap.update a (CS λ_=>#[])).push (Bt "tuple" vs.toArray 0)).push (Bt "list" #[] 0) } S6
  have kv:∀ i,i<vs.length->kV is d (vs.getD i Bk)=ks.getD i d:=λi hi=>by
   have q:=hks i (vs.getD i Bk) (by rw[List.getD_eq_getElem?_getD,Ax hi];rfl)
   exact inj (fT ⟨_,q⟩) q
  have km:∀ i,i<vs.length->ks.getD i d∈ks:=λi hi=>by
   have:i<ks.length:=by lia
   simp[HK,this]
  have cm:Cm (Aq prog w) A { s with heap:=((s.heap.update a (CS λ_=>#[])).push (Bt "tuple" vs.toArray 0)).push (Bt "list" #[] 0) } κ (λx=>∃ i,i<vs.length/\x=(vs.getD i Bk,vs.getD i Bk)) (λx=>jE lt' ks (kV is d x.1)):=by
   refine⟨?_⟩;rintro x y ⟨i,hi,rfl⟩ ⟨j,hj,rfl⟩ E Q st hk q;rw[lt'_eq];refine Au (Fp ?_);rw[hk];rw[kv i hi,kv j hj,<- tL O (km i hi)] at q;refine Au (HA (Ez (Dp (k2 i j (λb s'=>s'=_/\b=pO lt' ks d i j) hi hj ⟨rfl,rfl⟩) ?_ λ_ _ e=>e.elim)));rintro b s' ⟨rfl,rfl⟩;exact⟨rfl,A4 q⟩
  have pl:(vs.toArray.zip vs.toArray).toList=(CJ vs.length).map λi=>(vs.getD i Bk,vs.getD i Bk):=by
   apply Md
   .simp
   .intro i h1 h2
    have:i<vs.length:=by simpa using h2
    simp[this]
  refine Ag (k1 _ _ ?_);refine Ag (Dp (fN (E:=E) (Q:=λ_ st'=>∃ b pd g,st'=AW κ b pd g none/\b.toList.Perm (vs.toArray.zip vs.toArray).toList/\b.toList.Pairwise (Le λx=>jE lt' ks (kV is d x.1))) cm (arr:=vs.toArray.zip vs.toArray) (g:=7) ?_ ?_ λb pd g p q=>⟨b,pd,g,rfl,p,q⟩) ?_ λ_ _ e=>e)
  .intro x hx
   rw[pl] at hx;obtain⟨i,hi,rfl⟩:=Bs.mp hx;exact⟨i,Dm.mp hi,rfl⟩
  .simp;lia
  .rintro⟨⟨⟩,st'⟩ s' ⟨rfl,b,pd,g,rfl,pm,up⟩
   refine fin _ (b.toList.map λx=>(kV is d x.1,x.2)) ?_ rfl ?_ ?_
   .show b.map (·.2)=_
    apply Mc.mp;simp
   .refine(pm.map _).trans ?_
    rw[pl,Dl];have:ks.zip vs=(CJ vs.length).map λi=>(ks.getD i d,vs.getD i Bk):=by
     apply Md
     .simp[hlen]
     .intro i h1 h2
      have h3:i<vs.length:=by simpa using h2
      have h4:i<ks.length:=by lia
      simp[h3,h4]
    rw[this];refine List.Perm.of_eq (List.map_congr_left λi hi=>?_);show (kV is d (vs.getD i Bk),_)=_;rw[kv i (Dm.mp hi)]
   .unfold Nf
    rw[Dl,HP];refine up.imp_of_mem λ{x y} hx hy h=>?_;have hx:=pm.mem_iff.mp hx;have hy:=pm.mem_iff.mp hy;rw[pl] at hx hy;obtain⟨i,hi,rfl⟩:=Bs.mp hx;obtain⟨j,hj,rfl⟩:=Bs.mp hy;have h:jE lt' ks (kV is d (vs.getD i Bk))<=jE lt' ks (kV is d (vs.getD j Bk)):=h;show lt' (kV is d (vs.getD j Bk)) (kV is d (vs.getD i Bk))=false;have hj:=Dm.mp hj;rw[tL O (ks:=ks) (by rw[kv j hj];exact km j hj)]
    exact Bo (by lia)
end
section
variable {prog:A0}{w:AH}{h0:A8}
theorem XR {A:AF}{s:Af}{b:Ap}{Q:Ap->Af->Prop}:∀ {xs ys:Aa Am} {us vs:Aa Ac} {i:Aj} {N M:Aj},ItemsAre (Ej prog w) xs us->ItemsAre (Ej prog w) ys vs->N+ys.length=M+xs.length->Q (_H.lexLt xs ys) s->KatLex prog w A b (decide (N<M)) Q (us.zip vs) i s:=by
 intro xs ys us vs i N M hx
 induction hx generalizing ys vs i with
 |nil =>
  intro hy hl h;cases hy with
  |nil =>
   have:decide (N<M)=false:=Bo (by simp at hl;lia)
   rw[this];exact h
  |@cons k v ys vs q r =>
   have:decide (N<M)=true:=By (by simp at hl;lia)
   rw[this];exact h
 |@cons x u xs us qx rx ih =>
  intro hy hl h;cases hy with
  |nil =>
   have:decide (N<M)=false:=Bo (by simp at hl;lia)
   rw[this];exact h
  |@cons y v ys vs qy ry =>
   obtain⟨t,rfl⟩:=yN (prog:=prog) (w:=w) qx;obtain⟨t',rfl⟩:=yN (prog:=prog) (w:=w) qy;rw[List.zip_cons_cons];refine kat_cons (LC ?_);rw[_H.lexLt_cons] at h;refine kat_go (λe=>kat_yes ?_) λe=>kat_no ?_
   .rw[AA (by simpa using e)] at h
    exact ih ry (by simp at hl;lia) h
   .rw[AD (by simpa using e)] at h
    cases b&&i == 0 with
    |true=>exact oneLt_int h
    |false=>exact kat_one _ _ (Oa h)
theorem lV {h:A8}:∀ {vs:Aa Ac} {ks:Aa (Aa Am)},vs.length=ks.length->(∀ i v,vs[i]? = Ab v->isT prog w h (ks.getD i []) v)->(∀ k∈ks,k≠[])->∃ fs,KatTups h vs fs/\fs.length=vs.length/\∀ f∈fs,∃ n t,f=DZ n t
 |[],[],_,_,_=>⟨[],trivial,rfl,λf hf=>by simp at hf⟩
 |v::vs,k::ks,hl,hv,hne=>by
  obtain⟨fs,a1,a2,a3⟩:=lV (vs:=vs) (ks:=ks) (by simpa using hl) (λi u hu=>by simpa using hv (i+1) u (by simpa using hu)) λk hk=>hne k (by simp[hk])
  obtain⟨a,rfl,o,items,n,ho,hc,hd,hi⟩:=hv 0 v rfl;have hk:k≠[]:=hne k (by simp)
  have hi':ItemsAre (Ej prog w) k items.toList:=hi;cases hz:items.toList with
  |nil=>rw[hz] at hi';cases hi';exact absurd rfl hk
  |cons f rest =>
   rw[hz] at hi';cases hi' with
   |cons q _ =>
    obtain⟨t,rfl⟩:=yN (prog:=prog) (w:=w) q;refine⟨_::fs,KatTups.cons ho hc hd (by rw[<- Bx,hz];rfl) a1,by simp[a2],λf hf=>?_⟩
    rcases AR.mp hf with rfl|hf
    .exact⟨_,_,rfl⟩
    .exact a3 f hf
theorem YU {ks:Aa (Aa Am)}(hl:vs.length=ks.length)(hv:∀ i v,vs[i]? = Ab v->isT prog w h0 (ks.getD i []) v)(hne:∀ k∈ks,k≠[])(h2:2<=vs.length):Cmps prog w h0 vs (pO _H.lexLt ks []):=by
 refine⟨tuples' (DR "int" != DR "tuple"),λA hu s hS=>⟨λQ E h=>?_,λi j C hi hj h=>?_⟩⟩
 .obtain⟨fs,a1,a2,a3⟩:=lV (h:=s.heap) hl (λi v hv'=>by obtain⟨a,e,q⟩:=hv i v hv';exact⟨a,e,cE hS q⟩) hne
  refine kat_kind a1 (by lia) (λv hv'=>?_) (by decide) h
  obtain⟨n,t,rfl⟩:=a3 v hv';exact Looks.of_pure rfl
 .have g:∀ k (hk:k<vs.length),∃ a,vs.getD k Bk=.ref a/\Ik (Ej prog w) s.heap (ks.getD k []) a:=λk hk=>by
   obtain⟨a,e,q⟩:=hv k vs[k] (Ax hk);exact⟨a,by rw[<- e];simp[HK,hk],cE hS q⟩
  obtain⟨a,ea,oa,ia,na,ha,_,da,qa⟩:=g i hi;obtain⟨b,eb,ob,ib,nb,hb,_,db,qb⟩:=g j hj;unfold kas_ask;rw[ea,eb];refine kat_lt ha da hb db (XR qa qb ?_ h);have la:=qa.length;have lb:=qb.length;simp only[AJ] at la lb
  lia
theorem YT {ks:Aa Am}(hl:vs.length=ks.length)(hv:∀ i v,vs[i]? = Ab v->isI prog w (ks.getD i 0) v)(h2:2<=vs.length):Cmps prog w h0 vs (pO ltI ks 0):=by
 have hi:∀ v∈vs,∃ n t,v=DZ n t:=λv hm=>by
  obtain⟨i,hi,e⟩:=CT.mp hm;obtain⟨t,q⟩:=yN (hv i v (by rw[Ax hi,e]))
  exact⟨_,t,q⟩
 refine⟨oneType',λA hu s hS=>⟨λQ E h=>?_,λi j C hi hj h=>?_⟩⟩
 .obtain⟨v₁,v₂,rest,rfl⟩:∃ v₁ v₂ rest,vs=v₁::v₂::rest:=by
   match vs,h2 with
   |v₁::v₂::rest,_=>exact⟨v₁,v₂,rest,rfl⟩
  rw[keyKind_ints (intsAre_map _ hi)];exact As h
 .have g:∀ k (hk:k<vs.length),∃ t,vs.getD k Bk=.int (ks.getD k 0) t:=λk hk=>by
   obtain⟨t,q⟩:=yN (hv k vs[k] (Ax hk));exact⟨t,by rw[<- q];simp[HK,hk]⟩
  obtain⟨t,et⟩:=g i hi;obtain⟨u,eu⟩:=g j hj;unfold kas_ask;rw[et,eu];exact kat_lt_int h
end
section
variable {K:Type}{lt':K->K->Ap}
theorem cN {α:Type}{ks:Aa K}{vs:Aa α}{d:K}(hl:vs.length=ks.length){p:K × α}(h:p∈ks.zip vs):∃ i,vs[i]? = Ab p.2/\ks.getD i d=p.1:=by
 obtain⟨i,hi,e⟩:=CT.mp h;have h1:i<ks.length:=by rw[Mq] at hi;lia
 have h2:i<vs.length:=by lia
 rw[List.getElem_zip] at e;subst e;exact⟨i,Ax h2,by simp[h1]⟩
end
structure Kind (prog:A0)(w:AH){K:Type}(is:K->Ac->Prop)(hash:K->Am)(lt':K->K->Ap)(d:K)(Fit:K->Prop)(h0:A8):Prop where
 ord:Ord lt'
 inj:∀ {k k':K} {v:Ac},is k v->is k' v->k=k'
 cmps:∀ {vs:Aa Ac} {ks:Aa K},vs.length=ks.length->(∀ i v,vs[i]? = Ab v->is (ks.getD i d) v)->(∀ k∈ks,Fit k)->2<=vs.length->Cmps prog w h0 vs (pO lt' ks d)
theorem P8 (prog:A0)(w:AH)(h0:A8):Kind prog w (isT prog w h0) (tupleKeyHash (Ej prog w)) _H.lexLt [] (·≠[]) h0:=⟨tH,isT.inj,λh1 h2 h3 h4=>YU h1 h2 h3 h4⟩
theorem P7 (prog:A0)(w:AH)(h0:A8):Kind prog w (isI prog w) (Ej prog w).hash ltI 0 (λ_=>Fy) h0:=⟨M4,λa b=>(Ej prog w).inj _ _ _ a b,λh1 h2 _ h4=>YT h1 h2 h4⟩
end _S
namespace _D
open PySem PySem.Spec PyProof.Rows _L
noncomputable def jJ:Aa D->Ak (Aa (Aa Am))
 |[]=>Ab []
 |.tup ys::r=>(xZ ys).bind λk=>(jJ r).map (k::·)
 |_::_=>none
noncomputable def tpD (k:Aa Am):D:=.tup (k.map D.int)
theorem tV:∀ {ds:Aa D} {ks:Aa (Aa Am)},jJ ds=Ab ks->ds=ks.map tpD
 |[],ks,h=>by cases h;rfl
 |d::r,ks,h=>by
  cases d with
  |tup ys =>
   obtain⟨k,h1,h2⟩:=Cz.mp (show (xZ ys).bind (λk=>(jJ r).map (k::·))=Ab ks from h)
   obtain⟨m,h3,rfl⟩:=Br.mp h2;rw[tV h3,uY h1];rfl
  |_=>cases h
theorem cF (ks:Aa (Aa Am)):jJ (ks.map tpD)=Ab ks:=by
 induction ks with
 |nil=>rfl
 |cons k ks ih =>
  show (xZ (k.map D.int)).bind (λk=>(jJ (ks.map tpD)).map (k::·))=_
  rw[bZ,ih];rfl
noncomputable def sI:D->Ak (Aa D)
 |.lst xs=>Ab xs
 |.tup xs=>Ab xs
 |_=>none
section
variable {X:Cx}{e:AE}{fa:DE}{p1 p2 pos1 pos2:CD}
theorem l8 {prog:A0}{w:AH}:∀ {k:Aa Am} {us:Aa Ac},qK (k.map V.int) us->ItemsAre (Ej prog w) k us
 |[],us,h=>by cases h;exact .nil
 |i::k,us,h=>by
  cases h with
  |cons q t =>
   obtain⟨tk,rfl⟩:=q;exact .cons (Mx _ _ _ _) (l8 t)
theorem cC {pins:Aa (Ad × AL)}{σ : _L.St}{H P:Hp}{α : Aa Ad}{S:Sto}{s:Af}{d:D}{xs:Aa D}{v:V}{vv:Ac}(I:Inv X pins σ H s)(r:Rel X.K H P α S)(p:Rep X.K P α d v)(q:qJ v vv)(h:sI d=Ab xs) :
  ∃ a vs its,vv=.ref a/\qD X.K P α xs vs/\qK vs its/\(s.heap.IsList a its.toArray\/s.heap.IsTuple a its.toArray)/\xs.length=its.length:=by
 cases d with
 |lst ys =>
  cases h;obtain⟨a,vs,its,n,rfl,_,t,rv,e,l,_⟩:=v3 I r p;exact⟨a,vs,its,q,t,rv,.inl ⟨_,e,rfl,n,rfl⟩,l⟩
 |tup ys =>
  cases h;obtain⟨a,vs,its,rfl,_,t,rv,⟨o,e,hc,n,hd⟩,l,_⟩:=kE I r p;exact⟨a,vs,its,q,t,rv,.inr ⟨o,e,hc,n,hd⟩,l⟩
 |_=>cases h
end
end _D
section
namespace _D
open PySem PySem.Spec PyProof.Rows _L
mutual
noncomputable def pyD:D->Ak PyData
 |.non=>Ab .none
 |.bl b=>Ab (.bool b)
 |.int i=>Ab (.int i)
 |.str x=>Ab (.str x)
 |.tup xs=>(o8 xs).map .tuple
 |.lst xs=>(o8 xs).map .list
 |.dct0=>Ab (.dict [])
 |_=>none
noncomputable def o8:Aa D->Ak (Aa PyData)
 |[]=>Ab []
 |d::ds=>(pyD d).bind λx=>(o8 ds).map (x::·)
end
end _D
end
namespace _S
open PySem PySem.W PyProof.Rows
section
variable {prog:A0}{w:AH}{A:AF}{E:Ac->Af->Prop}{s:Af}{K:Type}{is:K->Ac->Prop}{hash:K->Am}{lt':K->K->Ap}{d:K}{Fit:K->Prop}{h0:A8}
theorem sM {Q:Ac->Af->Prop}(kd:Kind prog w is hash lt' d Fit h0)(hu:A.units+16<D3)(hS:Sup h0 s.heap){l:Ad}{vs:Aa Ac}(hl:s.heap.IsList l vs.toArray\/s.heap.IsTuple l vs.toArray)(ks:Aa K)(hlen:vs.length=ks.length)(hks:∀ i v,vs[i]? = Ab v->is (ks.getD i d) v)(hf:∀ k∈ks,Fit k)(hoel:vs.length<=100000)
  (h:∀ (h1 h':A8) (tk:Aj) (D:Ad) (c:Aj) (ps:Aa (K × Ac)),(∀ b o,s.heap.get? b=Ab o->h1.get? b=Ab o)->(∀ b o,h1.get? b=Ab o->h'.get? b=Ab o)->h1.objs.size<=D->h'.get? D=Ab (Bt "list" (ps.map (·.2)).toArray c)->ps.map (·.1)=wA lt' ks->(∀ p∈ps,is p.1 p.2/\p.2∈vs)->ps.length=ks.length->Q (.ref D) { s with heap:=h',toks:=tk }) :
  Ao (Aq prog w) A (call (.builtin "sorted") [.ref l]) Q E s:=by
 refine HQ kind_sorted plain_sorted entry_sorted (args_sorted1 _) ?_;unfold EH.«sorted»;refine Ag (m:=checkCount "sorted" 1 1 _) (As ?_);have hcol:∀ {R:Aa Ac->Af->Prop},(∀ h1:A8,(∀ b o,s.heap.get? b=Ab o->h1.get? b=Ab o)->R vs { s with heap:=h1 }) -> Ao (Aq prog w) A.in1 (collect (.ref l)) R E s:=λ{R} hR=>by
  have e:vs.toArray.toList=vs:=by simp
  rcases hl with⟨o,ho,hc,n,hd⟩|⟨o,ho,hc,n,hd⟩
  .exact Fx l (.inl rfl) ho hc hd (λh' hk=>by rw[e];exact hR h' hk) (by rw[A9,Ch];lia)
  .exact Fx l (.inr rfl) ho hc hd (λh' hk=>by rw[e];exact hR h' hk) (by rw[A9,Ch];lia)
 refine Ag (hcol λh1 kp1=>?_);refine Ag (Kk ?_ (by rw[Ch];lia))
 have hD:(h1.push (Bt "list" vs.toArray 0)).get? h1.objs.size=Ab (Bt "list" vs.toArray 0):=AB _ rfl;have n0:h0.get? h1.objs.size=none:=by
  cases q:h0.get? h1.objs.size with
  |none=>rfl
  |some o=>exact absurd (Ay (kp1 _ _ (hS _ _ q))) (Bn _)
 show Ao _ _ _ _ _ { s with heap:=h1.push (Bt "list" vs.toArray 0),toks:=s.toks }
 refine Ag (CZ (CV slot_list_sort ⟨_,hD,rfl⟩ Mr (Q8 (h0:=h0) (is:=is) kd.ord kd.inj (d:=d) (vs:=vs) hlen hks hD (by show A.units+2+8<D3;lia) hoel (λh2=>kd.cmps hlen hks hf h2) (λb o e=>Ai _ (kp1 b o (hS b o e))) n0 λps pm nf=>⟨_,rfl,?_⟩) (args_list_sort _)))
 refine As ⟨_,rfl,?_⟩;have hz:(h1.push (Bt "list" vs.toArray 0)).objs.size=h1.objs.size+1:=size_push' ..;have old:∀ b o,b≠h1.objs.size->(h1.push (Bt "list" vs.toArray 0)).get? b=Ab o->((((h1.push (Bt "list" vs.toArray 0)).update h1.objs.size (CS λ_=>#[])).push (Bt "tuple" vs.toArray 0)).push (Bt "list" #[] 0)).get? b=Ab o:=λb o hb e =>
  Ai _ (Ai _ ((CH _ _ (Df hb)).trans e))
 obtain⟨e1,he1⟩:∃ e1,((h1.push (Bt "list" vs.toArray 0)).update h1.objs.size (CS λ_=>#[])).get? h1.objs.size=Ab (Bt "list" #[] e1):=⟨_,Fe hD (λ_=>#[])⟩;have he6:=Fe (Ai (Bt "list" #[] 0) (Ai (Bt "tuple" vs.toArray 0) he1)) (λ_=>(ps.map (·.2)).toArray)
 have pk:(ps.map (·.1)).Perm ks:=by
  have:=pm.map (·.1)
  rwa [Il (by lia)] at this
 refine h h1 _ s.toks h1.objs.size _ ps kp1 (λb o e=>?_) (Ar _) he6 (kO kd.ord nf (bO kd.ord ks) (pk.trans (vS ks).symm)) (λp hp=>?_) (by have:=pk.length_eq;rwa [Az] at this)
 .have hb:b≠h1.objs.size:=λz=>by
   subst z;exact absurd (Ay e) (Bn _)
  exact(CH _ _ (Df hb)).trans (old b o hb (Ai _ e))
 .obtain⟨i,e1,e2⟩:=cN (d:=d) hlen (pm.mem_iff.mp hp)
  exact⟨e2▸hks i _ e1,Be e1⟩
end
end _S
namespace _D
open PySem PySem.Spec PyProof.Rows _L
noncomputable def jG (xs:Aa D):Ak (Aa D):=match xZ xs with
 |some ns=>if ns.length<=100000 then Ab ((_S.wA _S.ltI ns).map D.int) else none
 |none=>match jJ xs with
  |some ks=>if (decide (ks.length<=100000)&&ks.all λk=>!k.isEmpty) then Ab ((_S.wA _H.lexLt ks).map tpD) else none
  |none=>none
noncomputable def oQ (R:Aa D->Sto->Res D):DF:=λds S=>match ds with
 |[d]=>match (sI d).bind jG with
  |some ys=>R ys S
  |none=>.bad
 |_=>.bad
noncomputable def b8:DF:=oQ λys S=>.ok (.lst ys) S
section
variable {X:Cx}{pins:Aa (Ad × AL)}{σ : _L.St}{H P:Hp}{α : Aa Ad}{S:Sto}{s:Af}
inductive NewR (X:Cx)(pins:Aa (Ad × AL))(σ : _L.St)(H P:Hp)(α : Aa Ad)(ys:Aa D)(u:Ac)(s':Af):Prop
 |mk (D:Ad) (vs:Aa V) (e:u=.ref D) (hn:H D=none) (I:Inv X pins σ (upd H D (.lst vs)) s') (rp:qD X.K P α ys vs):NewR X pins σ H P α ys u s'
theorem fH {K:Type}{is:K->Ac->Prop}{hash:K->Am}{lt':K->K->Ap}{d:K}{Fit:K->Prop}(kd:_S.Kind X.prog X.w is hash lt' d Fit s.heap)(hu:X.A.units+64<D3)(I:Inv X pins σ H s)(r:Rel X.K H P α S){a:Ad}{its:Aa Ac}
  (ha:s.heap.IsList a its.toArray\/s.heap.IsTuple a its.toArray) (ks:Aa K) (hl:ks.length=its.length) (hk:∀ i v,its[i]? = Ab v->is (ks.getD i d) v) (hn:ks.length<=100000) (hf:∀ k∈ks,Fit k) (enc:K->D)
  (back:∀ k v,is k v->v∈its->∃ vv,qJ vv v/\Rep X.K P α (enc k) vv) {E:Ac->Af->Prop} :
  Ao (Aq X.prog X.w) X.A (call (.builtin "sorted") [.ref a]) (NewR X pins σ H P α ((_S.wA lt' ks).map enc)) E s:=by
 refine _S.sM kd li (λ_ _ e=>e) ha ks hl.symm hk hf li λh1 h2 tk2 D c ps kp1 kp2 hD hob hps hp hpl=>?_;have I1:Inv X pins σ H { s with heap:=h1,toks:=s.toks }:=I.kept kp1
 have vv:∀ (ps:Aa (K × Ac)),(∀ p∈ps,is p.1 p.2/\p.2∈its)->∃ vs,qK vs (ps.map (·.2))/\qD X.K P α ((ps.map (·.1)).map enc) vs:=by
  intro ps
  induction ps with
  |nil=>exact λ_=>⟨[],.nil,.nil⟩
  |cons p ps ih =>
   intro h;obtain⟨vs,a1,a2⟩:=ih λq hq=>h q (by simp[hq])
   obtain⟨v,b1,b2⟩:=back p.1 p.2 (h p (by simp)).1 (h p (by simp)).2
   exact⟨v::vs,.cons b1 a1,.cons b2 a2⟩
 obtain⟨vs,a1,a2⟩:=vv ps hp;rw[hps] at a2;have nd:([(D,HO.lst vs)].map (·.1)).Nodup:=by simp
 have I2:Inv X pins σ (jK H [(D,HO.lst vs)]) { s with heap:=h2,toks:=tk2 }:=Inv.laidL (s:={ s with heap:=h1,toks:=s.toks }) (L:=[(D,HO.lst vs)]) (t':=tk2) I1 kp2 (λp hpm=>by
  have:p=(D,HO.lst vs):=by simpa using hpm
  subst this;exact hD) λp hpm=>by
  have:p=(D,HO.lst vs):=by simpa using hpm
  subst this;refine⟨?_,ps.map (·.2),c,a1,hob⟩
  have:=a1.length;rw[Az] at this;rw[this,Ch]
  lia
 exact⟨D,vs,rfl,I1.hok.fresh hD,I2,a2⟩
set_option tactic.hygienic true in
theorem sJ {E:Ac->Af->Prop}(hu:X.A.units+64<D3)(I:Inv X pins σ H s)(r:Rel X.K H P α S){a:Ad}{xs ys:Aa D}{vs:Aa V}{its:Aa Ac}(t1:qD X.K P α xs vs)(rv1:qK vs its)(e1:s.heap.IsList a its.toArray\/s.heap.IsTuple a its.toArray)(l1:xs.length=its.length)(hs:jG xs=Ab ys) :
  Ao (Aq X.prog X.w) X.A (call (.builtin "sorted") [.ref a]) (NewR X pins σ H P α ys) E s:=by
 unfold jG at hs;cases hi:xZ xs with
 |some ns =>
  rw[hi] at hs;dsimp only at hs
  split at hs
  .rename_i hlt
   cases hs;have:=uY hi;subst this;have:=vM t1;subst this;refine fH (d:=0) (_S.P7 X.prog X.w s.heap) hu I r e1 ns (by simpa using l1) (λi u hu'=>?_) hlt (λ_ _=>trivial) D.int λk u hk _=>?_
   .have hi:HD its ns:=by simpa using gX rv1
    obtain⟨t,rfl⟩:=Nd hi i u hu';exact Mx _ _ _ _
   .obtain⟨t,rfl⟩:=_S.yN hk
    exact⟨.int k,⟨t,rfl⟩,by simp only[Rep]⟩
  .cases hs
 |none =>
  rw[hi] at hs;dsimp only at hs;cases ht:jJ xs with
  |none=>rw[ht] at hs;cases hs
  |some ks =>
   rw[ht] at hs;dsimp only at hs
   split at hs
   .rename_i hlt
    cases hs;rw[A5,AI] at hlt;have:=tV ht;subst this;have at':∀ (i:Aj) (u:Ac),its[i]? = Ab u->∃ b,u=.ref b/\Ik (Ej X.prog X.w) s.heap (ks.getD i []) b/\∃ vv,qJ vv u/\Rep X.K P α (tpD (ks.getD i [])) vv:=λi u hu'=>by
     have hii:i<its.length:=(AO.mp hu').1;have hik:i<ks.length:=by rw[Az] at l1;lia
     obtain⟨v,p,q,_⟩:=yX t1 rv1 (j:=i) (by rw[A9];exact hii)
     have hd:(ks.map tpD).getD i D.non=tpD (ks.getD i []):=by simp[HK,hik]
     rw[hd] at p;have hu2:its.toArray[i]'(by rw[A9];exact hii)=u:=by
      rw[Ax hii] at hu';simpa using hu'
     rw[hu2] at q;obtain⟨b,ws,us,rfl,sq,t,rv,⟨o,ho,hcl,m,hd⟩,_,_⟩:=kE I r (show Rep X.K P α (.tup ((ks.getD i []).map D.int)) v from p)
     cases (show u=AN b from q)
     have:=vM t;subst this;exact⟨b,rfl,⟨o,us.toArray,m,ho,hcl,hd,by simpa using l8 rv⟩,.ref b,rfl,p⟩
    refine fH (d:=[]) (_S.P8 X.prog X.w s.heap) hu I r e1 ks (by simpa using l1) (λi u hu'=>?_) hlt.1 (λk hk=>?_) tpD λk u hk hm'=>?_
    .obtain⟨b,rfl,q,_⟩:=at' i u hu'
     exact⟨b,rfl,q⟩
    .have:=AS.mp hlt.2 k hk
     intro z;subst z;cases this
    .obtain⟨i,hi',rfl⟩:=CT.mp hm'
     obtain⟨b,eb,q,w,rw',pw⟩:=at' i _ (Ax hi');have:k=ks.getD i []:=_S.isT.inj hk ⟨b,eb,q⟩;rw[this];exact⟨w,rw',pw⟩
   .cases hs
theorem BK (hu:X.A.units+64<D3){vs:Aa V}{us:Aa Ac}{ds:Aa D}{Q:VK}{R:Aa D->Sto->Res D}(I:Inv X pins σ H s)(r:Rel X.K H P α S)(rv:qK vs us)(rp:qD X.K P α ds vs)(af:qP X P α (oQ R ds S) Q)
  (k:∀ ys D vs',H D=none->qD X.K P α ys vs'->qP X P α (R ys S) Q->Q (.ref D) (upd H D (.lst vs'))):Ao (Aq X.prog X.w) X.A (call (.builtin "sorted") us) (EP X pins σ Q) X.xe s:=by
 match ds,af,rp with
 |[],af,_=>exact Al af
 |_::_::_,af,_=>exact Al af
 |[d],af,rp =>
  simp only[oQ] at af;cases hq:(sI d).bind jG with
  |none=>rw[hq] at af;exact Al af
  |some ys =>
   rw[hq] at af;obtain⟨xs,hd,hs⟩:=Cz.mp hq;obtain⟨v,u,rfl,rfl,p,q⟩:=y9 rp rv;obtain⟨a,vs,its,rfl,t1,rv1,e1,l1⟩:=cC I r p q hd;refine thn (sJ hu I r t1 rv1 e1 l1 hs) λu' s3 ⟨D,vs',e,hn,I',rp'⟩=>?_;subst e;exact⟨.ref D,_,I',rfl,k ys D vs' hn rp' af⟩
theorem rB (hu:X.A.units+64<D3):xS X (.builtin "sorted") b8:=by
 intro pins σ H s P α S vs us ds Q I r rv rp af;exact BK hu I r rv rp af λys D vs' hn rp' af'=>xR r hn rp' af'
end
end _D
namespace _L
open PySem PySem.Spec PyProof.Rows
variable {loose:Aa An}{mg mb:An->Ak Ac}
def F8 (H:Hp):Prop:=∀ b,H b=none\/(∃ o xs,H b=Ab (.frz o (.lst xs)))\/H b=Ab (.tbl #[])
def Tb0 (K:Ah)(H:Hp):Prop:=∀ x∈xH,∀ c T,Bb K x=Ab (c,T)->H T=Ab (.tbl #[])
structure Tabs (K:Ah)(h:A8):Prop where
 at':∀ x∈xH,∀ c T,Bb K x=Ab (c,T)->Je h c T/\h.get? T=Ab (EI #[]) /\ K.lookup T=none
 inj:∀ x∈xH,∀ y∈xH,∀ c d T,Bb K x=Ab (c,T)->Bb K y=Ab (d,T)->x=y
theorem iM {P:A0}{w:AH}{K:Ah}{CX:CXT}{k:Aj}{fa a:Ad}{fd:CF}{x:An}{sp:Sp}{s₁:Af}{vs:Aa Ac}{ns:Aa Am}
  (KX:K.In s₁.heap) (hns:s₁.heap.Ns AM mg) (hb:s₁.heap.Ns Hn mb) (hbb:∀ x:An,x ≠ "__name__" -> mb x=Cw x) (hlim:s₁.heap.NoLimit) (hg:s₁.gens=#[]) (hbm:YD mg s₁.heap) (tbs:Tabs K s₁.heap)
  (ha:s₁.heap.get? a=Ab { cls:=.type "list",data:=.seq vs.toArray }) (hi:HD vs ns) (hl:ns.length<=sizeLine) (hr:Room k HE)
  (F:∀ base:A8,K.In base->base.Ns AM mg->FnOk P w K mg base CX k fa fd [x] sp) (hbind:∀ (s:Af) (u:Ac),Gf s fd ⟨[u],[]⟩ [(x,u)])
  (hsp:∀ H:Hp,Tb0 K H->SqX K H a (ns.map V.int)->sp [.ref a] H (λv _=>v=.bl true) λ_ _ _=>Cp)
  (hCX:∀ H e s',CX [] H s₁ (λ_ _ _=>Cp) e s'->Cp) :
  D6 (Aq P w) HE (.call (.ref fa) ⟨[.ref a],[]⟩) (λr s'=>r=.ok (.ret (.bool true))/\OldK s₁.heap s'.heap/\s'.os=s₁.os/\Ge s'.gens) s₁:=by
 have rv:=cH hi;have lenV:=hi.length
 let isT:Ad->Prop:=λb=>∃ x∈xH,∃ c,Bb K x=Ab (c,b)
 have tab:∀ b,isT b->s₁.heap.get? b=Ab (EI #[]) /\ K.lookup b=none:=λb ⟨x,hx,c,h⟩=>(tbs.at' x hx c b h).2;have core:∀ H:Hp,F8 H->Tb0 K H->SqX K H a (ns.map V.int)->HOk P w H s₁.heap->(∀ b,H b≠none->b=a\/isT b)->(H a≠none->K.lookup a=none) ->
   D6 (Aq P w) HE (.call (.ref fa) ⟨[.ref a],[]⟩) (λr s'=>r=.ok (.ret (.bool true))/\OldK s₁.heap s'.heap/\s'.os=s₁.os/\Ge s'.gens) s₁:=by
  intro H hO hT hS hok hA hK;have base_of:∀ {b:Ad} {o:AL},s₁.heap.get? b=Ab o->H b=none->(uX s₁.heap H).get? b=Ab o:=λe n=>iC e n;have noA:∀ {b:Ad} {o:AL},s₁.heap.get? b=Ab o->o.cls≠.none->(o.cls≠.type "list" \/ ∃ es ep,o.data=.dict es ep)->H b=none:=λ{b o} e c1 c2=>by
   cases q:H b with
   |none=>rfl
   |some u =>
    rcases hA b (by rw[q];simp) with e'|e'
    .subst e'
     rw[ha] at e;cases e;rcases c2 with z|⟨es,ep,d⟩
     .exact absurd rfl z
     .cases d
    .rw[(tab b e').1] at e;cases e
     exact absurd rfl c1
  have noD:∀ {b:Ad} {o:AL} {es:A6 DictEntry} {ep:Aj},s₁.heap.get? b=Ab o->o.data=.dict es ep->H b=none:=λ{b o es ep} e d=>by
   cases q:H b with
   |none=>rfl
   |some u =>
    rcases hA b (by rw[q];simp) with e'|e'
    .subst e'
     rw[ha] at e;cases e;cases d
    .rw[(tab b e').1] at e;cases e;cases d
  have nsK:∀ {b:Ad} {m:An->Ak Ac},s₁.heap.Ns b m->(uX s₁.heap H).Ns b m:=λ{b m} ⟨o,es,ep,e,d,r⟩=>⟨o,es,ep,base_of e (noD e d),d,r⟩;have hKb:K.In (uX s₁.heap H):=λb o e=>base_of (KX b o e) (by
   cases q:H b with
   |none=>rfl
   |some u =>
    rcases hA b (by rw[q];simp) with e'|e'
    .subst e'
     rw[hK (by rw[q];simp)] at e;cases e
    .rw[(tab b e').2] at e;cases e)
  have hM:Mod K mg (uX s₁.heap H):=by
   refine⟨hKb,nsK hns,⟨mb,nsK hb,hbb⟩,let ⟨mc,h1,h2⟩:=hlim;⟨mc,nsK h1,h2⟩,?_,λx hx c T h=>?_,tbs.inj⟩
   .obtain⟨bm,o,b1,b2,b3,b4,b5⟩:=hbm
    exact⟨bm,o,b1,b2,base_of b3 (noA b3 (by rw[b4];nofun) (.inl (by rw[b4];decide))),b4,b5⟩
   .obtain⟨o,vs,file,tf,flags,tg,inF,text,tt,e1,e2,r⟩:=(tbs.at' x hx c T h).1
    exact⟨o,vs,file,tf,flags,tg,inF,text,tt,base_of e1 (noA e1 (by rw[e2];nofun) (.inl (by rw[e2];decide))),e2,r⟩
  have e0:Env0 P w K mg (uX s₁.heap H) HE [] s₁ H:=⟨rfl,hM,λb o e=>W2 e,Lm (rS _ _),trivial,λb hb=>absurd (show b∈([]:Aa Ad) from hb) (by simp),hok,.of_eq hg⟩
  refine Hk ((F _ hKb (nsK hns)).run HE [] s₁ H ⟨[.ref a],[]⟩ [.ref a] [.ref a] _ _ hr e0 (hbind s₁ (.ref a)) (.cons rfl .nil) (hsp H hT hS)) λr s' h=>?_;cases r with
  |error e=>exact(hCX H e s' h).elim
  |ok fl =>
   cases fl with
   |next=>exact Al h
   |brk=>exact Al h
   |cont=>exact Al h
   |ret u =>
    obtain⟨v,H',os,bare,un,hok',r',q⟩:=h;have q':v=.bl true:=q;subst q';obtain rfl:u=CP true:=r';refine⟨rfl,⟨λb o e=>?_,λb o e=>un.there b o e (by simp)⟩,os,bare⟩
    cases q:H b with
    |none=>exact .inl (un.keep b o e q (by intro z;exact absurd (show b∈([]:Aa Ad) from z) (by simp)) (by simp))
    |some u =>
     rcases hO b with z|⟨ob,xs,z⟩|z
     .rw[q] at z;cases z
     .have z2:=un.frzs b ob _ z
      obtain⟨e1,_⟩:=hok b _ z;obtain⟨e2,_⟩:=hok' b _ z2;rw[e] at e1;cases e1;exact .inl e2
     .obtain⟨more,z2⟩:=un.tbls b _ z
      have e1:s₁.heap.get? b=Ab (EI #[]):=hok b _ z;have e2:s'.heap.get? b=Ab (EI (#[] ++ more)):=hok' b _ z2;rw[e] at e1;cases e1;rcases hA b (by rw[q];simp) with e'|⟨x,hx,c,h⟩
      .subst e';rw[ha] at e;cases e
      .exact .inr (.inl ⟨((tbs.at' x hx c b h).1.tab e).isCodeTable,rfl,#[],more,rfl,e2⟩)
 have nT:¬ isT a:=λh=>by
  have z:=(tab a h).1;rw[ha] at z;cases z
 have tT:∀ x∈xH,∀ c T,Bb K x=Ab (c,T)->isT T:=λx hx c T h=>⟨x,hx,c,h⟩;have dec:∀ b,Em (isT b):=λb=>Classical.propDecidable _;cases hk:K.lookup a with
 |some o =>
  have e:=KX a o hk;rw[ha] at e;cases e;refine core (λb=>if isT b then Ab (.tbl #[]) else none) (λb=>?_) (λx hx c T h=>AA (tT x hx c T h)) (.inr ⟨vs,_,hk,by rw[Az];exact hl,rv⟩) (λb u z=>?_) (λb z=>?_) λz=>absurd (AD nT) z
  .by_cases h:isT b
   .exact .inr (.inr (AA h))
   .exact .inl (AD h)
  .by_cases h:isT b
   .have z':=(AA h).symm.trans z
    cases z';exact(tab b h).1
   .have z':=(AD h).symm.trans z
    cases z'
  .by_cases h:isT b
   .exact .inr h
   .exact absurd (AD h) z
 |none =>
  refine core (λb=>if b=a then Ab (.frz { cls:=.type "list",data:=.seq vs.toArray } (.lst (ns.map V.int))) else if isT b then Ab (.tbl #[]) else none) (λb=>?_) (λx hx c T h=>?_) (.inl (.inr ⟨{ cls:=.type "list",data:=.seq vs.toArray },AA rfl⟩)) (λb u z=>?_) (λb z=>?_) λ_=>hk
  .by_cases hb:b=a
   .exact .inr (.inl ⟨_,_,AA hb⟩)
   .by_cases h:isT b
    .exact .inr (.inr ((AD hb).trans (AA h)))
    .exact .inl ((AD hb).trans (AD h))
  .have h':=tT x hx c T h
   exact(AD (λ(z:T=a)=>nT (z▸h'))).trans (AA h')
  .by_cases hb:b=a
   .have z':=(AA hb).symm.trans z
    cases z';subst hb;exact⟨ha,by rw[Az];exact hl,vs,_,rv,ha⟩
   .by_cases h:isT b
    .have z':=((AD hb).trans (AA h)).symm.trans z
     cases z';exact(tab b h).1
    .have z':=((AD hb).trans (AD h)).symm.trans z
     cases z'
  .by_cases hb:b=a
   .exact .inl hb
   .by_cases h:isT b
    .exact .inr h
    .exact absurd ((AD hb).trans (AD h)) z
noncomputable def dF (q:A0)(K:Ah):Ap:=xH.all λx=>match Bb K x with
 |none=>true
 |some (_,T)=>((recsOf q).find? λe=>e.name == x).isSome&&((K.lookup T).isNone&&xH.all λy=>match Bb K y with
  |none=>true
  |some (_,U)=>x == y||!decide (T=U))
theorem Y2 {q:A0}{mean:ExcName->Ak Ac}{h:A8}{K:Ah}(T:Top q loose mean mg mb h)(X:K.In h)(c:dF q K=true):Tabs K h:=by
 unfold dF at c;have g:∀ x∈xH,∀ d U,Bb K x=Ab (d,U)->((recsOf q).find? λe=>e.name == x).isSome=true/\(K.lookup U).isNone=true/\(xH.all λy=>match Bb K y with
  |none=>true
  |some (_,V)=>x == y||!decide (U=V))=true:=λx hx d U e=>by
  have z:=AS.mp c x hx;rw[e] at z;simpa only [A5] using z
 refine⟨λx hx d U e=>?_,λx hx y hy d d' U e1 e2=>?_⟩
 .obtain⟨z1,z2,_⟩:=g x hx d U e
  obtain⟨r,hr⟩:=Ef.mp z1;obtain⟨k1,k2⟩:=PySem.W.tab_of T X hr e;exact⟨k1,k2,by simpa using z2⟩
 .have z:=AS.mp (g x hx d U e1).2.2 y hy
  rw[e2] at z;simpa using z
theorem Y4 {l:Ms}{n k:Aj}{q:A0}{loose:Aa An}{XP:(An->Ak Ac)->A8->Prop}{YP:AH->A8->Prop}{d:DefRec}{K:Params->Ah}{CX:AH->CXT}{sp:AH->Sp}{x:An}
  (hn:l.most=Ab n) (hn2:n<=sizeLine) (hdf:d.params.defaults=[]) (hr:Room k HE) (ht:∀ p,dF q (K p)=true)
  (hY:∀ (w:AH) (h:A8),YP w h->(K w.params).In h)
  (F:∀ (w:AH) (mg:An->Ak Ac) (fa:Ad) (h:A8),(K w.params).In h->h.Ns AM mg->mg d.name=Ab (.ref fa) ->
   ∃ fd:CF,(∀ (s:Af) (u:Ac),Gf s fd ⟨[u],[]⟩ [(x,u)]) /\
    ∀ base:A8,(K w.params).In base->base.Ns AM mg->FnOk l.prog w (K w.params) mg base (CX w) k fa fd [x] (sp w))
  (hsp:∀ (w:AH) (H:Hp) (a:Ad) (ns:Aa Am),ns.length<=n->Tb0 (K w.params) H->SqX (K w.params) H a (ns.map V.int)->sp w [.ref a] H (λv _=>v=.bl true) λ_ _ _=>Cp)
  (hCX:∀ (w:AH) (H:Hp) (s:Af) (e:Ac) (s':Af),CX w [] H s (λ_ _ _=>Cp) e s'->Cp) :
  Nz q loose XP YP l.row.toRowW d [] (λf vs=>Mv f vs):=by
 refine _A.attach_call hn hdf λw s₀ s₁ mg mb fa o pm cd doc a vs ns G Y ho hd hcd hmg hobj hints hlen hg=>?_;have KX:=hY w _ Y;obtain⟨fd,hb,hF⟩:=F w mg fa _ KX G.T.g hmg;exact iM KX G.T.g G.T.b G.T.builtins G.T.nolimit hg (let ⟨bm,ob,b1,b2,b3,b4,b5,b6⟩:=G.T.bmain;⟨bm,ob,b1,b2,b3,b4,b5,b6⟩) (Y2 G.T KX (ht _)) hobj hints (Bh hlen hn2) hr hF hb (λH hT hS=>hsp w H a ns hlen hT hS) λH e s'=>hCX w H s₁ e s'
end _L
namespace _D
open PySem PySem.Spec PyProof.Rows _L
variable {K:Ah}{mg:An->Ak Ac}
theorem KD {h:A8}(X:K.In h)(G:h.Ns AM mg){x:An}{st:Ca}{ps:Aa An}{f:Ad}{oc:Ac}{od an:Ak Ad}{osl:A6 (Ak Ac)}{kV doc pm cdv ct:Ac}
  (a:Bl K AM x=Ab (Ab (.ref f)))
  (l:K.lookup f=Ab ⟨oc,od,.func (Dd x x (xU st) (zB st) (qG st) .none kV doc pm an cdv ct),osl⟩) (c:EG K cdv x=true) (k:Bz K (.ref f)=true)
  (hb:∀ (kV doc pm:Ac) (an:Ak Ad) (cdv ct:Ac) (us:Aa Ac),us.length=ps.length->IG (Dd x x (xU st) (zB st) (qG st) .none kV doc pm an cdv ct) ⟨us,[]⟩=pure (ps.zip us)):Src K mg x st ps:=
 have F:=VZ (st:=st) l c k
 ⟨f,_,Kl X G a,F,F.binds hb⟩
noncomputable def mG (K:Ah)(C:Ad):Ap:=
 decide (Fq K (.ref C) "__getattribute__" = Ab (Ab (.builtin "BaseException.__getattribute__")))&&decide (Fq K (.ref C) "__getattr__" = Ab none)
 && decide (Fq K (.ref C) "__class__" = Ab (Ab (.builtin "object.__class__")))&&decide (Jv K C (.type "object")=Ab true)&&decide (Jv K C (.type "BaseException")=Ab true)
 && (PySem.W.clsIn K C).isSome&&decide (EF K (.ref C) (.type "ValueError")=Ab true)
noncomputable def cX (K:Ah):Ap:=
 decide (Lu K (.builtin "object.__class__") "__get__" = Ab (Ab (.builtin "getset_descriptor.__get__")))&&decide (Mk K (.builtin "object.__class__")=Ab true)
noncomputable def YQ (K:Ah)(cl:Aa Ad):Ap:=cl.all λC=>cl.all λB=>decide (EF K (.ref C) (.ref B)=Ab (C == B))
theorem YS {cl:Aa Ad}(h1:cl.all (mG K)=true)(h2:cX K=true)(h3:YQ K cl=true):ClsK K cl:=by
 have g:=h2;unfold cX at g;simp only[A5,AI] at g;have k1:∀ C∈cl,mG K C=true:=AS.mp h1;refine⟨λC hC=>?_,λC hC B hB=>?_,λC hC=>?_⟩
 .have e:=k1 C hC
  unfold mG at e;simp only[A5,AI] at e;obtain⟨⟨⟨⟨⟨⟨e1,e2⟩,e3⟩,e4⟩,e5⟩,e6⟩,e7⟩:=e;exact⟨e1,e2,e3,g.1,g.2,e4,e5,e6⟩
 .have e:=AS.mp (AS.mp h3 C hC) B hB
  exact AU e
 .have e:=k1 C hC
  unfold mG at e;simp only[A5,AI] at e;exact e.2
noncomputable def FH (K:Ah)(cs:Aa Ac)(A:Ad):Ap:=cs.all λv=>decide (Eh K v (.ref A)=Ab true)
noncomputable def FF (K:Ah)(cs:Aa Ad)(A:Ad):Ap:=cs.all λC=>gD K C A
noncomputable def FG (K:Ah)(cs:Aa Ad):Ap:=cs.all λC=>Bz K (.ref C)
def fW (K:Ah):Sp:=λvs H Q E=>Tb0 K H/\∃ a ns,vs=[.ref a]/\SqX K H a (NQ V.int ns)/\ns.length<=63/\∀ H',Q (.bl true) H'
theorem tM {P:Hp}{α:Aa Ad}:∀ ns:Aa Am,qD K P α (ns.map D.int) (ns.map V.int)
 |[]=>.nil
 |n::ns=>.cons (by simp only[Rep]) (tM ns)
noncomputable def noT (H:Hp):Hp:=λb=>match H b with
 |some (.tbl _)=>none
 |u=>u
theorem XQ {P:A0}{w:AH}{fa:Ad}{st:Ca}{k:Aj}{x:An}(hs:Src K mg "law" st [x])(hfa:mg "law" = Ab (.ref fa))
  (hbd:∀ (kV doc pm:Ac) (an:Ak Ad) (cdv ct:Ac) (s:Af) (v:Ac),Gf s (Dd "law" "law" (xU st) (zB st) (qG st) .none kV doc pm an cdv ct) ⟨[v],[]⟩ [(x,v)])
  (hall:∀ base:A8,∃ F,fY P w K mg base true k "law" [x] F/\∀ ns:Aa Am,ns.length<=63->∃ S,F [.lst (ns.map D.int)] [] = .ok (.bl true) S) :
  ∃ fd:CF,(∀ (s:Af) (v:Ac),Gf s fd ⟨[v],[]⟩ [(x,v)])/\∀ base:A8,K.In base->base.Ns AM mg->FnOk P w K mg base (CXd P w) k fa fd [x] (fW K):=by
 obtain⟨f,fd,hm,F,hb⟩:=hs;cases hfa.symm.trans hm;refine⟨fd,?_,λbase _ _=>?_⟩
 .obtain⟨oc,od,kV,doc,pm,an,cdv,ct,osl,rfl,_,_⟩:=F.ex
  exact hbd kV doc pm an cdv ct
 .obtain⟨G,⟨f',fd',hm',_,hb',hl,X⟩,hG⟩:=hall base
  cases hm.symm.trans hm';cases hl.one (kN F);refine(X.imp λvs H Q E h=>?_).ok;obtain⟨tb,a,ns,rfl,hS,hl,k⟩:=h;obtain⟨S,e⟩:=hG ns hl;have keep:∀ (b:Ad) (u:HO),H b=Ab u->(∀ ps,u≠.tbl ps)->noT H b=Ab u:=λb u q h=>by
   unfold noT;rw[q];cases u with
   |tbl ps=>exact absurd rfl (h ps)
   |_=>rfl
  have hS':SqX K (noT H) a (NQ V.int ns):=by
   rcases hS with (h|⟨o,h⟩)|h
   .exact .inl (.inl (keep _ _ h λ_ z=>by cases z))
   .exact .inl (.inr ⟨o,keep _ _ h λ_ z=>by cases z⟩)
   .exact .inr h
  have sub:qF (noT H) H:=λb u q=>by
   unfold noT at q;cases z:H b with
   |none=>rw[z] at q;cases q
   |some v =>
    rw[z] at q;cases v with
    |tbl ps=>cases q
    |_=>exact q
  refine⟨rfl,noT H,[],[.lst (ns.map D.int)],[],⟨λx hx c T h=>⟨#[],tb x hx c T h,by unfold noT;rw[tb x hx c T h],by simp,trivial,λpos cv z=>by cases z⟩,sub,rfl,.nil,by simp,by simp,by simp⟩,.cons (bM hS' (tM ns)) .nil,?_⟩
  rw[e];intro v H' P' α' _ _ _ rv;simp only[Rep] at rv;subst rv;exact k H'
theorem BW {l:Ms}{q:A0}{loose:Aa An}{XP:(An->Ak Ac)->A8->Prop}{YP:AH->A8->Prop}{d:DefRec}{K:Params->Ah}{k:Aj}{x:An}(hn:l.most=Ab 63)(hdf:d.params.defaults=[])(hr:Room k HE)(ht:∀ p,dF q (K p)=true)
  (hY:∀ (w:AH) (h:A8),YP w h->(K w.params).In h)
  (F:∀ (w:AH) (mg:An->Ak Ac) (fa:Ad) (h:A8),(K w.params).In h->h.Ns AM mg->mg d.name=Ab (.ref fa) ->
   ∃ fd:CF,(∀ (s:Af) (u:Ac),Gf s fd ⟨[u],[]⟩ [(x,u)])/\∀ base:A8,(K w.params).In base->base.Ns AM mg->FnOk l.prog w (K w.params) mg base (CXd l.prog w) k fa fd [x] (fW (K w.params))) :
  Nz q loose XP YP l.row.toRowW d [] (λf vs=>Mv f vs):=
 _L.Y4 (n:=63) (k:=k) (x:=x) (CX:=λw=>CXd l.prog w) (sp:=λw=>fW (K w.params)) hn (by decide) hdf hr ht hY F (λ_ _ a ns hl hT hS=>⟨hT,a,ns,rfl,hS,hl,λ_=>rfl⟩) λw H s e s' h=>by
  obtain⟨_,_,_,_,_,_,_,_,_,_,_,_,z⟩:=h;exact z
end _D
namespace _D
open PySem
variable {us:Aa Ac}
theorem us0 (h:us.length=0):us=[]:=Hf h
theorem usS {n:Aj}(h:us.length=n+1):∃ a vs,us=a::vs/\vs.length=n:=by
 cases us with
 |nil=>exact absurd h (by simp)
 |cons a vs=>exact⟨a,vs,rfl,by simpa using h⟩
theorem us1 (h:us.length=1):∃ a,us=[a]:=by
 obtain⟨a,vs,rfl,h'⟩:=usS h;exact⟨a,by rw[us0 h']⟩
theorem us2 (h:us.length=2):∃ a b,us=[a,b]:=by
 obtain⟨a,vs,rfl,h'⟩:=usS h;obtain⟨b,rfl⟩:=us1 h';exact⟨a,b,rfl⟩
theorem us3 (h:us.length=3):∃ a b c,us=[a,b,c]:=by
 obtain⟨a,vs,rfl,h'⟩:=usS h;obtain⟨b,c,rfl⟩:=us2 h';exact⟨a,b,c,rfl⟩
end _D
namespace _D
open PySem PySem.Spec PyProof.Rows _L
variable {oc:AL}{us:Aa Ac}{caps:Aa D}{E Q:Ac->Af->Prop}{c':Ad}{tk j:Aj}{sc:Bu}{H':Hp}{env:qE}
theorem QY (F:DF):∃ G:DF,G=F:=⟨F,rfl⟩
def sh (F:DF):DF:=Ig (QY F)
theorem x5 (F:DF):sh F=F:=Gm (QY F)
noncomputable def isV:Ak Dz->Ap
 |some .local => true
 |some .cell=>true
 |some .free=>true
 |_=>false
noncomputable def isL:Ak Dz->Ap
 |some .local => true
 |some .cell=>true
 |_=>false
noncomputable def isG:Ak Dz->Ap
 |some .globalImplicit=>true
 |_=>false
noncomputable def okN (x:An):Ap:=!(x == ("__debug__" : An))&&(!(x == ("__classdict__" : An))&&!decide (x = "__name__"))
noncomputable def okG (X:Cx)(x:An):Ap:=isG (X.env.kindOf x)&&okN x
noncomputable def okB (v:Ac)(x:An):Ap:=decide (Cw x=Ab v)
noncomputable def vZ (sc:Bu):Aa An:=sc.names.filterMap λy=>if isL (Ab y.2) then Ab y.1 else none
noncomputable def w4 (sc:Bu):Aa An:=(sc.names.filterMap λy=>if isL (Ab y.2)&&!(y.1 == (".0" : An)) then Ab y.1 else none)++sc.names.filterMap λy=>if y.2 == .free then Ab y.1 else none
def Ck (b:Ap):Prop:=b=true
theorem ck {b:Ap}(h:b=true:=by kernel_rfl):Ck b:=h
structure DfS (F:DF)(P:A0)(w:AH)(K:Ah)(mg:An->Ak Ac)(base:A8)(cm:Ap)(k:Aj)(x:An)(n:Aj):Prop where
 get:Def P w K mg base cm k x n F
noncomputable def okT (X:Cx)(m:Aj)(x:An):Ap:=decide (X.N[m]? = Ab x)&&(isL (X.env.scope.names.lookup x)&&(decide X.N.Nodup&&(X.fn x||decide (X.env.scope.names.lookup x=Ab .local))))
noncomputable def okP (X:Cx)(m:Aj)(x:An):Ap:=decide (X.N[m]? = Ab x)&&decide (X.env.scope.names.lookup x=Ab .local)
noncomputable def fO (scX:Bu)(NX:Aa An)(scope:Bu)(cap:Aa (Ak Aj)):Ap:=
 decide (scope.kind=.function)&&(decide (∀ y∈scope.names,y.2=.local -> scope.names.lookup y.1=Ab .local)&&(decide (∀ y∈scope.names,y.2=.cell->scope.names.lookup y.1=Ab .cell)&&(decide (∀ y∈scope.names,y.2=.free->scX.names.lookup y.1=Ab .cell\/scX.names.lookup y.1=Ab .free)
 && (decide (∀ y∈scope.names,y.2=.free->scope.names.lookup y.1=Ab .free)&&(decide (cap.length=(w4 scope).length)&&(((cap.zip (w4 scope)).all λp=>match p.1 with|none=>true|some i=>NX[i]? == Ab p.2&&scope.names.lookup p.2 == Ab .free)&&decide (w4 scope).Nodup))))))
noncomputable def fnB (N P:Aa An)(sc:Bu):Ap:=
 decide (sc.kind=.function)&&(decide (sc.isCoroutine=false)&&(decide (sc.isGenerator=false)&&(decide N.Nodup&&(decide (N.take P.length=P)&&(decide (∀ x∈P,sc.names.lookup x=Ab .local \/ sc.names.lookup x=Ab .cell)&&decide (∀ y∈sc.names,y.2≠.free))))))
theorem mI {scX:Bu}{NX:Aa An}{scope:Bu}{cap:Aa (Ak Aj)}(h:fO scX NX scope cap=true):CompSc scX NX scope (w4 scope) cap:=by
 simp only[fO,A5,AI] at h;obtain⟨a,b,c,d,e,f,g,k⟩:=h;exact⟨a,b,c,d,e,f,g,k⟩
theorem mZ {N P:Aa An}(h:fnB N P sc=true):FnScope N P sc:=by
 simp only[fnB,A5,AI] at h;obtain⟨a,b,c,d,e,f,g⟩:=h;exact⟨a,b,c,d,e,f,g⟩
section
variable {X:Cx}{a b c e o elt tg iter:AE}{ifs rest:Aa AE}{f g:DS}{fa:DE}{f2:DI2}{dg:DG}{t:DT}{kk:DK}{gens grest:Aa Bw}{scope:Bu}{cap:Aa (Ak Aj)}{mm:Ap}{l q:Aj}{y z:An}{G2':G2}{es:Aa AE}{fA:DA}{x:An}{p pos:CD}{cm:Ap}{k n m:Aj}{F:DF}
theorem l7 (h:isV (sc.names.lookup x)=true):Vis sc x:=by
 unfold Vis
 revert h
 cases sc.names.lookup x with
 |none=>intro h;cases h
 |some y=>cases y <;> intro h <;> first|cases h;done|exact .inl rfl|exact .inr (.inl rfl)|exact .inr (.inr rfl)
theorem XB (h:isL (sc.names.lookup x)=true):_L.Loc sc x:=by
 unfold _L.Loc
 revert h
 cases sc.names.lookup x with
 |none=>intro h;cases h
 |some y=>cases y <;> intro h <;> first|cases h;done|exact .inl rfl|exact .inr rfl
theorem uG (h:okN x=true):(x == ("__debug__" : An))=false/\(x == ("__classdict__" : An))=false/\x ≠ "__name__":=by
 unfold okN at h;rw[A5,A5] at h;exact⟨by simpa using h.1,by simpa using h.2.1,by simpa using h.2.2⟩
theorem xE (h:okG X x=true):Gl X x/\(x == ("__debug__" : An))=false/\x ≠ "__name__":=by
 have h:=(A5 _ _).mp h;refine⟨?_,(uG h.2).1,(uG h.2).2.2⟩;have z:=h.1;unfold Gl
 revert z
 cases X.env.kindOf x with
 |none=>intro z;cases z
 |some y=>cases y <;> intro z <;> first|cases z;done|rfl
theorem p9 (h:okT X m x=true):X.N[m]? = Ab x/\_L.Loc X.env.scope x/\X.N.Nodup/\(X.fn x=true\/X.env.scope.names.lookup x=Ab .local):=by
 simp only[okT,A5,AI,IL] at h;exact⟨h.1,XB h.2.1,h.2.2⟩
theorem eO (h:okP X m x=true):X.N[m]? = Ab x/\X.env.scope.names.lookup x=Ab .local:=by
 simp only[okP,A5,AI] at h;exact h
theorem Q6 (h:Ck (okG X x)):Gl X x:=(xE h).1
theorem aV (h:Ck (decide (X.N[m]? = Ab x)&&(isV (X.env.scope.names.lookup x)&&okN x))):QE X (.Name x pos) (qB m):=by
 unfold Ck at h;simp only[A5,AI] at h;exact JV m h.1 (l7 h.2.1) (uG h.2.2).1 (uG h.2.2).2.1
theorem aBt {nm:Bg}(h:Ck (okG X x))(hm:X.mg x=none)(hb:Ck (okB (.type nm) x)):QE X (.Name x pos) (dC (.ty nm)):=
 have h:=xE h
 WE h.1 hm (AU hb) h.2.2 h.2.1
theorem aCl {C:Ad}(h:Ck (okG X x))(hm:X.mg x=Ab (.ref C)/\Bz X.K (.ref C)=true):QE X (.Name x pos) (dC (.obj C)):=
 have h:=xE h
 JP h.1 hm.1 hm.2 h.2.1
theorem aGi {v:Am}(h:Ck (okG X x))(hm:∃ t,X.mg x=Ab (.int v t)):QE X (.Name x pos) (dC (.int v)):=
 have h:=xE h
 WH h.1 hm h.2.1
abbrev St1 (X:Cx)(e:AE)(es:Aa AE)(pos:CD):Prop:=Av (e::es) X.env=(false,eval e X.env)::Av es X.env/\(CB pos (Av es X.env)).any (·.1)=false
theorem aN (G:DfS F X.prog X.w X.K X.mg X.base cm k x n)(hr:RoomC cm k X.A)(hF:Fn1 X)(h:Ck (okG X x))(ha:QA X (e::es) fA)(s:St1 X e es pos):QE X (.Call (.Name x p) (e::es) [] pos) (qN n F fA):=
 have h:=xE h
 qcN G.1 hr hF h.1 ha h.2.1 s.1 s.2
theorem aL (G:DfS F X.prog X.w X.K X.mg X.base cm k x n)(hr:RoomC cm k X.A)(hF:Fn1 X)(h:Ck (okG X x))(ha:QA X (e::es) fA)(s:St1 X e es pos):QE X (.Call (.Name x p) (e::es) [] pos) (qN n (vP F) fA):=
 have h:=xE h
 qcL G.1 hr hF h.1 ha h.2.1 s.1 s.2
theorem aO (G:DfS F X.prog X.w X.K X.mg X.base cm k x n)(hr:RoomC cm k X.A)(h:Ck (okG X x))(ha:QA X (e::es) fA)(s:St1 X e es pos):QE X (.Call (.Name x p) (e::es) [] pos) (qN n (okO F) fA):=
 have h:=xE h
 qcO G.1 hr h.1 ha h.2.1 s.1 s.2
theorem aB {id:Bg}(hc:ZCall X (.builtin id) F)(h:Ck (okG X x))(hm:X.mg x=none)(hb:Ck (okB (.builtin id) x))(ha:QA X (e::es) fA)(s:St1 X e es pos):QE X (.Call (.Name x p) (e::es) [] pos) (qO F fA):=
 have h:=xE h
 o9 hc h.1 hm (AU hb) ha h.2.2 h.2.1 s.1 s.2
theorem aT {T:Bg}(hc:ZCall X (.type T) F)(h:Ck (okG X x))(hm:X.mg x=none)(hb:Ck (okB (.type T) x))(ha:QA X (e::es) fA)(s:St1 X e es pos):QE X (.Call (.Name x p) (e::es) [] pos) (qO F fA):=
 have h:=xE h
 eW hc h.1 hm (AU hb) ha h.2.2 h.2.1 s.1 s.2
theorem aC (S:Ck (fO X.env.scope X.N scope cap))(hc:X.calm=true)(hi:QI2 X tg iter f2)(hg:∀ cl C ex s₀ H₀,QG (qV X (w4 scope) scope cl C ex s₀ H₀) tg dg)(ht:∀ cl C ex s₀ H₀,QTs (qV X (w4 scope) scope cl C ex s₀ H₀) ifs t)
  (has:∀ g',(⟨tg,iter,ifs,0⟩::grest:Aa Bw)[0+1]? = Ab g'->g'.is_async=0)
  (he:∀ cl C ex s₀ H₀,QK (qV X (w4 scope) scope cl C ex s₀ H₀) (λacc=>zG elt (⟨tg,iter,ifs,0⟩::grest) scope pos 0 acc (qV X (w4 scope) scope cl C ex s₀ H₀).env) kk) (hs:∀ x,Cc iter X.env x=pure x) :
  QE X (.ListComp elt (⟨tg,iter,ifs,0⟩::grest) scope pos) (zC mm cap f2 dg t kk):=oB hc (mI S) hi hg ht has he hs
theorem aCs {py spos:CD}(hsw:Fw (.ListComp elt (⟨tg,iter,ifs,0⟩::grest) scope pos) (Ab (.Name y py)) spos.line X.env=pure true)(S:Ck (fO X.env.scope X.N scope cap))(hN:Ck (okT X m y))(hc:X.calm=true)(hi:QI2 X tg iter f2)(hg:∀ cl C ex s₀ H₀,QG (qV X (w4 scope) scope cl C ex s₀ H₀) tg dg)(ht:∀ cl C ex s₀ H₀,QTs (qV X (w4 scope) scope cl C ex s₀ H₀) ifs t)
  (has:∀ g',(⟨tg,iter,ifs,0⟩::grest:Aa Bw)[0+1]? = Ab g'->g'.is_async=0)
  (he:∀ cl C ex s₀ H₀,QK (qV X (w4 scope) scope cl C ex s₀ H₀) (λacc=>zG elt (⟨tg,iter,ifs,0⟩::grest) scope pos 0 acc (qV X (w4 scope) scope cl C ex s₀ H₀).env) kk) (hs:∀ x,Cc iter X.env x=pure x) :
  QS X (.Assign [.Name y py] (.ListComp elt (⟨tg,iter,ifs,0⟩::grest) scope pos) spos) (zA (zC mm cap f2 dg t kk) (gNm m)):=
 have h:=p9 hN
 oE hc h.2.2.1 (mI S) hi hg ht has he h.1 h.2.1 h.2.2.2 hsw hs
theorem aNm (h:Ck (okT X m x)):QG X (.Name x pos) (gNm m):=
 have h:=p9 h
 WL h.2.2.1 h.1 h.2.1 h.2.2.2
theorem aSt {pos':CD}(hs:Fw e (Ab (.Name x pos')) pos.line X.env=pure false)(he:QE X e fa)(h:Ck (okT X m x)):QS X (.Assign [.Name x pos'] e pos) (zA fa (gNm m)):=
 have h:=p9 h
 K3 h.2.2.1 he h.1 h.2.1 hs h.2.2.2
theorem aAu {op:Fz}{pos':CD}(h:Ck (okT X m x))(he:QE X e fa)(ho:ZIp X op G2'):QS X (.AugAssign (.Name x pos') op e pos) (kB m G2' fa):=
 have h:=p9 h
 K1 h.2.2.1 he ho h.1 h.2.1 h.2.2.2
theorem aRs {C:Ad}{np cpos:CD}(h:Ck (okG X x))(hc:X.calm=true)(hF:Fn1 X)(hm:∃ Ae,X.mg x=Ab (.ref C)/\gD X.K C Ae=true)(ha:QA X (e::rest) fA)(s:St1 X e rest cpos) :
  QS X (.Raise (Ab (.Call (.Name x np) (e::rest) [] cpos)) none pos) (uI (.ref C) fA):=
 have h:=xE h
 let ⟨_,hm,hx⟩:=hm
 oF hc hF h.1 hm hx ha h.2.1 s.1 s.2
theorem aTr {nm:An}{body:Aa Ca}{b₀:Ca}{suite:Aa Ca}{np hpos:CD}{cs:Aa Ac}(h:Ck (okG X x&&(okP X m nm&&(decide X.N.Nodup&&decide (X.N.length=n)))))(hF:Fn1 X)(hm:∃ C0,X.mg x=Ab (.ref C0)/\∀ c∈cs,Eh X.K c (.ref C0)=Ab true)(hb:∀ E pn,ZPass (Cx.tryIn X E pn)->QB (Cx.tryIn X E pn) body f)(hs:∀ e,QB (Cx.suite X e) (b₀::suite) g) :
  QS X (.Try body [.ExceptHandler (Ab (.Name x np)) (Ab nm) (b₀::suite) hpos] [] [] pos) (gM n m cs f g):=by
 unfold Ck at h;simp only[A5,AI] at h;obtain⟨C0,hm,hcs⟩:=hm;exact K4 hF hb hs (xE h.1).1 hm hcs h.2.2.1 (eO h.2.1).1 (eO h.2.1).2 (xE h.1).2.1 h.2.2.2
end
structure TxS (K:Ah)(mg:An->Ak Ac)(tp:Aj->Ca)(tab:Aa (An × Aj × Aa An))(bl:Aa An)(clt plt:Aa (An × Ad))(cs:Aa Ac)(exl:Aa Ad)(cst:Aa (An × Am)):Prop where
 src:∀ (j:Aj) {x:An} {i:Aj} {ps:Aa An},tab[j]? = Ab (x,i,ps)->Src K mg x (tp i) ps
 nb:∀ {x:An},Ck (bl.contains x)->mg x=none
 cl:∀ {x:An} {C:Ad},clt.lookup x=Ab C->mg x=Ab (.ref C)/\Bz K (.ref C)=true
 rz:∀ {x:An} {C:Ad},plt.lookup x=Ab C->∃ Ae,mg x=Ab (.ref C)/\gD K C Ae=true
 ct:∃ C0,mg "FarError" = Ab (.ref C0)/\∀ c∈cs,Eh K c (.ref C0)=Ab true
 cls:ClsK K exl
 gi:∀ {x:An} {v:Am},cst.lookup x=Ab v->∃ t,mg x=Ab (.int v t)
section
variable {K:Ah}{mg:An->Ak Ac}{cm:Ap}{tp:Aj->Ca}{tab:Aa (An × Aj × Aa An)}{bl:Aa An}{clt plt:Aa (An × Ad)}{cs:Aa Ac}{exl:Aa Ad}{cst:Aa (An × Am)}{x:An}{i m:Aj}{ps:Aa An}{F:DF}{g:DS}
theorem dq (P:A0)(w:AH)(base:A8)(k j:Aj)(T:TxS K mg tp tab bl clt plt cs exl cst)(hj:tab[j]? = Ab (x,i,ps))(h:Ck (fnB (vZ (qG (tp i))) ps (qG (tp i))&&decide ((vZ (qG (tp i))).length=m)))(hF:F=qW m g)
  (hb:∀ (f:Ad) (cdv:Ac) (A:AF) (outer:Aa DD) (s:Af) (H:Hp) (E:XK),uL K x cdv->RoomC cm k (A.deeper (CY x (qG (tp i)) s.heap.objs.size f cdv)) ->
   QB (cxC cm P w K mg base (vZ (qG (tp i))) x (qG (tp i)) f cdv A outer s H E) (zB (tp i)) g):DfS F P w K mg base cm (k+1) x ps.length:=by
 unfold Ck at h;simp only[A5,AI] at h;obtain⟨h,rfl⟩:=h;exact⟨hF▸FJ (T.src j hj) (mZ h) rfl hb⟩
theorem dqP {P:A0}{w:AH}{base:A8}(k j:Aj)(T:TxS K mg tp tab bl clt plt cs exl cst)(hj:tab[j]? = Ab (x,i,ps))(h:Ck (fnB (vZ (qG (tp i))) ps (qG (tp i))&&decide ((vZ (qG (tp i))).length=m)))
  (hb:∀ (f:Ad) (cdv:Ac) (A:AF) (outer:Aa DD) (s:Af) (H:Hp) (E:XK),uL K x cdv->RoomC cm k (A.deeper (CY x (qG (tp i)) s.heap.objs.size f cdv)) ->
   QB (cxC cm P w K mg base (vZ (qG (tp i))) x (qG (tp i)) f cdv A outer s H E) (zB (tp i)) g):fY P w K mg base cm (k+1) x ps (qW m g):=by
 unfold Ck at h;simp only[A5,AI] at h;obtain⟨h,rfl⟩:=h;exact GK (T.src j hj) (mZ h) rfl hb
end
theorem hv {a b:Prop}(f:a->b)(h:a):b:=f h
inductive SrcF (K:Ah)(x:An)(st:Ca)(ps:Aa An):Prop
 |mk {f:Ad} {oc:Ac} {od an:Ak Ad} {osl:A6 (Ak Ac)} {kV doc pm cdv ct:Ac} (a:Bl K AM x=Ab (Ab (.ref f)))
  (l:K.lookup f=Ab ⟨oc,od,.func (Dd x x (xU st) (zB st) (qG st) .none kV doc pm an cdv ct),osl⟩) (c:EG K cdv x=true) (k:Bz K (.ref f)=true):SrcF K x st ps
def d8 (K:Ah)(tp:Aj->Ca):Aa (An × Aj × Aa An)->Prop
 |[]=>Fy
 |(x,i,ps)::t=>SrcF K x (tp i) ps/\d8 K tp t
def BdF (tp:Aj->Ca):Aa (An × Aj × Aa An)->Prop
 |[]=>Fy
 |(x,i,ps)::t=>(∀ (kV doc pm:Ac) (an:Ak Ad) (cdv ct:Ac) (us:Aa Ac),us.length=ps.length->IG (Dd x x (xU (tp i)) (zB (tp i)) (qG (tp i)) .none kV doc pm an cdv ct) ⟨us,[]⟩=pure (ps.zip us))/\BdF tp t
def d3 (K:Ah):Aa (An × Ad)->Prop
 |[]=>Fy
 |(x,C)::t=>Bl K AM x=Ab (Ab (.ref C))/\d3 K t
def d6 (K:Ah):Aa (An × Am)->Prop
 |[]=>Fy
 |(x,v)::t=>(∃ k,Bl K AM x=Ab (Ab (.int v k)))/\d6 K t
noncomputable def FP:Ak (Ak Ac)->Ap
 |some none=>true
 |_=>false
section
variable {K:Ah}{h:A8}{mg:An->Ak Ac}{tp:Aj->Ca}
theorem lU (X:K.In h)(G:h.Ns AM mg):∀ (tab:Aa (An × Aj × Aa An)),d8 K tp tab->BdF tp tab->∀ (j:Aj) {x:An} {i:Aj} {ps:Aa An},tab[j]? = Ab (x,i,ps)->Src K mg x (tp i) ps
 |[],_,_,_,_,_,_,e=>by cases e
 |(x,i,ps)::t,H,B,0,_,_,_,e=>by
  cases e;obtain⟨a,l,c,k⟩:=H.1;exact KD X G a l c k B.1
 |(x,i,ps)::t,H,B,j+1,_,_,_,e=>lU X G t H.2 B.2 j e
theorem xP {β:Type}{p:An->β->Prop}{x:An}{C:β}:∀ {l:Aa (An × β)},(∀ y∈l,p y.1 y.2)->l.lookup x=Ab C->p x C
 |[],_,e=>by cases e
 |(y,b)::t,H,e=>by
  rw[El] at e;cases q:x == y with
  |true =>
   rw[q] at e;cases e;rw[eq_of_beq q];exact H (y,_) (.head _)
  |false =>
   rw[q] at e;exact xP (λz hz=>H z (.tail _ hz)) e
theorem kJ (X:K.In h)(G:h.Ns AM mg):∀ {l:Aa (An × Ad)},d3 K l->∀ y∈l,mg y.1=Ab (.ref y.2)
 |(x,C)::t,H,y,hy=>by
  rcases AR.mp hy with rfl|hy
  .exact Kl X G H.1
  .exact kJ X G H.2 y hy
theorem nV (X:K.In h)(G:h.Ns AM mg):∀ {l:Aa (An × Am)},d6 K l->∀ y∈l,∃ k,mg y.1=Ab (.int y.2 k)
 |(x,C)::t,H,y,hy=>by
  rcases AR.mp hy with rfl|hy
  .obtain⟨k,e⟩:=H.1
   exact⟨k,Kl X G e⟩
  .exact nV X G H.2 y hy
theorem BQ {tab:Aa (An × Aj × Aa An)}{bl:Aa An}{clt plt:Aa (An × Ad)}{cs:Aa Ac}{exl:Aa Ad}{cst:Aa (An × Am)}{far:Ad}(B:BdF tp tab)(hp:∀ y∈plt,y∈clt)(hf:clt.lookup ("FarError" : An)=Ab far)(X:K.In h)(G:h.Ns AM mg)
  (s:d8 K tp tab) (z:(bl.all λx=>FP (Bl K AM x))=true) (q:d3 K clt) (g:d6 K cst) (e1:exl.all (mG K)=true) (e2:cX K=true) (e3:YQ K exl=true) (e4:FH K cs far=true) (e5:FF K (plt.map (·.2)) far=true) (e6:FG K (clt.map (·.2))=true):TxS K mg tp tab bl clt plt cs exl cst where
 src:=lU X G tab s B
 nb:=λ{x} hx=>by
  have e:=AS.mp z x (by simpa using Ct.mp hx)
  refine PySem.W.mg_none_of X G ?_
  revert e
  cases Bl K AM x with
  |none=>intro e;cases e
  |some y=>cases y with
   |none=>intro _;rfl
   |some y=>intro e;cases e
 cl:=λh=>⟨xP (p:=λx C=>mg x=Ab (.ref C)) (kJ X G q) h,xP (p:=λ_ C=>Bz K (.ref C)=true) (λy hy=>AS.mp e6 y.2 (Km hy)) h⟩
 rz:=λh=>⟨far,xP (p:=λx C=>mg x=Ab (.ref C)) (λy hy=>kJ X G q y (hp y hy)) h,xP (p:=λ_ C=>gD K C far=true) (λy hy=>AS.mp e5 y.2 (Km hy)) h⟩
 ct:=⟨far,xP (p:=λx C=>mg x=Ab (.ref C)) (kJ X G q) hf,λv hv=>AU (AS.mp e4 v hv)⟩
 cls:=YS e1 e2 e3
 gi:=λh=>xP (p:=λx v=>∃ k,mg x=Ab (.int v k)) (nV X G g) h
end
structure LamT where
 qual:An
 params:Ha
 body:AE
 scope:Bu
noncomputable def zZ (sc:Bu):Aa An:=sc.names.filterMap λy=>if y.2 == .free then Ab y.1 else none
inductive CloAt (h:A8)(H:Hp)(fs:Aa Ad)(L:LamT)(a:Ad)(cv:Aa V):Prop
 |mk (cl:Aa (An × Ad)) (pm ctv:Ac) (c:Ad) (oc:AL) (ws:A6 Ac) (t:IS) (o:h.get? a=Ab (Ff "<lambda>" L.qual L.params L.body L.scope cl pm c ctv)) (hc:H c=Ab (.frz oc (.frz oc (.own 0)))) (hd:oc.data=.fields ws) (ht:ws[1]? = Ab (.str L.qual t))
  (inj:∀ x y d,cl.lookup x=Ab d->cl.lookup y=Ab d->x=y) (cel:∀ x d,cl.lookup x=Ab d->H d=none/\∃ v,h.IsCell d v) (has:∀ x,L.scope.names.lookup x=Ab .free->∃ d,cl.lookup x=Ab d)
  (len:cv.length=(zZ L.scope).length) (val:∀ (j:Aj) x v,(zZ L.scope)[j]? = Ab x->cv[j]? = Ab v->∃ d u,cl.lookup x=Ab d/\qJ v u/\h.IsCell d (Ab u)) (hn:H a=none) (hf:a ∉ fs):CloAt h H fs L a cv
theorem CloAt.at {X:Cx}{pins:Aa (Ad × AL)}{σ:_L.St}{H:Hp}{s:Af}{L:LamT}{a:Ad}{cv:Aa V}(C:CloAt X.s₀.heap X.H₀ X.fs L a cv)(F:Fn1 X)(I:Inv X pins σ H s):CloAt s.heap H (frs X.stack) L a cv:=by
 obtain⟨cl,pm,ctv,c,oc,ws,t,o,hc,hd,ht,inj,cel,has,len,val,hn,hf⟩:=C;have nx:∀ b,b ∉ X.ex:=λb=>by rw[F.1];simp
 have nf:∀ b o,X.s₀.heap.get? b=Ab o->b ∉ X.fs->b ∉ frs X.stack:=λb o e n z=>(F.mem.mp z).elim (AV (Aw (Ay e) I.ok.above)) n;have kc:∀ d v,X.H₀ d=none->X.s₀.heap.IsCell d v->s.heap.IsCell d v:=λd v h1 ⟨o,e,q⟩=>let ⟨_,z⟩:=I.base.any e h1 (nx d);⟨_,z,q⟩
 refine⟨cl,pm,ctv,c,oc,ws,t,I.base.keep a _ o hn hf (nx a),I.base.frzs _ _ _ hc,hd,ht,inj,λx d e=>?_,has,len,λj x v e1 e2=>?_,I.base.free a _ o hn (nx a),nf a _ o hf⟩
 .obtain⟨h1,v,h3⟩:=cel x d e
  obtain⟨ob,e3,q⟩:=id h3;exact⟨I.base.free d ob e3 h1 (nx d),v,kc d v h1 h3⟩
 .obtain⟨d,u,q1,q2,q3⟩:=val j x v e1 e2
  exact⟨d,u,q1,q2,kc d _ (cel x d q1).1 q3⟩
noncomputable def iI (cm:Ap)(P:A0)(w:AH)(K:Ah)(mg:An->Ak Ac)(base:A8)(N:Aa An)(L:LamT)(cl:Aa (An × Ad))(f:Ad)(cd:Ac)(A:AF)(outer:Aa DD)(s:Af)(H:Hp)(E:XK):Cx where
 prog:=P
 w:=w
 K:=K
 mg:=mg
 base:=base
 A:=A.deeper (EL L.qual L.scope s.heap.objs.size f cd cl)
 N:=N
 s₀:=s
 H₀:=H
 env:=EL L.qual L.scope s.heap.objs.size f cd cl
 outer:=outer
 stack:=EL L.qual L.scope s.heap.objs.size f cd cl::outer
 ex:=[]
 calm:=cm
 fn:=λ_=>false
 pn:=[]
 xe:=xeL P w A (EL L.qual L.scope s.heap.objs.size f cd cl) outer H s E
structure LamSc (L:LamT)(ps:Aa An):Prop where
 kind:L.scope.kind=.function
 co:L.scope.isCoroutine=false
 gen:L.scope.isGenerator=false
 nocell:∀ y∈L.scope.names,y.2≠.cell
 par:∀ x∈ps,L.scope.names.lookup x=Ab .local
 one:ps.length<=1
 fr:∀ x∈zZ L.scope,L.scope.names.lookup x=Ab .free
def pM (P:A0)(w:AH)(K:Ah)(mg:An->Ak Ac)(base:A8)(cm:Ap)(k:Aj)(L:LamT)(n:Aj)(G:Aa D->DF):Prop:=
 ∀ (A:AF) (outer:Aa DD) (s:Af) (H:Hp) (us:Aa Ac) (ws cv:Aa V) (a:Ad) (P':Hp) (α : Aa Ad) (S:Sto) (caps ds:Aa D) (Q:VK) (E:XK),RoomC cm k A->Env0 P w K mg base A outer s H->CloAt s.heap H (frs outer) L a cv->Rel K H P' α S ->
  qD K P' α caps cv->qD K P' α ds ws->qK ws us->ds.length=n->spR K P' α (G caps ds S) Q E->D6 (Aq P w) A (.call (.ref a) ⟨us,[]⟩) (CR (CXd P w) outer P w H s Q E) s
section
variable {P:A0}{w:AH}{K:Ah}{mg:An->Ak Ac}{base:A8}{cm:Ap}{L:LamT}{ps:Aa An}
theorem X8 {cl:Aa (An × Ad)}{f:Ad}{cd:Ac}{A:AF}{outer:Aa DD}{s:Af}{H:Hp}{E:XK}{ws cv:Aa V}{h':A8}{tk:Aj}(S:LamSc L ps)(hd:cm=true->A.handled=none)(e0:Env0 P w K mg base A outer s H)
  (inj:∀ x y d,cl.lookup x=Ab d->cl.lookup y=Ab d->x=y) (cel:∀ x d,cl.lookup x=Ab d->H d=none/\∃ v,s.heap.IsCell d v) (has:∀ x,L.scope.names.lookup x=Ab .free->∃ d,cl.lookup x=Ab d)
  (len:cv.length=(zZ L.scope).length) (val:∀ (j:Aj) x v,(zZ L.scope)[j]? = Ab x->cv[j]? = Ab v->∃ d u,cl.lookup x=Ab d/\qJ v u/\s.heap.IsCell d (Ab u)) (hl:ws.length=ps.length) (r:qK ws us)
  (hns:h'.Ns s.heap.objs.size λy=>(ps.zip us).reverse.lookup y) (hk:∀ b o,s.heap.get? b=Ab o->h'.get? b=Ab o) :
  Inv (iI cm P w K mg base (ps++zZ L.scope) L cl f cd A outer s H E) [] ((ws++cv).map Ab) H { s with heap:=h',toks:=tk }:=by
 have kc:∀ d v,s.heap.IsCell d v->h'.IsCell d v:=λd v ⟨o,e,q⟩=>⟨o,hk d o e,q⟩;have no:∀ b:Ad,b ∉ ([]:Aa Ad):=λb=>by simp
 refine⟨⟨e0.mod,S.kind,rfl,rfl,Ar _,inj,λy hy=>?_,(λy c z=>nomatch z),hd,Gs e0.frames,.inr ⟨rfl,rfl⟩,λb z=>absurd z (no b),e0.bs,e0.bsz,λb _ _=>no b,λb z=>absurd z (no b),e0.funs,e0.frf⟩,
  rfl,e0.bare,Un.kept hk,⟨_,hns,λi y v h1 h2 h3=>?_⟩,λy c h=>?_,e0.hok.fresh (Ar _),λy c h=>(cel y c h).1,λp hp=>absurd (show p∈([]:Aa (Ad × AL)) from hp) (by simp),e0.hok.kept hk,?_⟩
 .rcases hy with hy|hy
  .exact absurd rfl (S.nocell _ (Cq hy))
  .exact has y hy
 .have h1:(ps++zZ L.scope)[i]? = Ab y:=h1
  rw[Ce] at h2;obtain⟨v',h2,e⟩:=Br.mp h2;cases e;by_cases hi:i<ps.length
  .rw[AY hi] at h1
   rw[AY (by rw[hl];exact hi)] at h2
   obtain⟨u,hu,rv⟩:=r.get h2;refine⟨u,rv,.inl ⟨S.par y (Be h1),?_⟩⟩;have one:=S.one;cases ps with
   |nil=>cases h1
   |cons p t =>
    cases t with
    |cons _ _=>simp at one
    |nil =>
     have i0:i=0:=by simpa using hi
     subst i0;cases us with
     |nil=>cases hu
     |cons u' us =>
      cases h1;cases hu;simp
  .rw[Bc (HZ hi)] at h1
   rw[Bc (by rw[hl];exact HZ hi),hl] at h2
   obtain⟨d,u,q1,q2,q3⟩:=val _ y v h1 h2;exact⟨u,q2,.inr ⟨.inr (S.fr y (Be h1)),d,q1,kc d _ q3⟩⟩
 .obtain⟨_,v,q⟩:=cel y c h
  exact⟨v,kc c v q⟩
 .show _=(ps++zZ L.scope).length
  simp[hl,len]
theorem UD {k:Aj}{fe:DE}(S:LamSc L ps)(hb:∀ (cl:Aa (An × Ad)) (pm cdv ctv:Ac) (us:Aa Ac),us.length=ps.length->IG (Ng "<lambda>" L.qual L.params L.body L.scope cl pm cdv ctv) ⟨us,[]⟩=pure (ps.zip us))
  (hbody:∀ (cl:Aa (An × Ad)) (f:Ad) (cd:Ac) (A:AF) (outer:Aa DD) (s:Af) (H:Hp) (E:XK),RoomC cm k (A.deeper (EL L.qual L.scope s.heap.objs.size f cd cl)) ->
   QE (iI cm P w K mg base (ps++zZ L.scope) L cl f cd A outer s H E) L.body fe):pM P w K mg base cm (k+1) L ps.length λcaps ds S=>fe ((ds++caps).map Ab) S:=by
 intro A outer s H us ws cv a P' α St caps ds Q E hr e0 C r rc rd rv hn af;obtain⟨cl,pm,ctv,c,oc,vs,t,o,hc,hd,ht,inj,cel,has,len,val,hna,hf⟩:=C;have af:spR K P' α (fe ((ds++caps).map Ab) St) Q E:=af;have lim:s.heap.NoLimit:=e0.mod.nolimit.keeps λb o e=>(e0.bs b o e).1;have hul:us.length=ps.length:=by rw[<- rv.length,<- rd.length];exact hn
 have hloc:∀ y∈ps.zip us,L.scope.names.lookup y.1=Ab .local:=λy hy=>S.par _ (Fa hy).1;refine PySem.W.kla_callFunE hr.depth o rfl S.co S.gen rfl ⟨c,oc,vs,t,rfl,(e0.hok c _ hc).1,hd,ht⟩ ?_;rw[hb cl pm (.ref c) ctv us hul];refine As (wpAny_newFunctionEnv S.nocell hloc (λh₁ hns hsb=>?_) S.kind);have hk₁:∀ b o,s.heap.get? b=Ab o->h₁.get? b=Ab o:=λb o e=>hsb.extBut b o (AV (Ay e)) (Ai _ e);refine⟨lim.keeps hk₁,?_⟩;show D6 _ _ (.expr L.body (EL L.qual L.scope s.heap.objs.size a (.ref c) cl)) _ _;have I:=X8 (cm:=cm) (f:=a) (cd:=.ref c) (E:=E) (tk:=s.toks+(ps.zip us).length) S hr.hd e0 inj cel has len val (by rw[<- rd.length];exact hn) rv hns hk₁
 have re:qS K P' α ((ws++cv).map Ab) ((ds++caps).map Ab):=by
  have z:=rd.append rc;refine⟨by simp[z.length,rd.length,rc.length],λi d e=>?_⟩
  rw[Ce] at e;obtain⟨d',e1,e2⟩:=Br.mp e;cases e2;obtain⟨v,h1,h2⟩:=z.get e1;exact⟨v,by rw[Ce,h1];rfl,h2⟩
 refine PySem.W.kla_codeExpr (Dp ((hbody cl a (.ref c) A outer s H E (hr.deeper _)).1 [] _ _ H Q I ⟨P',α,_,St,r,re,?_⟩) (λu s' q=>?_) λ_ _ y=>y)
 .cases z:fe ((ds++caps).map Ab) St with
  |ok d S'=>rw[z] at af;exact af
  |ex e x S'=>rw[z] at af;exact λu s' q=>mM (A:=A) rfl q λH' P1 α1 r1 e1 e2=>af H' P1 α1 r1 e1 e2
  |bad=>rw[z] at af;exact Al af
 .obtain⟨v,H',I',rv',q⟩:=q
  exact⟨v,H',I'.os,I'.bare,I'.base,I'.hok,rv',q⟩
end
open Classical in
def uQ (i:Aj)(fa:DA)(a:Ad)(cv:Aa V)(n:Aj)(G:Aa D->DF):DE:=λenv S=>match env[i]? with
 |some (Ab (.clo b vs caps))=>if b=a/\vs=cv then (fa env S).bind λds S1=>if ds.length=n then G caps ds S1 else .bad else .bad
 |_=>.bad
section
variable {X:Cx}{cm:Ap}{k n i:Aj}{x:An}{p pos:CD}{e:AE}{es:Aa AE}{fa:DA}{L:LamT}{G:Aa D->DF}{a:Ad}{cv:Aa V}
set_option tactic.hygienic true in
theorem Z8 {S:Sto}{P:Hp}{α:Aa Ad}{Ok:D->Sto->Prop}(h:qI X P α (uQ i fa a cv n G env S) Ok):∃ caps,env[i]? = Ab (Ab (.clo a cv caps))/\qI X P α ((fa env S).bind λds S1=>if ds.length=n then G caps ds S1 else .bad) Ok:=by
 unfold uQ at h
 split at h
 .rename_i b vs caps e
  obtain⟨⟨rfl,rfl⟩,h1⟩:=xD h;exact⟨caps,e,h1⟩
 .exact Al h
theorem FL {h:A8}{H:Hp}{fs:Aa Ad}(C:CloAt h H fs L a cv):PySem.W.FnAt a h:=by
 obtain⟨cl,pm,ctv,c,oc,ws,t,o,_⟩:=C;exact⟨_,_,_,_,o⟩
theorem Z9 {pins:Aa (Ad × AL)}{σ:_L.St}{H P:Hp}{α:Aa Ad}{s:Af}{Q:VK}{ws:Aa V}{ds:Aa D}{S:Sto}(LX:pM X.prog X.w X.K X.mg X.base cm k L n G)(hr:RoomC cm k X.A)(F:Fn1 X)(C:CloAt X.s₀.heap X.H₀ X.fs L a cv)
  (I:Inv X pins σ H s) (r:Rel X.K H P α S) (rc:qD X.K P α caps cv) (rp:qD X.K P α ds ws) (rv:qK ws us) (af:qP X P α (if ds.length=n then G caps ds S else .bad) Q):Ao (Aq X.prog X.w) X.A (call (.ref a) us) (EP X pins σ Q) X.xe s:=by
 obtain⟨hn,af⟩:=xD af;exact gB (λ_=>F) I af (LX X.A X.stack s H us ws cv a P α S caps ds Q _ hr I.env0 (C.at F I) r rc rp rv hn (tS af))
theorem UF {pins:Aa (Ad × AL)}{σ:_L.St}{H P:Hp}{α:Aa Ad}{s:Af}(hN:X.N[i]? = Ab x)(hv:Vis X.env.scope x)(hd:(x == ("__debug__" : An))=false)(hcd:(x == ("__classdict__" : An))=false)
  (I:Inv X pins σ H s) (re:qS X.K P α σ env) (he:env[i]? = Ab (Ab (.clo a cv caps))) (h:∀ s1,Inv X pins σ H s1->qD X.K P α caps cv->Q (.ref a) s1):Ao (Aq X.prog X.w) X.A (eval (.Name x p) X.env) Q X.xe s:=by
 obtain⟨v,e1,rp⟩:=re.2 i _ he;simp only[Rep] at rp;obtain⟨rfl,rc⟩:=rp;refine thn (eQ hN hv hd hcd pins s σ H (λv H'=>v=.ref a/\H'=H) I ⟨_,e1,rfl,rfl⟩) λu s1 ⟨v,H1,I1,rv,z1,z2⟩=>?_;subst z1;subst z2;cases (show u=AN a from rv)
 exact h s1 I1 rc
theorem ZI (LX:pM X.prog X.w X.K X.mg X.base cm k L n G)(hr:RoomC cm k X.A)(F:Fn1 X)(C:CloAt X.s₀.heap X.H₀ X.fs L a cv)(hN:X.N[i]? = Ab x)(hv:Vis X.env.scope x)(hd:(x == ("__debug__" : An))=false)(hcd:(x == ("__classdict__" : An))=false) :
  PE X (.Call (.Name x p) [] [] pos) (tD X (uQ i qC a cv n G)):=by
 intro pins s σ H Q I h;obtain⟨P,α,env,S,r,re,af⟩:=h;obtain⟨caps,e1,af⟩:=Z8 af;refine Dh (UF hN hv hd hcd I re e1 λs1 I1 rc=>?_);exact PySem.W.callWith_F0 (FL (C.at F I1)) (Z9 (us:=[]) LX hr F C I1 r rc .nil .nil af)
end
theorem nI {i:Aj}{c:Ac}(l:Aa Ac)(h:EU l):EU (l++[Dj i,Dj j,c]):=by
 fun_induction EU l with
 |case1=>simp[EU,Dj]
 |case2 _ _ _ _ _ rest ih=>simp only[Im,EU];exact ih h
 |case3=>exact Al h
set_option tactic.hygienic true in
theorem sW {pos:CD}{i:Aj}{c v:Ac}(l:Aa Ac)(h:EU l)(e:Hc pos (l++[Dj i,Dj j,c])=Ab v):Hc pos l=Ab v\/v=c:=by
 fun_induction EU l with
 |case1 =>
  simp only[DY,Hc,Dj] at e
  split at e
  .exact .inr (AQ e).symm
  .cases e
 |case2 _ _ _ _ _ rest ih =>
  simp only[Im,Hc] at e ⊢
  split at e
  .rename_i hc;rw[AA hc];exact .inl e
  .rename_i hc;rw[AD hc];exact ih h e
 |case3=>exact Al h
theorem MOk.at {K:Ah}{H P:Hp}{α:Aa Ad}{a:Ad}(e:H' a=H a):∀ {o:MO},MOk K H P α a o->MOk K H' P α a o
 |.dead,_=>trivial
 |.lst _,⟨vs,q,r⟩=>⟨vs,e.trans q,r⟩
 |.dct _,⟨vs,q,r⟩=>⟨vs,e.trans q,r⟩
 |.ins _ _,⟨dx,vs,q,r⟩=>⟨dx,vs,e.trans q,r⟩
section
variable {X:Cx}{pins:Aa (Ad × AL)}{σ : _L.St}{H P:Hp}{α : Aa Ad}{s:Af}{S:Sto}{y:An}{c T:Ad}
theorem Rel.grown {ps:A6 Ac}{ws:A6 Ac}{t:IS}{i:Aj}(r:Rel X.K H P α S)(m:Mod X.K X.mg X.base)(hy:y∈xH)(ht:Bb X.K y=Ab (c,T))(e:H T=Ab (.tbl ps))(pn:P T=none)(an:T ∉ α)(ok:EU ps.toList)
  (cd:∀ pos cv,Hc pos ps.toList=Ab cv->∃ c oc vs t,cv=.ref c/\H c=Ab (.frz oc (.frz oc (.own 0)))/\oc.data=.fields vs/\vs[1]? = Ab (.str (y ++ ".<locals>." ++ "<lambda>") t)) (hn:H c'=none) (hd:oc.data=.fields ws) (hs:ws[1]? = Ab (.str (y ++ ".<locals>." ++ "<lambda>") t)) :
  Rel X.K (upd (upd H T (.tbl (ps++#[Dj i,Dj j,.ref c']))) c' (.frz oc (.frz oc (.own 0)))) P α S:=by
 have ne:T≠c':=qM e hn;have go:∀ b u,b≠T->H b=Ab u->upd (upd H T (.tbl (ps++#[Dj i,Dj j,.ref c']))) c' (.frz oc (.frz oc (.own 0))) b=Ab u:=λb u h q=>by rw[qH (qM q hn),qH h];exact q
 have nT:∀ b∈α,b≠T:=λb h z=>an (z▸h);have nc:∀ (k:Aj) b,α[k]? = Ab b->b≠c':=λk b h z=>r.own k b h (z▸hn);have at':∀ (k:Aj) b,α[k]? = Ab b->upd (upd H T (.tbl (ps++#[Dj i,Dj j,.ref c']))) c' (.frz oc (.frz oc (.own 0))) b=H b:=λk b h=>by rw[qH (nc k b h),qH (nT b (Be h))]
 refine⟨λx hx d U hU=>?_,λb u q=>go b u (λz=>by rw[z,pn] at q;cases q) (r.sub b u q),r.len,r.nd,r.sep,λk b o h1 h2=>MOk.at (at' k b h1) (r.at' k b o h1 h2),λk b h=>by rw[at' k b h];exact r.own k b h⟩
 by_cases hT:U=T
 .subst hT
  cases m.inj x hx y hy d c U hU ht;refine⟨_,by rw[qH ne];exact qR,pn,an,?_,λpos cv q=>?_⟩
  .rw[AZ];exact nI _ ok
  .rw[AZ] at q
   rcases sW _ ok q with q|q
   .obtain⟨d,od,vs,t,a1,a2,a3⟩:=cd pos cv q
    exact⟨d,od,vs,t,a1,go d _ (λz=>by rw[z,e] at a2;cases a2) a2,a3⟩
   .exact⟨c',oc,ws,t,q,qR,hd,hs⟩
 .obtain⟨qs,e1,p1,a1,ok1,cd1⟩:=r.tb x hx d U hU
  exact⟨qs,go U _ hT e1,p1,a1,ok1,λpos cv q=>let ⟨d,od,vs,t,b1,b2,b3⟩:=cd1 pos cv q;⟨d,od,vs,t,b1,go d _ (λz=>by rw[z,e] at b2;cases b2) b2,b3⟩⟩
theorem Inv.pinned {a:Ad}{o:AL}{h':A8}{tk:Aj}(I:Inv X pins σ H' { s with heap:=h'.push o,toks:=tk })(ha:a=h'.objs.size)(hs:s.heap.objs.size<=h'.objs.size)(I0:Inv X pins σ H s)(hn:H' a=none)(hd:∀ v,o.data≠.cell v)(hfr:o.isFreed=false:=by rfl):Inv X ((a,o)::pins) σ H' { s with heap:=h'.push o,toks:=tk }:=by
 refine I.pins_of λp hp=>?_;rcases AR.mp hp with rfl|hp
 .subst ha
  exact⟨AB _ hfr,hn,En (Aw I0.lt hs),I0.nofs hs,hd⟩
 .exact I.pin p (AC _ hp)
theorem iL {M:EM}{params:Ha}{body:AE}{scope:Bu}{lpos:CD}{cl:Aa (An × Ad)}(I:Inv X pins σ H s)(r:Rel X.K H P α S)(hy:y∈xH)(ht:Bb X.K y=Ab (c,T))(hc:X.env.code=.ref c)(hq:X.env.qual=y ++ ".<locals>.")
  (hdef:My params X.env=([],[])) (hcl:Ib scope X.env=pure cl)
  (h:∀ (a:Ad) (H':Hp) (s':Af) (pm ctv:Ac) (c':Ad) (oc:AL) (ws:A6 Ac) (t:IS),Inv X ((a,Ff "<lambda>" (y ++ ".<locals>." ++ "<lambda>") params body scope cl pm c' ctv)::pins) σ H' s'->Rel X.K H' P α S ->
   H' c'=Ab (.frz oc (.frz oc (.own 0)))->oc.data=.fields ws->ws[1]? = Ab (.str (y ++ ".<locals>." ++ "<lambda>") t)->Q (.ref a) s'):Ao M X.A (eval (.Lambda params body scope lpos) X.env) Q E s:=by
 obtain⟨ps,e,pn,an,ok,cd⟩:=r.tb y hy c T ht;have hP:s.heap.get? T=Ab (EI ps):=I.hok T _ e;have hC:Je s.heap c T:=(I.mod.code y hy c T ht).keeps I.bk;have hg:s.heap.Ns AM X.mg:=I.mod.glob.keeps I.bk;have hgP:AM≠T:=λz=>by
  obtain⟨o,es,ep,e1,d1,_⟩:=hg;rw[z,hP] at e1;cases e1;cases d1
 have hb:s.heap.BuiltinsAt X.mg T:=by
  obtain⟨bm,o,b1,b2,b3,b4,b5,b6⟩:=I.mod.bm;have b3':=I.bk _ _ b3;refine⟨bm,o,b1,b2,λz=>?_,λz=>?_,b3',b4,b5,b6⟩
  .obtain⟨o',es,ep,e1,d1,_⟩:=hg
   rw[<- z,b3'] at e1;cases e1;rw[b6] at d1;cases d1
  .rw[z,hP] at b3';cases b3';cases b4
 refine PySem.W.kla_eval hdef ?_;rw[hq];cases hf:Hc lpos ps.toList with
 |none =>
  refine PySem.W.kla_makeFunction (mg:=X.mg) hcl I.ok.glob hg hc hC hP ok hf hgP hb λc' ctv h' tk hx hge hlt hrec htb=>?_;obtain⟨c2,oc,ws,t,z,hoc,hd,hs⟩:=hrec;cases z;have hn:H c'=none:=I.hok.fresh hge;have ne:T≠c':=qM e hn;have hsz:s.heap.objs.size<=h'.objs.size:=Bh hge (CM hlt)
  let o:=Ff "<lambda>" (y ++ ".<locals>." ++ "<lambda>") params body scope cl ((X.mg "__name__").getD .none) c' ctv
  have kp:∀ b u,b≠T->s.heap.get? b=Ab u->(h'.push o).get? b=Ab u:=λb u hb q=>Ai _ (hx b u hb q);have eT:(h'.push o).get? T=Ab (EI (ps++#[Dj lpos.line,Dj lpos.col,.ref c'])):=Ai _ htb
  let H2:=upd (upd H T (.tbl (ps++#[Dj lpos.line,Dj lpos.col,.ref c']))) c' (.frz oc (.frz oc (.own 0)))
  have go:∀ b u,b≠T->H b=Ab u->H2 b=Ab u:=λb u h q=>by show upd _ _ _ b=_;rw[qH (qM q hn),qH h];exact q
  have go0:∀ b,b≠T->b≠c'->H b=none->H2 b=none:=λb h h' q=>by show upd _ _ _ b=_;rw[qH h',qH h];exact q
  have nT:∀ b,H b=none->b≠T:=λb q z=>by rw[z,e] at q;cases q
  have eH:H2 T=Ab (.tbl (ps++#[Dj lpos.line,Dj lpos.col,.ref c'])):=by show upd _ _ _ T=_;rw[qH ne];exact qR
  have un:Un X.fs [] H H2 s.heap (h'.push o):=by
   refine⟨λb u q n _ _=>kp b u (nT b n) q,λb u q n _ _=>⟨u.slots,kp b u (nT b n) q⟩,λb u q n _=>go0 b (nT b n) (AV (Aw (Ay q) hge)) n,λb u q _=>?_,λb xs q=>go b _ (λz=>by rw[z,e] at q;cases q) q,λb u xs q=>go b _ (λz=>by rw[z,e] at q;cases q) q,λb qs q=>?_⟩
   .by_cases hb:b=T
    .rw[hb];exact⟨_,eT⟩
    .exact⟨u,kp b u hb q⟩
   .by_cases hb:b=T
    .rw[hb,e] at q;cases q
     exact⟨_,by rw[hb];exact eH⟩
    .exact⟨#[],by rw[go b _ hb q];simp⟩
  have hok:HOk X.prog X.w H2 (h'.push o):=λb u q=>by
   by_cases hb:b=c'
   .have q':Ab (HO.frz oc (.frz oc (.own 0)))=Ab u:=by rw[<- q,hb];exact qR.symm
    cases q';have z:(h'.push o).get? b=Ab oc:=by rw[hb];exact Ai _ hoc
    exact⟨z,z,_,z⟩
   .by_cases hb2:b=T
    .rw[hb2,eH] at q;cases q
     rw[hb2];exact eT
    .have q':H b=Ab u:=by have q2:upd _ _ _ b=Ab u:=q;rw[qH hb,qH hb2] at q2;exact q2
     refine(I.hok b u q').stay (λd v hd q=>kp d v ?_ q) (λd q=>go d _ (λz=>by rw[z,e] at q;cases q) q) λd xs q=>go d _ (λz=>by rw[z,e] at q;cases q) q
     rcases hd with z|z
     .rw[z];exact hb2
     .intro w;rw[w,e] at z;cases z
  have I2:=I.un (t':=tk) un hok;refine h h'.objs.size H2 _ _ ctv c' oc ws t (Inv.pinned I2 rfl hsz I (go0 _ (λz=>?_) (En hlt) (I.hok.fresh hsz)) λv z=>by cases z) (r.grown I.mod hy ht e pn an ok cd hn hd hs) qR hd hs
  rw[<- z] at e;exact absurd (Aw (I.hok.lt e) hsz) (Bn _)
 |some cv =>
  obtain⟨c',oc,ws,t,rfl,a2,a3,a4⟩:=cd lpos cv hf;refine PySem.W.kla_makeFunctionHit (mg:=X.mg) hcl I.ok.glob hg hc hC hP ok hf hb λctv h' tk hk hsz=>?_;have I2:=I.kept (t':=tk) (h':=h'.push (Ff "<lambda>" (y ++ ".<locals>." ++ "<lambda>") params body scope cl ((X.mg "__name__").getD .none) c' ctv)) λb u q=>Ai _ (hk b u q);exact h h'.objs.size H _ _ ctv c' oc ws t (Inv.pinned I2 rfl hsz I (I.hok.fresh hsz) λv z=>by cases z) r a2 a3 a4
end
noncomputable def gC:Aa Aj->qE->Ak (Aa D)
 |[],_=>Ab []
 |i::r,env=>match env[i]? with
  |some (Ab d)=>(gC r env).map (d::·)
  |_=>none
set_option tactic.hygienic true in
theorem nP {K:Ah}{P:Hp}{α:Aa Ad}{σ:_L.St}(re:qS K P α σ env):∀ (cap:Aa Aj) (caps:Aa D),gC cap env=Ab caps->∃ cv,qD K P α caps cv/\cv.length=cap.length/\∀ (j i:Aj) v,cap[j]? = Ab i->cv[j]? = Ab v->σ[i]? = Ab (Ab v)
 |[],caps,h=>by cases h;exact⟨[],.nil,rfl,λj i v e=>by simp at e⟩
 |i::r,caps,h=>by
  unfold gC at h
  split at h
  .rename_i d e
   obtain⟨ds,h1,rfl⟩:=Br.mp h;obtain⟨cv,a1,a2,a3⟩:=nP re r ds h1;obtain⟨v,b1,b2⟩:=re.2 i d e;refine⟨v::cv,.cons b2 a1,by simp[a2],λj k w e1 e2=>?_⟩
   cases j with
   |zero=>cases e1;cases e2;exact b1
   |succ j=>exact a3 j k w (by simpa using e1) (by simpa using e2)
  .cases h
open Classical in
def uni (f:Ad->Aa V->Res D):Res D:=if ∀ a cv,f a cv=f 0 [] then f 0 [] else .bad
theorem KR {f:Ad->Aa V->Res D}{R:Res D}(h:∀ a cv,f a cv=R):uni f=R:=by
 unfold uni;rw[AA λa cv=>(h a cv).trans (h 0 []).symm];exact h 0 []
set_option tactic.hygienic true in
theorem KQ {f:Ad->Aa V->Res D}(h:uni f≠.bad)(a:Ad)(cv:Aa V):f a cv=uni f:=by
 unfold uni at h ⊢
 split at h
 .rename_i z;rw[AA z];exact z a cv
 .exact absurd rfl h
noncomputable def exO (nx:Ap)(R:Res D):Res D:=match nx,R with
 |true,.ex _ _ _=>.bad
 |_,R=>R
def uD (nx:Ap)(cap:Aa Aj)(n N:Aj)(fa:DA)(g:Ad->Aa V->DS):DE:=λenv S=>match gC cap env with
 |none=>.bad
 |some caps=>(fa env S).bind λds S1=>if ds.length+1=n then exO nx (uni λa cv=>qW N (g a cv) (.clo a cv caps::ds) S1) else .bad
def YE (P:A0)(w:AH)(K:Ah)(mg:An->Ak Ac)(base:A8)(cm:Ap)(k kl m:Aj)(x:An)(n N:Aj)(g:(Aa D->DF)->Ad->Aa V->DS):Prop:=
 ∃ f fd st Ns ps,ps.length=n/\Ns.length=N/\mg x=Ab (.ref f)/\Fun K x x st f fd/\wC K fd ps [] /\ FnScope Ns ps (qG st)/\∀ (L:LamT) (G:Aa D->DF) (a:Ad) (cv:Aa V),pM P w K mg base cm kl L m G ->
  ∀ (cdv:Ac) (A:AF) (outer:Aa DD) (s:Af) (H:Hp) (E:XK),CloAt s.heap H (frs outer) L a cv->RoomC cm k (A.deeper (CY x (qG st) s.heap.objs.size f cdv))->QB (cxC cm P w K mg base Ns x (qG st) f cdv A outer s H E) (zB st) (g G a cv)
noncomputable def k8 (scX:Bu)(NX:Aa An)(sc:Bu)(cap:Aa Aj):Ap:=decide ((zZ sc).length=cap.length)&&(cap.zip (zZ sc)).all λp=>NX[p.1]? == Ab p.2&&(scX.names.lookup p.2 == Ab .cell||scX.names.lookup p.2 == Ab .free)
section
variable {X:Cx}{pins:Aa (Ad × AL)}{σ : _L.St}{H P:Hp}{α : Aa Ad}{s:Af}{S:Sto}{y x:An}{c T:Ad}{params:Ha}{body:AE}{scope:Bu}{lpos p pos:CD}{es:Aa AE}{fa:DA}{nx cm:Ap}{k kl m n N:Aj}{cap:Aa Aj}{G:Aa D->DF}{g:(Aa D->DF)->Ad->Aa V->DS}
theorem VT {R:Res D}{Ok:D->Sto->Prop}(h:qI X P α (exO nx R) Ok):R≠.bad/\qI X P α R Ok/\((∃ c x S',R=.ex c x S')->nx=false):=by
 cases R with
 |ok d S'=>exact⟨nofun,by cases nx <;> exact h,λ⟨_,_,_,z⟩=>nomatch z⟩
 |bad=>cases nx <;> exact Al h
 |ex c x S' =>
  cases nx with
  |true=>exact Al h
  |false=>exact⟨nofun,h,λ_=>rfl⟩
theorem Rel.know {K:Ah}(r:Rel K H P α S)(h:H c'=Ab (.frz oc (.frz oc (.own 0)))):Rel K H (upd P c' (.frz oc (.frz oc (.own 0)))) α S/\qF P (upd P c' (.frz oc (.frz oc (.own 0)))):=by
 have sP:qF P (upd P c' (.frz oc (.frz oc (.own 0)))):=λb u q=>by
  by_cases hb:b=c'
  .have z:=r.sub b u q
   rw[hb,h] at z;cases z;rw[hb];exact qR
  .rw[qH hb];exact q
 refine⟨⟨λx hx d T hT=>let ⟨ps,e,pn,an,ok,cd⟩:=r.tb x hx d T hT;⟨ps,e,(qH λ(z:T=c')=>by rw[z,h] at e;cases e).trans pn,an,ok,cd⟩,λb u q=>?_,r.len,r.nd,λi a o h1 h2 h3=>?_,λi a o h1 h2=>(r.at' i a o h1 h2).mono sP (A3 _),r.own⟩,sP⟩
 .by_cases hb:b=c'
  .rw[hb,qR] at q;cases q;rw[hb];exact h
  .rw[qH hb] at q;exact r.sub b u q
 .have hb:a≠c':=by
   rintro rfl;have z:=r.at' i a o h1 h2;cases o with
   |dead=>exact h3 rfl
   |lst ds=>obtain⟨vs,z,_⟩:=z;rw[h] at z;cases z
   |dct kvs=>obtain⟨vs,z,_⟩:=z;rw[h] at z;cases z
   |ins C fs=>obtain⟨dx,vs,z,_⟩:=z;rw[h] at z;cases z
  rw[qH hb];exact r.sep i a o h1 h2 h3
theorem fD {z:An × Dz}(h:z∈sc.names)(hk:z.2=.free):z.1∈zZ sc:=Et.mpr ⟨z,h,by rw[hk];rfl⟩
set_option tactic.hygienic true in
theorem iV {z:An}(h:z∈zZ sc):(z,Dc)∈sc.names:=by
 obtain⟨⟨n,k⟩,h1,h2⟩:=Et.mp h
 split at h2
 .rename_i e
  have:k=Dc:=by simpa using e
  cases h2;subst this;exact h1
 .cases h2
theorem bG (hB:k8 X.env.scope X.N scope cap=true){j:Aj}{z:An}(h:(zZ scope)[j]? = Ab z):∃ i,cap[j]? = Ab i/\X.N[i]? = Ab z/\(X.env.scope.names.lookup z=Ab .cell\/X.env.scope.names.lookup z=Ab .free):=by
 simp only[k8,A5,AI] at hB;obtain⟨hl,ha⟩:=hB;have hj:j<cap.length:=by rw[<- hl];exact(AO.mp h).1
 have e:=Ax hj;have hz:(cap[j],z)∈cap.zip (zZ scope):=E7.mpr ⟨j,by rw[HI];exact⟨e,h⟩⟩
 have q:=AS.mp ha _ hz;simp only[A5,IL,Ia] at q;exact⟨_,e,q.1,q.2⟩
theorem iK (hB:k8 X.env.scope X.N scope cap=true)(ok:X.Ok):Ib scope X.env=pure (xM X.env.cells scope.names []):=jN λz hz hk=>by
 obtain⟨j,hj⟩:=E7.mp (fD hz hk);obtain⟨i,_,_,q⟩:=bG hB hj;exact ok.has z.1 q
theorem yY (hB:k8 X.env.scope X.N scope cap=true)(ok:X.Ok){z:An}{d:Ad}(h:(xM X.env.cells scope.names []).lookup z=Ab d):X.env.cells.lookup z=Ab d:=by
 rcases vX _ _ h with h|⟨hm,hc⟩
 .cases h
 .obtain⟨j,hj⟩:=E7.mp (fD hm rfl)
  obtain⟨i,_,_,q⟩:=bG hB hj;obtain⟨d',e⟩:=ok.has z q;rw[e,Ic] at hc;rw[e,hc]
theorem YR {a:Ad}{ws:A6 Ac}{t:IS}{pm ctv:Ac}{cv:Aa V}{s':Af}(hB:k8 X.env.scope X.N scope cap=true)(I:Inv X ((a,Ff "<lambda>" (y ++ ".<locals>." ++ "<lambda>") params body scope (xM X.env.cells scope.names []) pm c' ctv)::pins) σ H' s')
  (hc:H' c'=Ab (.frz oc (.frz oc (.own 0)))) (hd:oc.data=.fields ws) (hs:ws[1]? = Ab (.str (y ++ ".<locals>." ++ "<lambda>") t)) (hl:cv.length=cap.length) (hv:∀ (j i:Aj) v,cap[j]? = Ab i->cv[j]? = Ab v->σ[i]? = Ab (Ab v)) :
  CloAt s'.heap H' (frs X.stack) ⟨y ++ ".<locals>." ++ "<lambda>",params,body,scope⟩ a cv:=by
 obtain⟨e1,n1,n2,n3,_⟩:=I.pin _ (AC _ (.head _));refine⟨_,pm,ctv,c',oc,ws,t,e1,hc,hd,hs,λz z' d h1 h2=>I.ok.inj z z' d (yY hB I.ok h1) (yY hB I.ok h2),λz d h=>⟨I.freeC z d (yY hB I.ok h),I.cell z d (yY hB I.ok h)⟩,λz hz=>vJ _ _ (.inl (Cq hz)),?_,λj z v h1 h2=>?_,n1,λz=>?_⟩
 .simp only[k8,A5,AI] at hB
  rw[hl,<- hB.1]
 .obtain⟨i,q1,q2,q3⟩:=bG hB h1
  obtain⟨m,hm,hlk⟩:=I.loc;obtain⟨u,ru,lk⟩:=hlk i z v q2 (hv j i v q1 h2) (q3.elim (λk=>.inr (.inl k)) λk=>.inr (.inr k));rcases lk with⟨kl,_⟩|⟨_,d,hcl,hcell⟩
  .have kl':X.env.scope.names.lookup z=Ab .local:=kl
   rcases q3 with k|k <;> (rw[kl'] at k;cases k)
  .obtain⟨d',hd'⟩:=vJ (cells:=X.env.cells) scope.names [] (.inl (iV (Be h1)))
   have:=yY hB I.ok hd';rw[hcl] at this;cases this;exact⟨d,u,hd',ru,hcell⟩
 .rcases AR.mp (I.stkSub a z) with z|z
  .exact n2 z
  .exact n3 z
theorem aF (D:YE X.prog X.w X.K X.mg X.base cm k kl m x n N g)(LX:pM X.prog X.w X.K X.mg X.base cm kl ⟨y ++ ".<locals>." ++ "<lambda>",params,body,scope⟩ m G)(hr:RoomC cm (k+1) X.A)(hF:nx=false->Fn1 X)(hg:Gl X x)(hdb:(x == ("__debug__" : An))=false)
  (hy:y∈xH) (ht:Bb X.K y=Ab (c,T)) (hc:X.env.code=.ref c) (hq:X.env.qual=y ++ ".<locals>.") (hdef:My params X.env=([],[])) (hB:k8 X.env.scope X.N scope cap=true) (ha:PA X es (tDA X fa))
  (he:Av (.Lambda params body scope lpos::es) X.env=(false,eval (.Lambda params body scope lpos) X.env)::Av es X.env) (hpl:(CB pos (Av es X.env)).any (·.1)=false) :
  PE X (.Call (.Name x p) (.Lambda params body scope lpos::es) [] pos) (tD X (uD nx cap n N fa (g G))):=by
 intro pins s σ H Q I h;obtain⟨P,α,env,S,r,re,af⟩:=h;obtain⟨f,fd,st,Ns,ps,hn,hN,hm,F,hb,hS,hbody⟩:=D;subst hn;subst hN;have af:qI X P α (match gC cap env with
  |none=>.bad
  |some caps=>(fa env S).bind λds S1=>if ds.length+1=ps.length then exO nx (uni λa cv=>qW Ns.length (g G a cv) (.clo a cv caps::ds) S1) else .bad) (OkV X P α Q):=af
 cases hcap:gC cap env with
 |none=>rw[hcap] at af;exact Al af
 |some caps =>
  rw[hcap] at af;obtain⟨cv,rc,hcl,hv⟩:=nP re cap caps hcap;refine Dh (wV I hg hm ?_ hdb);refine Fi (h₀:=X.base) I.ok.mod.kin F.kp ?_ he hpl;rw[he];show Ao _ _ (spliced ((false,eval (.Lambda params body scope lpos) X.env)::CB pos (Av es X.env))) _ _ s;refine Ev (iL I r hy ht hc hq hdef (iK hB I.ok) λa H1 s1 pm ctv c' oc ws t I1 r1 hc' hd hs=>?_);obtain⟨rk,sk⟩:=Rel.know r1 hc';refine thn (xB ha I1 rk (re.mono sk (A3 _)) (qP.base sk (A3 _) af) pos) λus s2 ⟨vs,H2,P2,α2,ds,S2,I2,rv,r2,re2,rp,q1,q2,af2⟩=>⟨I2.kIn,?_⟩;obtain⟨hl,af3⟩:=xD af2;obtain⟨nb,af4,nf⟩:=VT af3;have e1:=KQ nb a cv;rw[<- e1] at af4 nf;have C:=YR hB I2 (r2.sub _ _ (q1 _ _ qR)) hd hs hcl hv;have I3:Inv X pins σ H2 s2:=I2.pins_of λp hp=>I2.pin p (AC _ (Ba _ hp));obtain⟨oc',od,kV,doc,pm',an,cdv,ct,osl,rfl,lk,hcd⟩:=F.ex;have hz:(AN a::us).length=ps.length:=by rw[<- hl,rp.length,rv.length];rfl
  have hb':=hb s2 (.ref a::us) I2.kIn (by rw[CG];exact hz)
  rw[CG] at hb';have rc2:=qD.mono (sk.trans q1) q2 _ _ rc;have af5:=qP.base q1 q2 af4;have rv2:qK (V.ref a::vs) (AN a::us):=.cons rfl rv;exact gB (λz=>hF (nf z)) I3 af5 (rP lk hcd hS (by rw[<- hz];exact rv2.length) hr I3.env0 hb' rv2 (mB (hbody _ G a cv LX cdv X.A X.stack s2 H2 _ C (hr.deeper _)).1 r2 (.cons (by simp only[Rep];exact⟨trivial,rc2⟩) rp) (tS af5)))
end
section
variable {X:Cx}{pins:Aa (Ad × AL)}{σ : _L.St}{H P:Hp}{α : Aa Ad}{s:Af}{S:Sto}
noncomputable def uU:DF:=λds S=>match ds with
 |[d,.tup [.ty b,.ty c]]=>if v9 b=true/\v9 c=true then match tyD d S with
   |some a=>.ok (.bl (xG a b||xG a c)) S
   |none=>.bad
  else .bad
 |_=>.bad
inductive KitAt (X:Cx)(u:Ac)(t:Ac)(h:A8):Prop
 |mk (Hh:A8->Prop) (Z:PySem.W.KitX X.K u t Hh) (p:Hh h) (ne:u≠.builtin "__main__.__loader__#opaque"):KitAt X u t h
theorem UB {v:V}{u:Ac}{d:D}{a:Bg}(I:Inv X pins σ H s)(r:Rel X.K H P α S)(q:qJ v u)(p:Rep X.K P α d v)(ha:tyD d S=Ab a):KitAt X u (.type a) s.heap:=by
 cases QZ r p ha with
 |tup p' ws e sq ea =>
  subst e ea;cases (show u=AN p' from q)
  obtain⟨its,rv',⟨o,h1,h2,_⟩,_⟩:=I.tuple sq;exact⟨_,Fh,⟨o,h1,h2⟩,λz=>nomatch z⟩
 |lst p' ws e sq ea =>
  subst e ea;cases (show u=AN p' from q)
  obtain⟨its,rv',⟨o,_,h1,h2,_⟩,_⟩:=I.list sq;exact⟨_,Ea,⟨o,h1,h2⟩,λz=>nomatch z⟩
 |of ty =>
  cases ty with
  |non=>cases (show u=Bk from q);exact⟨_,Lv,D5,λz=>nomatch z⟩
  |bl y=>cases (show u=CP y from q);exact⟨_,Lx,D5,λz=>nomatch z⟩
  |int i=>obtain⟨t,q⟩:=(show ∃ t,u=DZ i t from q);cases q;exact⟨_,LJ,D5,λz=>nomatch z⟩
  |str y=>obtain⟨t,q⟩:=(show ∃ t,u=IR y t from q);cases q;exact⟨_,LK,D5,λz=>nomatch z⟩
  |flt y=>cases d <;> first|(exact nn ha)|(simp only[Rep] at p;cases p;done)|(simp only[Rep] at p;obtain⟨_,p⟩:=p;cases p.1;done)|(simp only[Rep] at p;obtain⟨_,_,p⟩:=p;cases p.1;done)
  |@lst b xs ea =>
   cases (show u=AN b from q)
   obtain⟨_,_,n,_,h1⟩:=(show qY X.prog X.w H s.heap b (.lst xs) from I.hok b _ ea)
   exact⟨_,Ea,⟨_,h1,rfl⟩,λz=>nomatch z⟩
  |@frz b ob xs ea =>
   cases (show u=AN b from q)
   obtain⟨_,_,_,n,_,h1⟩:=(show qY X.prog X.w H s.heap b (.frz ob (.lst xs)) from I.hok b _ ea)
   exact⟨_,Ea,⟨_,h1,rfl⟩,λz=>nomatch z⟩
  |@tup b xs ea =>
   cases (show u=AN b from q)
   obtain⟨_,_,_,p⟩:=(show qY X.prog X.w H s.heap b (.tup xs) from I.hok b _ ea)
   obtain⟨o,h1,h2,_⟩:=p;exact⟨_,Fh,⟨o,h1,h2⟩,λz=>nomatch z⟩
  |@dK b kvs ea =>
   cases (show u=AN b from q)
   obtain⟨_,_,vs,_,p⟩:=(show qY X.prog X.w H s.heap b (.dK kvs) from I.hok b _ ea)
   obtain⟨o,es,ep,h1,h2,_⟩:=p;exact⟨_,Fu,⟨o,h1,h2.1⟩,λz=>nomatch z⟩
  |@dT b kvs ea =>
   cases (show u=AN b from q)
   obtain⟨_,_,xs,_,o,es,ep,h1,h2,_⟩:=(show qY X.prog X.w H s.heap b (.dT kvs) from I.hok b _ ea)
   exact⟨_,Fu,⟨o,h1,h2.1⟩,λz=>nomatch z⟩
set_option tactic.hygienic true in
theorem iD {ds:Aa D}{Ok:D->Sto->Prop}(h:qI X P α (uU ds S) Ok):∃ d b c a,ds=[d,.tup [.ty b,.ty c]]/\v9 b=true/\v9 c=true/\tyD d S=Ab a/\Ok (.bl (xG a b||xG a c)) S:=by
 unfold uU at h
 split at h
 .rename_i d b c
  obtain⟨⟨h1,h2⟩,h⟩:=xD h
  split at h
  .rename_i a ha
   exact⟨d,b,c,a,rfl,h1,h2,ha,h⟩
  .exact Al h
 .exact Al h
theorem Z6:xS X (.builtin "isinstance") uU:=by
 intro pins σ H s P α S vs us ds Q I r rv rp af;obtain⟨d,b,c,a,rfl,hb,hc,ha,ok⟩:=iD af;obtain⟨v,w,u,x,rfl,rfl,p,p',q,q'⟩:=kR rp rv;simp only[Rep] at p';obtain⟨tp,ws,rfl,sq,t⟩:=p';obtain⟨w1,ws1,rfl,z1,t⟩:=t.cons_inv;obtain⟨w2,ws2,rfl,z2,t⟩:=t.cons_inv;cases t.nil_inv;simp only[Rep] at z1 z2;subst z1 z2;cases (show x=AN tp from q')
 obtain⟨its,rvi,⟨o,h1,h2,n,h3⟩,_⟩:=I.tuple (xF r.sub sq);obtain⟨i1,i2,rfl,y1,y2⟩:=pH rvi;cases (show i1=DR b from y1)
 cases (show i2=DR c from y2)
 obtain⟨Hh,Z,hp,ne⟩:=UB I r q p ha;obtain⟨oc,od,odt,osl⟩:=o;cases h2;cases h3;have k1:=bF (K:=X.K) (tW ha) hb;have k2:=bF (K:=X.K) (tW ha) hc;refine PySem.W.kia_tup (its:=[.type b,.type c]) (b:=xG a b||xG a c) Z I.kIn hp h1 ?_ ne λtk=>⟨.bl _,H,I.tok tk,rfl,xr ok r (by simp only[Rep])⟩
 cases z:xG a b with
 |true=>rw[z] at k1;simp only[Jj,k1];rfl
 |false =>
  rw[z] at k1;cases z':xG a c with
  |true=>rw[z'] at k2;simp only[Jj,k1,k2];rfl
  |false=>rw[z'] at k2;simp only[Jj,k1,k2];rfl
end
noncomputable def okV (X:Cx)(i:Aj)(x:An):Ap:=decide (X.N[i]? = Ab x)&&(isV (X.env.scope.names.lookup x)&&okN x)
noncomputable def k9 (fe:DE):Aa D->DF:=λcaps ds S=>fe ((ds++caps).map Ab) S
noncomputable def iJ (sc:Bu)(ps:Aa An):Ap:=decide (sc.kind=.function)&&(decide (sc.isCoroutine=false)&&(decide (sc.isGenerator=false)&&(decide (∀ y∈sc.names,y.2≠.cell)&&(decide (∀ x∈ps,sc.names.lookup x=Ab .local)&&decide (∀ x∈zZ sc,sc.names.lookup x=Ab .free)))))
structure LmX (G:Aa D->DF)(P:A0)(w:AH)(K:Ah)(mg:An->Ak Ac)(base:A8)(cm:Ap)(k:Aj)(L:LamT)(n:Aj):Prop where
 get:pM P w K mg base cm k L n G
structure DfL (g:(Aa D->DF)->Ad->Aa V->DS)(P:A0)(w:AH)(K:Ah)(mg:An->Ak Ac)(base:A8)(cm:Ap)(k kl m:Aj)(x:An)(n N:Aj):Prop where
 get:YE P w K mg base cm k kl m x n N g
structure ClA (X:Cx)(L:LamT)(a:Ad)(cv:Aa V):Prop where
 get:CloAt X.s₀.heap X.H₀ X.fs L a cv
structure LmK (X:Cx)(y:An):Prop where
 get:y∈xH/\uL X.K y X.env.code/\X.env.qual=y ++ ".<locals>." /\ ∃ c T,Bb X.K y=Ab (c,T)
section
variable {X:Cx}{cm nx:Ap}{k kl m n N i:Aj}{x y:An}{p pos lpos:CD}{e:AE}{es:Aa AE}{fA:DA}{fe:DE}{L:LamT}{G:Aa D->DF}{a:Ad}{cv:Aa V}{g:(Aa D->DF)->Ad->Aa V->DS}{Fs:FnL}{cap:Aa Aj}{params:Ha}{body:AE}{scope:Bu}
theorem UW (h:Ck (okV X i x)):X.N[i]? = Ab x/\Vis X.env.scope x/\(x == ("__debug__" : An))=false/\(x == ("__classdict__" : An))=false:=by
 unfold Ck okV at h;simp only[A5,AI] at h;exact⟨h.1,l7 h.2.1,(uG h.2.2).1,(uG h.2.2).2.1⟩
theorem aK0 (LX:LmX G X.prog X.w X.K X.mg X.base cm k L n)(C:ClA X L a cv)(hr:RoomC cm k X.A)(F:Fn1 X)(h:Ck (okV X i x)):QE X (.Call (.Name x p) [] [] pos) (uQ i qC a cv n G):=
 have h:=UW h
 ⟨ZI LX.1 hr F C.1 h.1 h.2.1 h.2.2.1 h.2.2.2⟩
theorem FW {ps:Aa An}{q:An}(h:Ck (iJ scope ps))(one:ps.length<=1):LamSc ⟨q,params,body,scope⟩ ps:=by
 unfold Ck at h;simp only[iJ,A5,AI] at h;obtain⟨a,b,c,d,e,f⟩:=h;exact⟨a,b,c,d,e,one,f⟩
theorem FA (D:DfL g X.prog X.w X.K X.mg X.base cm k (kl+1) 0 x n N)(M:LmK X y)(hr:RoomC cm (k+1) X.A)(hF:nx=false->Fn1 X)(h:Ck (okG X x&&k8 X.env.scope X.N scope cap))(hs:Ck (iJ scope []))(hdef:My params X.env=([],[]))
  (hb:∀ (q:An) (b:AE) (cl:Aa (An × Ad)) (pm cdv ctv:Ac),IG (Ng "<lambda>" q params b scope cl pm cdv ctv) ⟨[],[]⟩ = pure [])
  (hbody:∀ (cl:Aa (An × Ad)) (f:Ad) (cd:Ac) (A:AF) (outer:Aa DD) (s:Af) (H:Hp) (E:XK),RoomC cm kl (A.deeper (EL (y ++ ".<locals>." ++ "<lambda>") scope s.heap.objs.size f cd cl)) ->
   QE (iI cm X.prog X.w X.K X.mg X.base ([] ++ zZ scope) ⟨y ++ ".<locals>." ++ "<lambda>",params,body,scope⟩ cl f cd A outer s H E) body fe)
  (ha:QA X es fA) (s:St1 X (.Lambda params body scope lpos) es pos):QE X (.Call (.Name x p) (.Lambda params body scope lpos::es) [] pos) (uD nx cap n N fA (g (k9 fe))):=by
 unfold Ck at h;rw[A5] at h;obtain⟨m1,m2,m3,c,T,m4⟩:=M.1;have hg:=xE h.1;exact⟨aF D.1 (UD (ps:=[]) (FW hs (by decide)) (λcl pm cdv ctv us hl=>by cases us with|nil=>exact hb _ _ _ _ _ _|cons _ _=>cases hl) hbody) hr hF hg.1 hg.2.1 m1 m4 (m2 c T m4) m3 hdef h.2 ha.1 s.1 s.2⟩
theorem ClA.tr {pn:Aa (Ad × AL)}(h:ClA X L a cv):ClA (Cx.tryIn X E pn) L a cv:=⟨h.1⟩
theorem lmK {ls:Aa An}(h:(ls.all λy=>(Bb X.K y).isSome)=true)(hc:uL X.K y X.env.code)(hy:Ck (ls.contains y&&xH.contains y))(hq:X.env.qual=y ++ ".<locals>."):LmK X y:=by
 unfold Ck at hy;rw[A5] at hy;obtain⟨⟨c,T⟩,e⟩:=Ef.mp (AS.mp h y (by simpa using hy.1))
 exact⟨by simpa using hy.2,hc,hq,c,T,e⟩
theorem cL:ZCall X (.builtin "isinstance") uU:=⟨Z6⟩
end
section
variable {P:A0}{w:AH}{K:Ah}{mg:An->Ak Ac}{base:A8}{cm:Ap}{tp:Aj->Ca}{tab:Aa (An × Aj × Aa An)}{bl:Aa An}{clt plt:Aa (An × Ad)}{cs:Aa Ac}{exl:Aa Ad}{cst:Aa (An × Am)}{x:An}{i:Aj}{ps:Aa An}{N:Aj}
theorem dqL {g:(Aa D->DF)->Ad->Aa V->DS}(P:A0)(w:AH)(base:A8)(k kl m j:Aj)(T:TxS K mg tp tab bl clt plt cs exl cst)(hj:tab[j]? = Ab (x,i,ps))(h:Ck (fnB (vZ (qG (tp i))) ps (qG (tp i))&&decide ((vZ (qG (tp i))).length=N)))
  (hb:∀ (L:LamT) (G:Aa D->DF) (a:Ad) (cv:Aa V),LmX G P w K mg base cm kl L m->∀ (f:Ad) (cdv:Ac) (A:AF) (outer:Aa DD) (s:Af) (H:Hp) (E:XK),ClA (cxC cm P w K mg base (vZ (qG (tp i))) x (qG (tp i)) f cdv A outer s H E) L a cv->RoomC cm k (A.deeper (CY x (qG (tp i)) s.heap.objs.size f cdv)) ->
   QB (cxC cm P w K mg base (vZ (qG (tp i))) x (qG (tp i)) f cdv A outer s H E) (zB (tp i)) (g G a cv)):DfL g P w K mg base cm k kl m x ps.length N:=by
 unfold Ck at h;simp only[A5,AI] at h;obtain⟨h,rfl⟩:=h;obtain⟨f,fd,hm,F,hbd⟩:=T.src j hj;exact⟨f,fd,tp i,_,ps,rfl,rfl,hm,F,hbd,mZ h,λL G a cv LX cdv A outer s H E C hr=>hb L G a cv ⟨LX⟩ f cdv A outer s H E ⟨C⟩ hr⟩
end
noncomputable def ME:D->Sto->Ak (Aa D)
 |.lst xs,_=>Ab xs
 |.tup xs,_=>Ab xs
 |.loc n,S=>match S[n]? with
  |some (.lst xs)=>Ab xs
  |_=>none
 |_,_=>none
section
variable {prog:A0}{w:AH}{A:AF}{E:Ac->Af->Prop}{s:Af}{r:Ad}{a b c:Am}{t u v:IS}{n:Aj}
theorem nB {Q:Aa Ac->Af->Prop}(hh:A.handled=none)(hr:NA s.heap r a b c t u v)(hs:Hr a b c=true)(hn:D4 a b c=↑n)(hl:n<=2 ^ 24)
  (h:∀ (h':A8) (tk:Aj) (acc:A6 Ac),(∀ b o,s.heap.get? b=Ab o->h'.get? b=Ab o)->NB (λi v=>∃ t,v=DZ (a+↑i*c) t) acc n->Q acc.toList { s with heap:=h',toks:=tk }) : Ao (Aq prog w) A (collect (.ref r)) Q E s:=by
 unfold collect;refine Ag (wpAny_runValue (IK PySem.F.entry_proto_collect ?_));rw[Js PySem.F.plain_proto_collect _];show Ao _ A.in1 (newList [] >>= λl=>again (.builtin "list.__iadd__" ⟨[l,.ref r],[]⟩)) _ _ s;refine Ag (Dn (As ⟨plainId_quiet Ix _,IK PySem.F.entry_list_iadd ?_⟩));rw[Js Ix _];have hD:(s.heap.push { cls:=.type "list",data:=.seq ([] : Aa Ac).toArray }).get? s.heap.objs.size=Ab { cls:=.type "list",data:=.seq #[] }:=AB _ rfl;have hr1:NA (s.heap.push { cls:=.type "list",data:=.seq ([] : Aa Ac).toArray }) r a b c t u v:=Ai _ hr;show Ao _ A.in1 (Nh (.ref s.heap.objs.size) (.ref r) (.ref s.heap.objs.size)) _ _ _;refine wpAny_extend_range (R:=λr s'=>match r with
  |.ok (.ret v)=>Ao (Aq prog w) A (match v with
   |.ref a=>do
    let o <- load a
    match o.data with
    |.seq xs epoch=>pure xs.toList
    |x=>unsupported "internal:collect"
   |x=>unsupported "internal:collect") Q E s'
  |.ok _=>Cp
  |.error e=>E e s') (s:={ s with heap:=s.heap.push { cls:=.type "list",data:=.seq ([] : Aa Ac).toArray } }) hh hr1 hs hn hl s.heap.objs.size _ _ hD λh' tk acc c' kp hS hacc=>?_
 show Ao _ A (load s.heap.objs.size >>= _) _ _ _;refine Ag (wpAny_load hS (As ?_));exact h h' tk acc (λb o q=>kp b o (AV (Ay q)) (Ai _ q)) hacc
theorem nJ (r:Ad)(a b c:Am)(t u v:IS)(n:Aj)(hs:Hr a b c=true)(hn:D4 a b c=↑n)(hl:n<=2 ^ 24) :
  Meets (EH.«tuple.__new__» ⟨[.type "tuple",.ref r],[]⟩) (λA R s=>A.handled=none/\NA s.heap r a b c t u v/\∀ (h':A8) (tk:Aj) (acc:A6 Ac),(∀ b o,s.heap.get? b=Ab o->h'.get? b=Ab o)->NB (λi v=>∃ t,v=DZ (a+↑i*c) t) acc n->R (.ok (.ret (.ref h'.objs.size))) { s with heap:=h'.push { cls:=.type "tuple",data:=.seq acc },toks:=tk }):=
 .of_wp λprog w A R s h=>by
  obtain⟨hh,hr,h⟩:=h;have hsub:=Gu.sub;have hi:=Gu.init.lookup;have hm:=madeHere_tuple;unfold EH.«tuple.__new__»;dsimp only;generalize hg:PySem.collect (AN r)=cc
  wp_walk
  rw[<- hg];refine nB (s:=⟨s.heap,s.gens,s.drawn,s.toks,s.os⟩) hh hr hs hn hl λh' tk acc kp hacc=>?_;rw[Gv]
  wp_walk
  rw[AD (by rw[hacc.1,Ch];omega)]
  wp_walk
  exact⟨_,rfl,h h' tk acc kp hacc⟩
theorem pS (hh:A.handled=none)(hr:NA s.heap r a b c t u v)(hs:Hr a b c=true)(hn:D4 a b c=↑n)(hl:n<=2 ^ 24)
  (h:∀ (h':A8) (tk:Aj) (acc:A6 Ac),(∀ b o,s.heap.get? b=Ab o->h'.get? b=Ab o)->NB (λi v=>∃ t,v=DZ (a+↑i*c) t) acc n->Q (.ref h'.objs.size) { s with heap:=h'.push { cls:=.type "tuple",data:=.seq acc },toks:=tk }) : Ao (Aq prog w) A (call (.type "tuple") [.ref r]) Q E s:=
 Ll Gu (by decide) (PySem.F.typeCall_tuple_1 _) (PySem.F.newCall_tuple_1 _) (λobj=>PySem.F.args_object_init_2 obj _) PySem.F.entry_tuple_new (nJ r a b c t u v n hs hn hl) ⟨hh,hr,λh' tk acc kp hacc=>⟨⟨_,AB _ rfl,rfl⟩,h h' tk acc kp hacc⟩⟩
end
noncomputable def rsN:Ap->Bg
 |true => "tuple"
 |false => "list"
noncomputable def rsD:Ap->Aa D->D
 |true,l=>.tup l
 |false,l=>.lst l
noncomputable def fS (tp:Ap)(f:DA):DE:=λenv S=>(f env S).bind λds S1=>match vB ds with
 |some its=>if its.length<=lim then .ok (rsD tp its) S1 else .bad
 |none=>.bad
theorem n8 {acc:A6 Ac}{lo:Am}{n:Aj}(h:NB (λi v=>∃ t,v=DZ (lo+↑i*1) t) acc n):qK ((CJ n).map λ(i:Aj)=>V.int (lo+i)) acc.toList:=by
 have key:∀ (m:Aj) (l:Aa Ac) (k:Aj),l.length=m->(∀ j v,l[j]? = Ab v->∃ t,v=DZ (lo+((j+k:Aj):Am)*1) t)->qK ((List.range' k m).map λ(i:Aj)=>V.int (lo+i)) l:=by
  intro m
  induction m with
  |zero=>intro l k hl _;rw[Hf hl];exact .nil
  |succ m ih =>
   intro l k hl hv;cases l with
   |nil=>cases hl
   |cons v l =>
    obtain⟨t,rfl⟩:=hv 0 v rfl;rw[List.range'_succ,Cf];refine .cons ⟨t,by rw[NT,DW]⟩ (ih l (k+1) (NH hl) λj v e=>?_)
    obtain⟨t,rfl⟩:=hv (j+1) v e;exact⟨t,by rw[show j+1+k=j+(k+1) by omega]⟩
 rw[List.range_eq_range'];exact key n acc.toList 0 (by rw[AJ];exact h.1) λj v e=>h.2 j v (by rwa [Bx] at e)
theorem tN {K:Ah}{P:Hp}{α:Aa Ad}(lo:Am)(n:Aj):qD K P α (zU lo n) ((CJ n).map λ(i:Aj)=>V.int (lo+i)):=by
 unfold zU;generalize CJ n=l
 induction l with
 |nil=>exact .nil
 |cons i l ih=>exact .cons (by simp only[Rep]) ih
section
variable {X:Cx}{e:AE}{es:Aa AE}{f:DA}{p p0 pos pos0:CD}
theorem lN {tp:Ap}{pins:Aa (Ad × AL)}{σ:_L.St}{H P:Hp}{α:Aa Ad}{S:Sto}{s:Af}{Q:VK}{lo hi:Am}{t u v:IS}{tk:Aj}(hc:X.calm=true)(I:Inv X pins σ H s)(r:Rel X.K H P α S)(h1 : -(2 ^ 62)<=lo)(h2:lo<2 ^ 62)(h3 : -(2 ^ 62)<=hi)(h4:hi<2 ^ 62)
  (hl:(hi-lo).toNat<=lim) (af:OkV X P α Q (rsD tp (zU lo (hi-lo).toNat)) S) :
  Ao (Aq X.prog X.w) X.A (call (.type (rsN tp)) [.ref s.heap.objs.size]) (EP X pins σ Q) X.xe { s with heap:=s.heap.push { cls:=.type "range",data:=.fields #[.int lo t,.int hi u,.int 1 v] },toks:=tk }:=by
 have hz:D4 lo hi 1=(((hi-lo).toNat:Aj):Am):=by rw[rangeSize_one];split <;> omega
 have hm:(hi-lo).toNat<=2 ^ 24:=by unfold lim at hl;omega
 have I1:Inv X pins σ H { s with heap:=s.heap.push { cls:=.type "range",data:=.fields #[.int lo t,.int hi u,.int 1 v] },toks:=tk }:=I.kept λb o e=>Ai _ e
 cases tp with
 |true =>
  refine pS (I1.ok.hd hc) (LG ..) (Nn h1 h2 h3 h4) hz hm λh' tk' acc kp hacc=>?_;have I2:Inv X pins σ H { s with heap:=h',toks:=tk' }:=I1.kept (t':=tk') kp
  have hr:=n8 hacc;have I3:=I2.laid (t':=tk') (h':=h'.push { cls:=.type "tuple",data:=.seq acc }) (a:=h'.objs.size) (λb o e=>Ai _ e) (Ar _) (show qY X.prog X.w _ _ _ (.tup _) from⟨by rw[Az,Ed,Ch];omega,acc.toList,hr,by rw[Gv];exact Np _ _⟩)
  exact⟨.ref h'.objs.size,_,I3,rfl,jD r (I2.hok.fresh (Ar _)) (tN lo _) af⟩
 |false =>
  refine call_list_range (I1.ok.hd hc) (LG ..) (Nn h1 h2 h3 h4) hz hm λh' tk' acc c' kp hS hacc=>?_;have hr:=n8 hacc;have I3:=I1.laid (t':=tk') (h':=h') kp (Ar _) (show qY X.prog X.w _ _ _ (.lst _) from⟨by rw[Az,Ed,Ch];omega,acc.toList,c',hr,by rw[Gv];exact hS⟩)
  exact⟨.ref _,_,I3,rfl,xR r (I1.hok.fresh (Ar _)) (tN lo _) af⟩
theorem ZM {tp:Ap}{T:An}(hc:X.calm=true)(hT:Cw T=Ab (.type (rsN tp)))(hn:T≠("__name__" : An))(hd:(T == ("__debug__" : An))=false)(hg0:Gl X T)(hm0:X.mg T=none)(hg:Gl X "range")(hm:X.mg "range" = none)(ha:PA X (e::es) (tDA X f))(hs:Av (e::es) X.env=(false,eval e X.env)::Av es X.env:=by rfl)(hpl:(CB pos (Av es X.env)).any (·.1)=false:=by rfl) :
  PE X (.Call (.Name T p0) [.Call (.Name "range" p) (e::es) [] pos] [] pos0) (tD X (fS tp f)):=by
 intro pins s σ H Q I h;obtain⟨P,α,env,S,r,re,af⟩:=h;refine Nq (xX I hg0 hm0 hT (Cn ?_ rfl rfl) hn hd);refine Ev ?_;refine Nq (xX I hg hm boot_range (Cn (thn (xB ha I r re af pos) λus s1 ⟨vs,H1,P1,α1,ds,S1,I1,rv,r1,re1,rp,e1,e2,af1⟩=>?_) hs hpl));cases hi:vB ds with
 |none=>rw[hi] at af1;exact Al af1
 |some its =>
  rw[hi] at af1;obtain⟨hl,af2⟩:=xD af1;have af3:OkV X P1 α1 Q _ S1:=λv H' P' α' r' s' p' q'=>af2 v H' P' α' r' (e1.trans s') (e2.trans p') q';cases lO hi with
  |one j c =>
   obtain⟨ws,rfl,t1⟩:=yO rp;cases t1.nil_inv;obtain⟨u,rfl,t,rfl⟩:=vV rv;rw[wK] at hl;exact call_range_1 (E5 (lN (lo:=0) hc I1 r1 om om c.1 c.2 (by rw[Lc];exact hl) (by rw[Lc];exact af3)))
  |two i j c =>
   obtain⟨ws,rfl,t1⟩:=yO rp;obtain⟨ws2,rfl,t2⟩:=yO t1;cases t2.nil_inv;obtain⟨u,u',rfl,⟨t,rfl⟩,t',rfl⟩:=pH rv;rw[wK] at hl;exact call_range_2 (E5 (lN hc I1 r1 c.1 c.2.1 c.2.2.1 c.2.2.2 hl af3))
theorem WK (hc:X.calm=true)(hg0:Gl X "list")(hm0:X.mg "list" = none)(hg:Gl X "range")(hm:X.mg "range" = none)(ha:QA X (e::es) f)(hs:Av (e::es) X.env=(false,eval e X.env)::Av es X.env:=by rfl)(hpl:(CB pos (Av es X.env)).any (·.1)=false:=by rfl) :
  QE X (.Call (.Name "list" p0) [.Call (.Name "range" p) (e::es) [] pos] [] pos0) (fS false f):=⟨ZM hc r8 (by decide +kernel) (by decide +kernel) hg0 hm0 hg hm ha.1 hs hpl⟩
end
noncomputable def dY (d:D)(S:Sto):Ak (Aa D):=match d with
 |.tup _=>none
 |d=>ME d S
noncomputable def yS (f:DE):DE:=λenv S=>(f env S).bind λd S1=>match (dY d S1).bind xZ with
 |some ns=>if ns.length<4000 then .ok (.int (dJ ns)) S1 else .bad
 |none=>.bad
section
variable {X:Cx}{e:AE}{fa:DE}{p1 p2 pos1 pos2:CD}
set_option tactic.hygienic true in
theorem XS {pins:Aa (Ad × AL)}{σ:_L.St}{H P:Hp}{α:Aa Ad}{S:Sto}{s:Af}{d:D}{xs:Aa D}{v:V}{vv:Ac}(I:Inv X pins σ H s)(r:Rel X.K H P α S)(p:Rep X.K P α d v)(q:qJ v vv)(h:dY d S=Ab xs) :
  ∃ a vs its,vv=.ref a/\qD X.K P α xs vs/\qK vs its/\s.heap.IsList a its.toArray:=by
 cases d with
 |lst ys =>
  cases h;obtain⟨a,vs,its,n,rfl,_,t,rv,e,l,_⟩:=v3 I r p;exact⟨a,vs,its,q,t,rv,⟨_,e,rfl,n,rfl⟩⟩
 |loc n =>
  have hS:S[n]? = Ab (.lst xs):=by
   have h:(match S[n]? with|some (.lst xs)=>Ab xs|_=>none)=Ab xs:=h
   split at h
   .rename_i e;cases h;exact e
   .cases h
  simp only[Rep] at p;obtain⟨a,rfl,ha⟩:=p;cases (show vv=AN a from q)
  obtain⟨vs,z,t⟩:=r.at' n a _ ha hS;obtain⟨its,rv,p,hz⟩:=I.list (SqL.of z);exact⟨a,vs,its,rfl,t,rv,p.isList⟩
 |_=>cases h
theorem dI (hc:X.calm=true)(hg:Gl X "len")(hm:X.mg "len" = none)(hg2:Gl X "set")(hm2:X.mg "set" = none)(ha:PE X e (tD X fa))(he:Av [e] X.env=(false,eval e X.env)::Av [] X.env:=by rfl) :
  PE X (.Call (.Name "len" p1) [.Call (.Name "set" p2) [e] [] pos2] [] pos1) (tD X (yS fa)):=by
 intro pins s σ H Q I h;obtain⟨P,α,env,S,r,re,af⟩:=h;refine Dh (xX I hg hm YK ?_);refine Gr ?_ rfl rfl;refine Ev ?_;refine Nq (xX I hg2 hm2 cU (Cn ?_ he rfl));rw[he];refine Ev (thn (zP ha I r re af) λvv s1 ⟨v,H1,P1,α1,d,S1,G1,af1⟩=>E5 ?_);cases hq:(dY d S1).bind xZ with
 |none=>simp only[hq] at af1;exact Al af1
 |some ns =>
  simp only[hq] at af1;obtain⟨hlt,af2⟩:=xD af1;obtain⟨xs,hd,hn⟩:=Cz.mp hq;obtain⟨a,vs,its,rfl,t1,rv1,e1⟩:=XS G1.inv G1.rel G1.rep G1.val hd;have:=uY hn;subst this;have:=vM t1;subst this;have hi:HD its ns:=by simpa using gX rv1
  have hlen:its.length=ns.length:=hi.length;have hsz:its.toArray.size=ns.length:=by rw[A9];exact hlen
  refine call_set_list (ns:=ns) (G1.inv.ok.hd hc) e1 (by simpa using hi) (by rw[hsz];have:scanBound=4096:=rfl;omega) λh' tk hS hk=>?_
  rw[hsz,jO] at hS;obtain⟨o,es,ep,t,ho,hex,hd,hel,hmem,hsb,hf,hes⟩:=hS;have I2:Inv X pins σ H1 { s1 with heap:=h',toks:=tk }:=G1.inv.kept λb u eq=>hk b u (Ay eq) eq
  have hdl:(ns.foldl Mw []).length<=ns.length:=by rw[<- jO];exact firstMet_length_le _ _
  refine E5 (call_len_set (s:={ s1 with heap:=h',toks:=tk }) ho hex hd hf (by rw[hes];omega) ?_)
  rw[hes];exact⟨.int _,H1,I2.tok _,⟨_,rfl⟩,af2 _ H1 P1 α1 G1.rel G1.same G1.pre (by simp only[Rep];rfl)⟩
theorem sG (hc:X.calm=true)(hg:Gl X "len")(hm:X.mg "len" = none)(hg2:Gl X "set")(hm2:X.mg "set" = none)(ha:QE X e fa)(he:Av [e] X.env=(false,eval e X.env)::Av [] X.env:=by rfl) :
  QE X (.Call (.Name "len" p1) [.Call (.Name "set" p2) [e] [] pos2] [] pos1) (yS fa):=⟨dI hc hg hm hg2 hm2 ha.1 he⟩
end
end _D
section
end
section
end
namespace _S
open PySem PySem.W PyProof.Rows
section
variable {prog:A0}{w:AH}{A:AF}{E:Ac->Af->Prop}{s:Af}{K:Type}{is:K->Ac->Prop}{hash:K->Am}{lt':K->K->Ap}{d:K}{Fit:K->Prop}{h0:A8}
theorem nH {Q:Ac->Af->Prop}(ord:Ord lt')(inj:∀ {k k':K} {v:Ac},is k v->is k' v->k=k')(hu:A.units+16<D3)(hS:Sup h0 s.heap){l:Ad}{vs:Aa Ac}(hl:s.heap.IsList l vs.toArray\/s.heap.IsTuple l vs.toArray)(ks:Aa K)(hlen:vs.length=ks.length)(hks:∀ i v,vs[i]? = Ab v->is (ks.getD i d) v)(hcm:2<=vs.length->Cmps prog w h0 vs (pO lt' ks d))(hoel:vs.length<=100000)
  (h:∀ (h1 h':A8) (tk:Aj) (D:Ad) (c:Aj) (ps:Aa (K × Ac)),(∀ b o,s.heap.get? b=Ab o->h1.get? b=Ab o)->(∀ b o,h1.get? b=Ab o->h'.get? b=Ab o)->h1.objs.size<=D->h'.get? D=Ab (Bt "list" (ps.map (·.2)).toArray c)->ps.map (·.1)=wA lt' ks->(∀ p∈ps,is p.1 p.2/\p.2∈vs)->ps.length=ks.length->Q (.ref D) { s with heap:=h',toks:=tk }) :
  Ao (Aq prog w) A (call (.builtin "sorted") [.ref l]) Q E s:=by
 refine HQ kind_sorted plain_sorted entry_sorted (args_sorted1 _) ?_;unfold EH.«sorted»;refine Ag (m:=checkCount "sorted" 1 1 _) (As ?_);have hcol:∀ {R:Aa Ac->Af->Prop},(∀ h1:A8,(∀ b o,s.heap.get? b=Ab o->h1.get? b=Ab o)->R vs { s with heap:=h1 }) -> Ao (Aq prog w) A.in1 (collect (.ref l)) R E s:=λ{R} hR=>by
  have e:vs.toArray.toList=vs:=by simp
  rcases hl with⟨o,ho,hc,n,hd⟩|⟨o,ho,hc,n,hd⟩
  .exact Fx l (.inl rfl) ho hc hd (λh' hk=>by rw[e];exact hR h' hk) (by rw[A9,Ch];omega)
  .exact Fx l (.inr rfl) ho hc hd (λh' hk=>by rw[e];exact hR h' hk) (by rw[A9,Ch];omega)
 refine Ag (hcol λh1 kp1=>?_);refine Ag (Kk ?_ (by rw[Ch];omega))
 have hD:(h1.push (Bt "list" vs.toArray 0)).get? h1.objs.size=Ab (Bt "list" vs.toArray 0):=AB _ rfl;have n0:h0.get? h1.objs.size=none:=by
  cases q:h0.get? h1.objs.size with
  |none=>rfl
  |some o=>exact absurd (Ay (kp1 _ _ (hS _ _ q))) (Bn _)
 show Ao _ _ _ _ _ { s with heap:=h1.push (Bt "list" vs.toArray 0),toks:=s.toks }
 refine Ag (CZ (CV slot_list_sort ⟨_,hD,rfl⟩ Mr (Q8 (h0:=h0) (is:=is) ord inj (d:=d) (vs:=vs) hlen hks hD (by show A.units+2+8<D3;omega) hoel hcm (λb o e=>Ai _ (kp1 b o (hS b o e))) n0 λps pm nf=>⟨_,rfl,?_⟩) (args_list_sort _)))
 refine As ⟨_,rfl,?_⟩;have hz:(h1.push (Bt "list" vs.toArray 0)).objs.size=h1.objs.size+1:=size_push' ..;have old:∀ b o,b≠h1.objs.size->(h1.push (Bt "list" vs.toArray 0)).get? b=Ab o->((((h1.push (Bt "list" vs.toArray 0)).update h1.objs.size (CS λ_=>#[])).push (Bt "tuple" vs.toArray 0)).push (Bt "list" #[] 0)).get? b=Ab o:=λb o hb e =>
  Ai _ (Ai _ ((CH _ _ (Df hb)).trans e))
 obtain⟨e1,he1⟩:∃ e1,((h1.push (Bt "list" vs.toArray 0)).update h1.objs.size (CS λ_=>#[])).get? h1.objs.size=Ab (Bt "list" #[] e1):=⟨_,Fe hD (λ_=>#[])⟩;have he6:=Fe (Ai (Bt "list" #[] 0) (Ai (Bt "tuple" vs.toArray 0) he1)) (λ_=>(ps.map (·.2)).toArray)
 have pk:(ps.map (·.1)).Perm ks:=by
  have:=pm.map (·.1)
  rwa [Il (by omega)] at this
 refine h h1 _ s.toks h1.objs.size _ ps kp1 (λb o e=>?_) (Ar _) he6 (kO ord nf (bO ord ks) (pk.trans (vS ks).symm)) (λp hp=>?_) (by have:=pk.length_eq;rwa [Az] at this)
 .have hb:b≠h1.objs.size:=λz=>by
   subst z;exact absurd (Ay e) (Bn _)
  exact(CH _ _ (Df hb)).trans (old b o hb (Ai _ e))
 .obtain⟨i,e1,e2⟩:=cN (d:=d) hlen (pm.mem_iff.mp hp)
  exact⟨e2▸hks i _ e1,Be e1⟩
end
end _S
namespace _D
open PySem PySem.Spec PyProof.Rows _L
noncomputable def yV:DF:=λds S=>match ds with
 |[d]=>match sI d with
  |some [x]=>.ok (.lst [x]) S
  |_=>b8 [d] S
 |_=>.bad
theorem M5:_S.Ord (λ_ _:Ho=>false):=⟨λ_=>rfl,(λ{_ _ _} h=>by cases h),(λ{_ _} _=>.inl rfl)⟩
section
variable {X:Cx}{pins:Aa (Ad × AL)}{σ : _L.St}{H P:Hp}{α : Aa Ad}{S:Sto}{s:Af}
theorem sL (hu:X.A.units+64<D3)(I:Inv X pins σ H s){a:Ad}{v:Ac}{vv:V}(ha:s.heap.IsList a #[v]\/s.heap.IsTuple a #[v])(rv:qJ vv v){E:Ac->Af->Prop} :
  Ao (Aq X.prog X.w) X.A (call (.builtin "sorted") [.ref a]) (λu s'=>∃ D,u=.ref D/\H D=none/\Inv X pins σ (upd H D (.lst [vv])) s') E s:=by
 refine _S.nH (K:=Ho) (is:=λ_ _=>Fy) (lt':=λ_ _=>false) (d:=()) (h0:=s.heap) (vs:=[v]) M5 (λ{_ _ _} _ _=>rfl) om (λ_ _ e=>e) ha [()] rfl (λ_ _ _=>trivial) (λh=>absurd h (by simp)) (by simp) λh1 h2 tk2 D c ps kp1 kp2 hD hob hps hp hpl=>?_
 have I1:Inv X pins σ H { s with heap:=h1,toks:=s.toks }:=I.kept kp1
 have e:ps.map (·.2)=[v]:=by
  match ps,hpl with
  |[p],_=>have:=(hp p (by simp)).2;simpa using this
 rw[e] at hob;have I2:=I1.laid (t':=tk2) (h':=h2) (o:=.lst [vv]) kp2 hD (show qY X.prog X.w _ _ _ (.lst _) from⟨by rw[Ch];simp,[v],c,.cons rv .nil,hob⟩)
 exact⟨D,rfl,I1.hok.fresh hD,I2⟩
set_option tactic.hygienic true in
theorem dE (hu:X.A.units+64<D3):xS X (.builtin "sorted") yV:=by
 intro pins σ H s P α S vs us ds Q I r rv rp af
 match ds,af,rp with
 |[],af,_=>exact Al af
 |_::_::_,af,_=>exact Al af
 |[d],af,rp =>
  simp only[yV] at af
  split at af
  .rename_i x hd
   obtain⟨v,u,rfl,rfl,p,q⟩:=y9 rp rv;obtain⟨a,ws,its,rfl,t,rvi,hl,ll⟩:=cC I r p q hd;obtain⟨w,ws',rfl,tw,t'⟩:=t.cons_inv;cases t'.nil_inv;obtain⟨z,rfl,rz⟩:=vV rvi;refine thn (sL hu I hl rz) λu s' ⟨D,e,hn,I'⟩=>?_;subst e;exact⟨.ref D,_,I',rfl,xR r hn (.cons tw .nil) af⟩
  .exact rB hu pins σ H s P α S vs us [d] Q I r rv rp af
theorem cM {cm:Ap}{k:Aj}(hr:RoomC cm k X.A):ZCall X (.builtin "sorted") yV:=⟨dE hr.units⟩
end
end _D
section
end
namespace _D
open PySem
variable {items ds:Aa D}{v:Ac}{n p:Aj}{f1:DE}{F:DF}{S1 S' S2:Sto}{env':qE}
def Ok {β:Type}(r:Res β)(Q:β->Sto->Prop):Prop:=∃ d S,r=.ok d S/\Q d S
theorem qQ {β:Type}{r:Res β}{Q:β->Sto->Prop}{d:β}{S:Sto}(h:r=.ok d S)(q:Q d S):Ok r Q:=⟨d,S,h,q⟩
theorem gI {fe:DE}{env:qE}{S:Sto}{acc:Aa D}{x:D}(h:fe env S=.ok x S1)(hl:acc.length<lim):zJ fe env S acc=.ok (env,acc++[x]) S1:=by
 unfold zJ;rw[h];simp[Res.bind,hl]
theorem jW {cap:Aa (Ak Aj)}{fi:DI2}{g:DG}{t:DT}{k:DK}{env:qE}{S:Sto}{o:Ak (Aj × MO)}(h:fi env S=.ok (o,items) S1)(e:goL o g t k items (zO cap env) S1 [] = .ok (env',ds) S'):zC false cap fi g t k env S=.ok (.lst ds) S':=by
 unfold zC;rw[h];simp only[Res.bind,e,mkM];rfl
theorem rD {cap:Aa (Ak Aj)}{fi:DI2}{g:DG}{t:DT}{k:DK}{env:qE}{S:Sto}{o:Ak (Aj × MO)}(h:fi env S=.ok (o,items) S1)(e:goL o g t k items (zO cap env) S1 [] = .ok (env',ds) S'):zC true cap fi g t k env S=.ok (.loc S'.length) (S'++[.lst ds]):=by
 unfold zC;rw[h];simp only[Res.bind,e,mkM];rfl
theorem kL {α β:Type}(sel:α->Ap)(val:α->β)(l:Aa α) : (l.flatMap λd=>if sel d then [val d] else []) = (l.filter sel).map val:=by
 induction l with
 |nil=>rfl
 |cons d l ih =>
  rw[EC,ih];cases h:sel d <;> simp[h]
theorem goT {α:Type}{enc:α->D}{o:Ak (Aj × MO)}{g:DG}{t:DT}{k:DK}(out:α->Aa D)(C:qE->Sto->Prop)(hC:∀ env S,C env S->stn o S) :
  ∀ (xs:Aa α) (env:qE) (S:Sto) (acc:Aa D),C env S->acc.length+(xs.flatMap out).length<=lim ->
  (∀ x∈xs,∀ env S acc,C env S->acc.length+(out x).length<=lim->∃ env1 S1 b S2,g (enc x) env S=.ok env1 S1/\t env1 S1=.ok b S2/\((b=false/\out x=[]/\C env1 S2)\/(b=true/\∃ env3 S3,k env1 S2 acc=.ok (env3,acc++out x) S3/\C env3 S3))) ->
  ∃ env' S',goL o g t k (xs.map enc) env S acc=.ok (env',acc++xs.flatMap out) S'/\C env' S'
 |[],env,S,acc,h,hl,_=>⟨env,S,by simp[goL,vD.mpr (hC _ _ h)],h⟩
 |x::xs,env,S,acc,h,hl,step=>by
  rw[EC,AT] at hl;obtain⟨env1,S1,b,S2,e1,e2,r⟩:=step x (CQ ..) env S acc h om;have hst:=vD.mpr (hC _ _ h);rcases r with⟨rfl,h0,h2⟩|⟨rfl,env3,S3,e3,h3⟩
  .obtain⟨env',S',e,q⟩:=goT out C hC xs env1 S2 acc h2 om λd hd=>step d (Ba _ hd)
   refine⟨env',S',?_,q⟩;simp only[Cf,goL,hst,Bq,e1,e2,Res.bind,Bj,D0,EC,h0,DY];exact e
  .obtain⟨env',S',e,q⟩:=goT out C hC xs env3 S3 (acc++out x) h3 (by rw[AT];omega) λd hd=>step d (Ba _ hd)
   refine⟨env',S',?_,q⟩;simp only[Cf,goL,hst,Bq,e1,e2,Res.bind,e3,EC];rw[e,AK]
section
variable {α β:Type}{enc:α->D}{enc2:β->D}{cap:Aa (Ak Aj)}{fi:DI2}{g:DG}{t:DT}{fe:DE}{env:qE}{S S0:Sto}{o:Ak (Aj × MO)}{xs:Aa α}
theorem Q7 (hst:stn o S)(sel:α->Ap)(val:α->D)(C:qE->Prop)(h0:C env)(hl:xs.length<=lim)
  (step:∀ x∈xs,∀ env,C env->∃ env1,g (enc x) env S=.ok env1 S/\C env1/\t env1 S=.ok (sel x) S/\(sel x=true->fe env1 S=.ok (val x) S)) :
  ∃ env',goL o g t (zJ fe) (xs.map enc) env S [] = .ok (env',(xs.filter sel).map val) S:=by
 have lf:(xs.flatMap λd=>if sel d then [val d] else []).length<=lim:=by
  rw[kL,Az];exact Bh (ED _ _) hl
 obtain⟨env',S',e,_,q⟩:=goT (enc:=enc) (o:=o) (g:=g) (t:=t) (k:=zJ fe) (λd=>if sel d then [val d] else []) (λenv S'=>C env/\S'=S) (λ_ _ h=>h.2▸hst) xs env S [] ⟨h0,rfl⟩ (by simpa using lf) (λd hd env S' acc hC hl=>by
  obtain⟨hc,rfl⟩:=hC;obtain⟨env1,e1,c1,e2,k⟩:=step d hd env hc;refine⟨env1,S',sel d,S',e1,e2,?_⟩;cases hs:sel d with
  |false=>exact .inl ⟨rfl,by simp,c1,rfl⟩
  |true =>
   refine .inr ⟨rfl,env1,S',?_,c1,rfl⟩;simp only[Bq];exact gI (k hs) (by simp only[hs,Bq,E6] at hl;omega))
 subst q;refine⟨env',?_⟩;rw[e,DY,kL]
theorem uC (h:fi env S=.ok (o,xs.map enc) S)(hst:stn o S)(sel:α->Ap)(val:α->D)(C:qE->Prop)(h0:C (zO cap env))(hl:xs.length<=lim)
  (step:∀ x∈xs,∀ env,C env->∃ env1,g (enc x) env S=.ok env1 S/\C env1/\t env1 S=.ok (sel x) S/\(sel x=true->fe env1 S=.ok (val x) S)) :
  zC false cap fi g t (zJ fe) env S=.ok (.lst ((xs.filter sel).map val)) S:=by
 obtain⟨env',e⟩:=Q7 hst sel val C h0 hl step;exact jW h e
theorem cY (h:fi env S=.ok (o,xs.map enc) S)(hst:stn o S)(sel:α->Ap)(val:α->D)(C:qE->Prop)(h0:C (zO cap env))(hl:xs.length<=lim)
  (step:∀ x∈xs,∀ env,C env->∃ env1,g (enc x) env S=.ok env1 S/\C env1/\t env1 S=.ok (sel x) S/\(sel x=true->fe env1 S=.ok (val x) S)) :
  zC true cap fi g t (zJ fe) env S=.ok (.loc S.length) (S++[.lst ((xs.filter sel).map val)]):=by
 obtain⟨env',e⟩:=Q7 hst sel val C h0 hl step;exact rD h e
theorem nU {fi2:DI2}{g2:DG}{t2:DT}{o2:Ak (Aj × MO)}(h:fi env S=.ok (o,xs.map enc) S)(hst:stn o S)(hst2:stn o2 S)(ys:α->Aa β)(sel:α->β->Ap)(val:α->β->D)(C:qE->Prop)(C2:α->qE->Prop)(h0:C (zO cap env))(hC2:∀ x env,C2 x env->C env)
  (hl:(xs.flatMap λx=>((ys x).filter (sel x)).map (val x)).length<=lim)
  (step:∀ x∈xs,∀ env,C env->∃ env1,g (enc x) env S=.ok env1 S/\C2 x env1/\t env1 S=.ok true S/\fi2 env1 S=.ok (o2,(ys x).map enc2) S)
  (step2:∀ x∈xs,∀ y∈ys x,∀ env,C2 x env->∃ env1,g2 (enc2 y) env S=.ok env1 S/\C2 x env1/\t2 env1 S=.ok (sel x y) S/\(sel x y=true->fe env1 S=.ok (val x y) S)) :
  zC false cap fi g t (kIn fi2 g2 t2 (zJ fe)) env S=.ok (.lst (xs.flatMap λx=>((ys x).filter (sel x)).map (val x))) S:=by
 obtain⟨env',S',e,_,q⟩:=goT (enc:=enc) (o:=o) (g:=g) (t:=t) (k:=kIn fi2 g2 t2 (zJ fe)) (λx=>((ys x).filter (sel x)).map (val x)) (λenv S'=>C env/\S'=S) (λ_ _ h=>h.2▸hst) xs (zO cap env) S [] ⟨h0,rfl⟩ (by simpa using hl) (λd hd env S' acc hC hl=>by
  obtain⟨hc,rfl⟩:=hC;obtain⟨env1,e1,c1,e2,e3⟩:=step d hd env hc;obtain⟨env2,S2,e4,q,r⟩:=goT (enc:=enc2) (o:=o2) (g:=g2) (t:=t2) (k:=zJ fe) (λx=>if sel d x then [val d x] else []) (λenv S''=>C2 d env/\S''=S') (λ_ _ h=>h.2▸hst2) (ys d) env1 S' acc ⟨c1,rfl⟩ (by rw[kL];exact hl) (λx hx env S'' acc hC hl=>by
   obtain⟨hc,rfl⟩:=hC;obtain⟨env3,f1,f2,f3,f4⟩:=step2 d hd x hx env hc;refine⟨env3,S'',sel d x,S'',f1,f3,?_⟩;cases hs:sel d x with
   |false=>exact .inl ⟨rfl,by simp,f2,rfl⟩
   |true =>
    refine .inr ⟨rfl,env3,S'',?_,f2,rfl⟩;simp only[Bq];exact gI (f4 hs) (by simp only[hs,Bq,E6] at hl;omega))
  subst r;refine⟨env1,S2,true,S2,e1,e2,.inr ⟨rfl,env2,S2,?_,hC2 d _ q,rfl⟩⟩;unfold kIn;rw[e3];simp only[Res.bind];rw[e4,kL])
 subst q;have:=jW (cap:=cap) h e
 rwa [DY] at this
end
theorem uM {env:qE}{S:Sto}{a:D}(h1:f1 env S=.ok a S1):qN 1 F (qA f1 (qC)) env S=F [a] S1:=by
 simp only[qN,qA,qC,h1,Res.bind,AG,CO,Bq]
theorem GA {f2:DE}{env:qE}{S:Sto}{a b:D}(h1:f1 env S=.ok a S1)(h2:f2 env S1=.ok b S2):qN 2 F (qA f1 (qA f2 (qC))) env S=F [a,b] S2:=by
 simp only[qN,qA,qC,h1,h2,Res.bind,AG,CO,Bq]
theorem GB {f2 f3:DE}{env:qE}{S S3:Sto}{a b c:D}(h1:f1 env S=.ok a S1)(h2:f2 env S1=.ok b S2)(h3:f3 env S2=.ok c S3):qN 3 F (qA f1 (qA f2 (qA f3 (qC)))) env S=F [a,b,c] S3:=by
 simp only[qN,qA,qC,h1,h2,h3,Res.bind,AG,CO,Bq]
theorem BN {f:DE}{env:qE}{S:Sto}{b:Ap}(h:f env S=.ok (.bl b) S1):dTr f env S=.ok b S1:=by
 unfold dTr;rw[h];rfl
theorem YW {env:qE}{S:Sto}{a:D}(h1:f1 env S=.ok a S1):qA f1 (qC) env S=.ok [a] S1:=by
 simp only[qA,qC,h1,Res.bind]
theorem pI {env:qE}{i:Aj}{d:D}{S:Sto}(h:env[i]? = Ab (Ab d)):qB i env S=.ok d S:=by simp only[qB,h]
theorem r6 {α:Type}(p:α->Ap)(l:Aa α) : zN (l.map λx=>D.bl (p x))=Ab (l.map p):=by
 induction l with
 |nil=>rfl
 |cons x l ih =>
  show (zN (l.map λx=>D.bl (p x))).map (p x::·)=_
  rw[ih];rfl
section
variable {β γ:Type}{env:qE}{S:Sto}
theorem qX {r:Res β}{k:β->Sto->Res γ}{Q:γ->Sto->Prop}(h:Ok r λd S1=>Ok (k d S1) Q):Ok (r.bind k) Q:=by
 obtain⟨d,S1,rfl,h⟩:=h;exact h
theorem zL {r:Res β}{d:β}(h:Ok r λd' S'=>d'=d/\S'=S):r=.ok d S:=by
 obtain⟨_,_,e,rfl,rfl⟩:=h;exact e
theorem zF {r:Res β}{Q Q':β->Sto->Prop}(h:Ok r Q)(k:∀ d S,Q d S->Q' d S):Ok r Q':=by
 obtain⟨d,S,e,q⟩:=h;exact⟨d,S,e,k d S q⟩
variable {Q:D->Sto->Prop}{f g:DE}{fa:DA}{o:G2}{i j:Aj}
theorem o_c {d:D}(h:Q d S):Ok (dC d env S) Q:=⟨_,_,rfl,h⟩
theorem o_v {d:D}(e:env[i]? = Ab (Ab d))(h:Q d S):Ok (qB i env S) Q:=⟨_,_,pI e,h⟩
theorem o_2 (h:Ok (f env S) λa S1=>Ok (g env S1) λb S2=>Ok (o a b S2) Q):Ok (d2 o f g env S) Q:=qX (zF h λ_ _=>qX)
theorem o_1 {u:D->Sto->Res D}(h:Ok (f env S) λa S1=>Ok (u a S1) Q):Ok (d1 u f env S) Q:=qX h
theorem sC {Q:Aa D->Sto->Prop}(h:Q [] S):Ok (qC env S) Q:=⟨_,_,rfl,h⟩
theorem yE {Q:Aa D->Sto->Prop}(h:Ok (f env S) λa S1=>Ok (fa env S1) λas S2=>Q (a::as) S2):Ok (qA f fa env S) Q:=qX (zF h λ_ _ k=>qX (zF k λ_ _ q=>⟨_,_,rfl,q⟩))
theorem TK (h:Ok (fa env S) λas S1=>as.length<=lim/\Q (.tup as) S1):Ok (xC fa env S) Q:=qX (zF h λ_ _ k=>⟨_,_,AA k.1,k.2⟩)
theorem PQ (h:Ok (fa env S) λas S1=>as.length<=lim/\Q (.lst as) S1):Ok (xJ fa env S) Q:=qX (zF h λ_ _ k=>⟨_,_,AA k.1,k.2⟩)
theorem MZ (h:Ok (fa env S) λas S1=>as.length<=lim/\Q (.loc S1.length) (S1++[.lst as])):Ok (gQ fa env S) Q:=qX (zF h λ_ _ k=>⟨_,_,AA k.1,k.2⟩)
theorem MX (h:Q .dct0 S):Ok (fP env S) Q:=⟨_,_,rfl,h⟩
theorem eK (h:Ok (fa env S) λas S1=>as.length=n/\Ok (F as S1) Q):Ok (qN n F fa env S) Q:=qX (zF h λ_ _ k=>by rw[AA k.1];exact k.2)
theorem TF {as:Aa D}(h:Ok (F as S) Q):Ok (okO F as S) Q:=by
 obtain⟨d,S1,e,q⟩:=h;exact⟨d,S1,p8 e,q⟩
theorem TV (h:Ok (fa env S) λas S1=>Ok (F as S1) Q):Ok (qO F fa env S) Q:=qX h
theorem T6 {a b:Am}(h:Q (.int (a+b)) S):Ok (zI (.int a) (.int b) S) Q:=⟨_,_,rfl,h⟩
theorem p6 {a b:Aa D}(l:a.length+b.length<=lim)(h:Q (.tup (a++b)) S):Ok (zI (.tup a) (.tup b) S) Q:=⟨_,_,AA l,h⟩
theorem v8 {a b:Aa D}(l:a.length+b.length<=lim)(h:Q (.lst (a++b)) S):Ok (zI (.lst a) (.lst b) S) Q:=⟨_,_,AA l,h⟩
theorem TJ {a b:Am}(h:Q (.int (a-b)) S):Ok (yH (.int a) (.int b) S) Q:=⟨_,_,rfl,h⟩
theorem TC {a:Am}(h:Q (.int (-a)) S):Ok (bA (.int a) S) Q:=⟨_,_,rfl,h⟩
theorem TB {a b:Am}(l : -(2 ^ 64)<a/\a<2 ^ 64)(h:Q (.int (a*b)) S):Ok (yJ (.int a) (.int b) S) Q:=by
 refine⟨_,_,?_,h⟩;unfold yJ i2;rw[mE];unfold mD;simp only[l,and_self,E9,NG,Bq]
theorem T9 {a b:Am}(l:0<b)(h:Q (.int (a % b)) S):Ok (uV (.int a) (.int b) S) Q:=by
 refine⟨_,_,?_,h⟩;unfold uV i2;simp[l]
theorem T7 {a b:Am}(l:0<b/\b<1073741824)(h:Q (.int (a/b)) S):Ok (gH (.int a) (.int b) S) Q:=by
 refine⟨_,_,?_,h⟩;unfold gH i2 YL;simp[l]
theorem N1 {a b:Am}(h:Q (.bl (decide (a<b))) S):Ok (gLt (.int a) (.int b) S) Q:=⟨_,_,rfl,h⟩
theorem TZ {a b:Am}(h:Q (.bl (decide (b<=a))) S):Ok (gGe (.int a) (.int b) S) Q:=⟨_,_,rfl,h⟩
theorem UM {a b:Am}(h:Q (.bl (decide (a=b))) S):Ok (gEq (.int a) (.int b) S) Q:=⟨_,_,by kernel_rfl!,h⟩
theorem N2 {a b:Am}(h:Q (.bl (!decide (a=b))) S):Ok (gNe (.int a) (.int b) S) Q:=⟨_,_,by kernel_rfl!,h⟩
theorem QF {a:Aa D}{k:Am}{d:D}(e:_L.atI a k=Ab d)(h:Q d S):Ok (gIx (.tup a) (.int k) S) Q:=⟨d,S,by show _D.wW (_L.atI a k) S=_;rw[e];rfl,h⟩
theorem sA {a:Aa D}{k:Am}{d:D}(e:_L.atI a k=Ab d)(h:Q d S):Ok (gIx (.lst a) (.int k) S) Q:=⟨d,S,by show _D.wW (_L.atI a k) S=_;rw[e];rfl,h⟩
theorem eM {a:Aa D}(h:Q (.int a.length) S):Ok (xY [.tup a] S) Q:=⟨_,_,rfl,h⟩
theorem MY {a:Aa D}(h:Q (.int a.length) S):Ok (xY [.lst a] S) Q:=⟨_,_,rfl,h⟩
theorem QD (h:Ok (f env S) λd S1=>∃ b,d=.bl b/\(b=true->Ok (g env S1) Q)/\(b=false->Q (.bl false) S1)):Ok (gE f g env S) Q:=qX (zF h λd S1 ⟨b,e,k1,k2⟩=>by
 subst e;cases b with
 |true=>exact k1 rfl
 |false=>exact⟨_,_,rfl,k2 rfl⟩)
theorem N5 {fl fh:DO}(h:Ok (f env S) λd S1=>Ok (fl env S1) λlo S2=>Ok (fh env S2) λhi S3=>Ok (gSl d lo hi S3) Q):Ok (dSl f fl fh env S) Q:=qX (zF h λ_ _ k=>qX (zF k λ_ _=>qX))
theorem TH {a:Aa D}{lo hi:Ak Am}(h:Q (.lst (wF a lo hi)) S):Ok (gSl (.lst a) lo hi S) Q:=⟨_,_,rfl,h⟩
theorem TX {Q:Ak Am->Sto->Prop}(h:Ok (f env S) λd S1=>∃ k,d=.int k/\Q (Ab k) S1):Ok (yD f env S) Q:=qX (zF h λ_ _ ⟨_,e,q⟩=>by subst e;exact⟨_,_,rfl,q⟩)
theorem TU {T:Bg}{m:D->Aa D->Sto->Res D}(h:Ok (f env S) λa S1=>tyD a S1=Ab T/\Ok (fa env S1) λas S2=>Ok (m a as S2) Q):Ok (dBm T m f fa env S) Q:=qX (zF h λ_ _ k=>by rw[k.1,AA (by simp)];exact qX k.2)
theorem PL {xs:Aa D}{d:D}(e:S[i]? = Ab (.lst xs))(l:xs.length<lim)(h:Q .non (S.set i (.lst (xs++[d])))):Ok (wU (.loc i) [d] S) Q:=by
 refine⟨_,_,?_,h⟩;show (match S[i]? with|some (.lst xs)=>(if xs.length<lim then Res.ok D.non (S.set i (.lst (xs++[d]))) else .bad)|_=>.bad)=_
 rw[e];exact AA l
variable {Q:Ap->Sto->Prop}{t u:DT}
theorem M3 (h:Ok (f env S) λd S1=>∃ b,wY d S1=Ab b/\Q b S1):Ok (dTr f env S) Q:=qX (zF h λd S1 ⟨b,e,k⟩=>by
 rw[e];exact⟨_,_,rfl,k⟩)
theorem UN (h:Ok (t env S) λb S1=>Q (!b) S1):Ok (vL t env S) Q:=qX (zF h λ_ _ k=>⟨_,_,rfl,k⟩)
theorem TL (h:Q true S):Ok (w6 env S) Q:=⟨_,_,rfl,h⟩
theorem QL (h:Ok (t env S) λb S1=>(b=true->Q true S1)/\(b=false->Ok (u env S1) Q)):Ok (mP t u env S) Q:=qX (zF h λb S1 k=>by
 cases b with
 |true=>exact⟨_,_,rfl,k.1 rfl⟩
 |false=>exact k.2 rfl)
theorem cS {xs:Aa D}{a:Aj}(h:a<xs.length):_L.atI xs (a:Am)=Ab xs[a]:=by
 have e:_L.ixN xs.length (a:Am)=Ab a:=by simp[_L.ixN];lia
 simp[_L.atI,e,h]
theorem pQ (S:Sto)(m:MO):(S++[m])[S.length]? = Ab m:=by simp
theorem BR {xs:Aa D}(h:S[j]? = Ab (.lst xs)):tyD (.loc j) S=Ab "list":=by
 show (match S[j]? with|some (.lst _)=>Ab "list" | some (.dct _)=>Ab "dict" | _=>none)=_
 rw[h]
theorem PP {Q:D->Sto->Prop}{a:Aa D}{k:Aj}(h:k<a.length)(q:∀ d∈a,Q d S):Ok (gIx (.lst a) (.int (k:Am)) S) Q:=sA (cS h) (q _ (LU h))
theorem XY {Q:Aa D->Sto->Prop}(h:Ok (f env S) λd S1=>∃ ds,xO d=Ab ds/\Q ds S1):Ok (yC f env S) Q:=qX (zF h λd S1 ⟨ds,e,k⟩=>⟨ds,S1,by rw[e];rfl,k⟩)
theorem QN {Q:Aa D->Sto->Prop}(h:Ok (fa env S) λas S1=>∃ ds,vB as=Ab ds/\Q ds S1):Ok (gF fa env S) Q:=qX (zF h λd S1 ⟨ds,e,k⟩=>⟨ds,S1,by rw[e];rfl,k⟩)
theorem BH (n:Aj)(h:n<=1000000):vB [.int (n:Am)]=Ab ((CJ n).map λ(i:Aj)=>D.int (i:Am)):=by
 unfold vB;have : -(2 ^ 62)<=(n:Am)/\(n:Am)<2 ^ 62:=⟨by lia,by lia⟩
 refine(AA this).trans ?_;unfold zU;rw[Fv]
 congr 2
 funext i
 rw[Int.zero_add]
theorem T1 {Q:Aa D->Sto->Prop}(h:Ok (f env S) λd S1=>∃ k:Am,d=.int k/\0<=k/\k<=1000000/\Q ((CJ k.toNat).map λ(i:Aj)=>D.int (i:Am)) S1):Ok (gF (qA f qC) env S) Q:=QN (yE (zF h λ_ _ ⟨k,e,h0,h1,q⟩=>sC ⟨_,by
 have:=BH k.toNat li;rw[Int.toNat_of_nonneg h0] at this;rw[e,this],q⟩))
theorem vQ {Q:D->Sto->Prop}{xs:Aa D}{k:Am}{d:D}(e:S[i]? = Ab (.lst xs))(e':_L.atI xs k=Ab d)(h:Q d S):Ok (gIx (.loc i) (.int k) S) Q:=by
 refine⟨d,S,?_,h⟩;show (match S[i]? with|some (.lst xs)=>_D.wW (_L.atI xs k) S|_=>.bad)=_
 rw[e];show _D.wW (_L.atI xs k) S=_;rw[e'];rfl
theorem eN {Q:Ho->Sto->Prop}{xs:Aa D}{d:D}{n:Am}(e:S[i]? = Ab (.lst xs))(e':_L.ixN xs.length n=Ab j)(h:Q () (S.set i (.lst (xs.set j d)))):Ok (y7 (.loc i) (.int n) d S) Q:=by
 refine⟨_,_,?_,h⟩;simp[y7,bB,e,e']
theorem t8 {xs:Aa D}(h:env[i]? = Ab (Ab (.lst xs))):dIt (qB i) env S=.ok (none,xs) S:=by
 unfold dIt;rw[pI h];rfl
theorem FT {xs:Aa D}(h:env[i]? = Ab (Ab (.loc j)))(e:S[j]? = Ab (.lst xs)):dIt (qB i) env S=.ok (Ab (j,.lst xs),xs) S:=by
 unfold dIt;rw[pI h];show (match S[j]? with|some (.lst xs)=>Res.ok (Ab (j,MO.lst xs),xs) S|_=>.bad)=_
 rw[e]
theorem mY {α:Type}(f:α->β):∀ l:Aa α,l.flatMap (λx=>[f x])=l.map f
 |[]=>rfl
 |x::l=>by rw[EC,mY f l];rfl
theorem UL {α:Type}{enc:α->D}{o:Ak (Aj × MO)}{cap:Aa (Ak Aj)}{fi:DI2}{tg:DG}{fe:DE}{Q:D->Sto->Prop}(xs:Aa α)(val:α->D)(C:qE->Sto->Prop)(hi:fi env S=.ok (o,xs.map enc) S1)(h0:C (zO cap env) S1)(hl:xs.length<=lim)(hst:∀ env S,C env S->stn o S)
  (step:∀ x∈xs,∀ env S,C env S->Ok (tg (enc x) env S) λenv1 S1=>Ok (t env1 S1) λb S2=>b=true/\Ok (fe env1 S2) λd S3=>d=val x/\C env1 S3) (q:∀ env' S',C env' S'->Q (.lst (xs.map val)) S'):Ok (zC false cap fi tg t (zJ fe) env S) Q:=by
 have fm:=mY val xs;obtain⟨env',S',e,c⟩:=goT (enc:=enc) (o:=o) (g:=tg) (t:=t) (k:=zJ fe) (λx=>[val x]) C hst xs (zO cap env) S1 [] h0 (by rw[fm,Az];simpa using hl) (λx hx env S acc hC hl=>by
  obtain⟨env1,S1,e1,b,S2,e2,rfl,d,S3,e3,rfl,c3⟩:=step x hx env S hC;exact⟨env1,S1,true,S2,e1,e2,.inr ⟨rfl,env1,S3,gI e3 (by simp at hl;lia),c3⟩⟩)
 rw[fm,DY] at e;exact⟨_,_,jW hi e,q env' S' c⟩
theorem PH {α:Type}{Q:D->Sto->Prop}{l:Aa α}{p:α->Ap}(h:Q (.bl (l.all p)) S):Ok (mW false [.lst (l.map λx=>.bl (p x))] S) Q:=by
 refine⟨_,_,?_,h⟩;show (match (xO (.lst (l.map λx=>D.bl (p x)))).bind zN with|some bs=>Res.ok (D.bl (bs.all id)) S|none=>.bad)=_
 rw[show (xO (.lst (l.map λx=>D.bl (p x)))).bind zN=Ab (l.map p) from r6 p l]
 simp only[Lh];rfl
theorem bH {f:D->Ak D}{xs:Aa D}(h:∀ x∈xs,f x=Ab x):mapO f xs=Ab xs:=by
 induction xs with
 |nil=>rfl
 |cons x xs ih=>simp[mapO,h x (CQ ..),ih λy hy=>h y (Ba _ hy)]
theorem oK {xs:Aa D}(e:S[i]? = Ab (.lst xs))(h:∀ x∈xs,w8 19 S x=Ab x):w8 mQ S (.loc i)=Ab (.lst xs):=by
 show (match S[i]? with|some (.lst xs)=>(mapO (w8 19 S) xs).map D.lst|_=>none)=_
 rw[e];show (mapO (w8 19 S) xs).map D.lst=_;rw[bH h];rfl
theorem N4 {Q:qE->Sto->Prop}{h:G3}{d:D}(k:Ok (f env S) λa S1=>Ok (g env S1) λb S2=>Ok (h a b d S2) λ_ S3=>Q env S3):Ok (gSb f g h d env S) Q:=qX (zF k λ_ _ k=>qX (zF k λ_ _ k=>qX (zF k λ_ _ q=>⟨_,_,rfl,q⟩)))
variable {Q:qE->Sto->Prop}
theorem N3 {d:D}(h:Q (env.set i (Ab d)) S):Ok (gNm i d env S) Q:=⟨_,_,rfl,h⟩
theorem N6 {gs:DGs}{xs:Aa D}(h:xs.length=n/\Ok (gs xs env S) Q):Ok (gTp n gs (.tup xs) env S) Q:=by
 obtain⟨d,S1,e,q⟩:=h.2;exact⟨d,S1,by show (if xs.length=n then gs xs env S else .bad)=_;rw[AA h.1];exact e,q⟩
theorem N0 (h:Q env S):Ok (uW [] env S) Q:=⟨_,_,rfl,h⟩
theorem TY {t:DG}{gs:DGs}{x:D}{xs:Aa D}(h:Ok (t x env S) λenv1 S1=>Ok (gs xs env1 S1) Q):Ok (xN t gs (x::xs) env S) Q:=qX h
def Wo (P:Out->Prop)(o:Out):Prop:=P o
def oN (g:DS)(P:Out->Prop):Out->Prop
 |.nx env S=>P (g env S)
 |o=>P o
noncomputable def cD (b:Ap)(f g:DS):DS:=match b with
 |true=>f
 |false=>g
def FK (Q:D->Sto->Prop):Out->Prop
 |.rt d S=>Q d S
 |.nx _ S=>Q .non S
 |_=>Cp
def dX {α:Type}(I:Aa α -> qE->Sto->Prop)(xs:Aa α)(P:Out->Prop):Out->Prop
 |.nx env S=>I xs env S
 |.ct env S=>I xs env S
 |.bk env S=>P (.nx env S)
 |o=>P o
variable {P:Out->Prop}{sf sg:DS}{fi:DI}{tg:DG}{d:D}
theorem BV (h:Wo (oN sg P) (sf env S)):Wo P (qT sf sg env S):=by
 unfold qT;unfold Wo at h ⊢;cases e:sf env S <;> rw[e] at h <;> exact h
theorem N8 (h:Wo P (sg env S)):Wo (oN sg P) (.nx env S):=h
theorem N9 (h:Wo P (.rt d S)):Wo (oN sg P) (.rt d S):=h
theorem T4 (h:Wo P (.nx env S)):Wo P (zR env S):=h
theorem kU {r:Res β}{k:β->Sto->Out}(h:Ok r λd S1=>Wo P (k d S1)):Wo P (r.toS env k):=by
 obtain⟨d,S1,rfl,h⟩:=h;exact h
theorem TM (h:Ok (f env S) λd S1=>Ok (tg d env S1) λenv' S2=>Wo P (.nx env' S2)):Wo P (zA f tg env S):=kU (zF h λ_ _=>kU)
theorem T3 (h:Ok (f env S) λ_ S1=>Wo P (.nx env S1)):Wo P (yA f env S):=kU h
theorem TQ (h:Ok (f env S) λd S1=>Wo P (.rt d S1)):Wo P (z9 f env S):=kU h
theorem N7 (h:Ok (t env S) λb S1=>Wo P (cD b sf sg env S1)):Wo P (sIf t sf sg env S):=kU (zF h λb S1 q=>by cases b <;> exact q)
theorem w_t (h:Wo P (sf env S)):Wo P (cD true sf sg env S):=h
theorem w_f (h:Wo P (sg env S)):Wo P (cD false sf sg env S):=h
theorem TN {b:Ap}(h:Wo P (cD b sg sf env S)):Wo P (cD (!b) sf sg env S):=by cases b <;> exact h
theorem vW {p:Prop}[Em p](h1:p->Wo P (sf env S))(h2:¬ p->Wo P (sg env S)):Wo P (cD (decide p) sf sg env S):=by
 by_cases h:p
 .rw[By h];exact h1 h
 .rw[Bo h];exact h2 h
theorem BU (h:Ok (fi env S) λds S1=>Wo P (yK tg sf ds env S1)):Wo P (jF fi tg sf env S):=kU h
theorem vG {α:Type}{enc:α->D}(I:Aa α -> qE->Sto->Prop)(turn:∀ x xs env S,I (x::xs) env S->Ok (tg (enc x) env S) λenv1 S1=>Wo (dX I xs P) (sf env1 S1))(last:∀ env S,I [] env S->Wo P (.nx env S)) :
  ∀ {xs:Aa α} {env:qE} {S:Sto},I xs env S->Wo P (yK tg sf (xs.map enc) env S)
 |[],env,S,h=>last env S h
 |x::xs,env,S,h=>by
  obtain⟨env1,S1,e1,h1⟩:=turn x xs env S h;rw[Cf,yK];unfold Wo at h1 ⊢;simp only[e1,Res.toS];cases e2:sf env1 S1 with
  |nx env2 S2=>rw[e2] at h1;exact vG I turn last h1
  |ct env2 S2=>rw[e2] at h1;exact vG I turn last h1
  |bk env2 S2=>rw[e2] at h1;exact h1
  |rt d2 S2=>rw[e2] at h1;exact h1
  |ex c2 x2 env2 S2=>rw[e2] at h1;exact h1
  |bad=>rw[e2] at h1;exact h1
theorem lW (I:Aa D->qE->Sto->Prop)(turn:∀ x xs env S,I (x::xs) env S->Ok (tg x env S) λenv1 S1=>Wo (dX I xs P) (sf env1 S1))(last:∀ env S,I [] env S->Wo P (.nx env S)){xs:Aa D}{env:qE}{S:Sto}(h:I xs env S):Wo P (yK tg sf xs env S):=by
 have:=vG (enc:=id) I turn last h
 rwa [List.map_id] at this
def whQ (I:Aj->qE->Sto->Prop)(n:Aj)(P:Out->Prop):Out->Prop
 |.nx env S=>∃ m,m<n/\I m env S
 |.ct env S=>∃ m,m<n/\I m env S
 |.bk env S=>P (.nx env S)
 |o=>P o
theorem lX (I:Aj->qE->Sto->Prop)(turn:∀ n env S,I n env S->Ok (t env S) λb S1=>(b=true->Wo (whQ I n P) (sf env S1))/\(b=false->Wo P (.nx env S1))){n:Aj}(hn:n<big)(h:I n env S):Wo P (kD t sf env S):=by
 have key:∀ N n env S,n<N->I n env S->Wo P (yF t sf N env S):=by
  intro N
  induction N with
  |zero=>intro n env S h;lia
  |succ N ih =>
   intro n env S h hI;obtain⟨b,S1,e1,k1,k2⟩:=turn n env S hI;unfold yF;rw[e1];cases b with
   |false=>exact k2 rfl
   |true =>
    have k:=k1 rfl;unfold Wo at k ⊢;simp only[Res.toS,Bq];cases e2:sf env S1 with
    |nx env2 S2=>rw[e2] at k;obtain⟨m,hm,hI2⟩:=k;exact ih m env2 S2 li hI2
    |ct env2 S2=>rw[e2] at k;obtain⟨m,hm,hI2⟩:=k;exact ih m env2 S2 li hI2
    |bk env2 S2=>rw[e2] at k;exact k
    |rt d2 S2=>rw[e2] at k;exact k
    |ex c2 x2 env2 S2=>rw[e2] at k;exact k
    |bad=>rw[e2] at k;exact k
 exact key big n env S hn h
theorem cI {I:Aj->qE->Sto->Prop}(m:Aj)(hm:m<n)(h:I m env S):Wo (whQ I n P) (.nx env S):=⟨m,hm,h⟩
theorem tP {x:D}(hs:wM n ds=env)(h:sf env S=.ex v x env' S'):qW n sf ds S=.ex v x S':=by
 subst hs;unfold qW;rw[h];rfl
theorem VU {x:D}(h:f env S=.ex v x S'):qT (yA f) sg env S=.ex v x env S':=by
 simp only[qT,yA,h,Res.toS]
theorem GY {x:D}(h:t env S=.ok true S1)(k:sf env S1=.ex v x env' S'):sIf t sf sg env S=.ex v x env' S':=by
 simp only[sIf,h,Res.toS,Bq];exact k
theorem kT {α:Type}{I:Aa α -> qE->Sto->Prop}{xs:Aa α}(h:I xs env S):Wo (dX I xs P) (.nx env S):=h
theorem zH {Q:D->Sto->Prop}(hs:wM n ds=env)(h:Wo (FK Q) (sf env S)):Ok (qW n sf ds S) Q:=by
 subst hs;unfold qW;unfold Wo at h;cases e:sf (wM n ds) S <;> rw[e] at h <;> first|exact⟨_,_,rfl,h⟩|exact Al h
end
abbrev Pt:=Am × Am
def InB (B:Am)(q:Pt):Prop:=-B<=q.1/\q.1<=B /\ -B<=q.2/\q.2<=B
instance (B:Am)(q:Pt):Em (InB B q):=by unfold InB;exact inferInstance
def y6 (S:Sto)(p:Aj):Prop:=∃ v f:Am,S[p]? = Ab (.lst [.int v,.int f])
theorem lF {S:Sto}(h:y6 S p)(e:S<+:S'):y6 S' p:=by
 obtain⟨v0,f0,hp⟩:=h;obtain⟨r,rfl⟩:=e;exact⟨v0,f0,by rw[AY (AO.mp hp).1];exact hp⟩
structure Kp (p:Aj)(S S':Sto):Prop where
 pen:y6 S' p
 len:S.length<=S'.length
 same:∀ m,m<S.length->m≠p->S'[m]? = S[m]?
theorem Kp.trans {S:Sto}(a:Kp p S S1)(b:Kp p S1 S2):Kp p S S2:=⟨b.pen,Bh a.len b.len,λm hm hp=>(b.same m (Aw hm a.len) hp).trans (a.same m hm hp)⟩
theorem JH {S:Sto}(h:y6 S p):p<S.length:=by
 obtain⟨v,f,e⟩:=h;exact(AO.mp e).1
theorem Kp.pre {S:Sto}(h:y6 S p)(e:S<+:S'):Kp p S S':=⟨lF h e,e.length_le,λm hm _=>(List.prefix_iff_getElem?.mp e m hm).trans (Ax hm).symm⟩
theorem Kp.set {j:Aj}{S:Sto}(h:Kp p S S')(hj:S.length<=j)(m:MO)(hp:p≠j):Kp p S (S'.set j m):=by
 obtain⟨v,f,e⟩:=h.pen;exact⟨⟨v,f,by rw[Cg (Df hp)];exact e⟩,by rw[Ml];exact h.len,λi hi hn=>by rw[Cg om];exact h.same i hi hn⟩
end _D
local macro_rules|`(tactic|array_get_dec)=>`(tactic| first | (with_reducible first | apply _D.BV | apply _D.N8 | apply _D.TM | apply _D.o_2 | apply _D.o_c | apply _D.yE | apply _D.sC | apply _D.T6 | apply _D.TJ | apply _D.TK | apply _D.PQ | apply _D.eK | apply _D.TV | apply _D.TF | apply _D.M3 | apply _D.UN | apply _D.N7 | apply _D.w_t | apply _D.w_f | apply _D.TN | apply _D.T4 | apply _D.T3 | apply _D.TQ | apply _D.N9 | apply _D.BU | apply _D.N1 | apply _D.TZ | apply _D.UM | apply _D.N2 | apply _D.o_1 | apply _D.TC | apply _D.eM | apply _D.MY | apply _D.MZ | apply _D.N5 | apply _D.TH | apply _D.TX | apply _D.TU | apply _D.N6 | apply _D.TY | apply _D.N0 | apply _D.TL | apply _D.MX | apply _D.N4 | apply _D.XY | apply _D.T1) | ((with_reducible apply _D.o_v); exact rfl) | ((with_reducible apply _D.N3); dsimp only [List.set_cons_succ, List.set_cons_zero]) | ((with_reducible (first | apply _D.TB | apply _D.T9 | apply _D.T7)); omega) | ((with_reducible apply And.intro); (first | exact rfl | exact Nat.le_of_ble_eq_true rfl)) | ((with_reducible apply Exists.intro); (with_reducible apply And.intro); exact rfl) | ((with_reducible apply Exists.intro); (with_reducible apply Exists.intro); (with_reducible apply And.intro); exact rfl; dsimp only [List.set_cons_succ, List.set_cons_zero]) | ((with_reducible apply Exists.intro); (with_reducible apply Exists.intro); (with_reducible apply Exists.intro); (with_reducible apply And.intro); exact rfl; dsimp only [List.set_cons_succ, List.set_cons_zero]))
local macro_rules|`(tactic|rfl')=>`(tactic| repeat array_get_dec)
namespace _D
open PySem
def Pn (d:D):Prop:=∃ p,pyD d=Ab p
noncomputable def inR (a b:Am):D->Ap
 |.int i=>decide (a<=i/\i<=b)
 |_=>false
noncomputable def isW:D->Ap
 |.int _=>true
 |_=>false
theorem XX {Q:D->Sto->Prop}{fa fb fc:DE}{env:qE}{S:Sto}{a b c:Am}(h1:fa env S=.ok (.int a) S)(h2:fb env S=.ok (.int b) S)(h3:fc env S=.ok (.int c) S)(q:Q (.bl (decide (a<=b/\b<=c))) S):Ok (jV gLe gLe fa fb fc env S) Q:=by
 refine⟨_,_,?_,q⟩;unfold jV;rw[h1,Res.bind_ok,h2,Res.bind_ok];show (match wY (.bl (decide (a<=b))) S with|some true=>(fc env S).bind λw S4=>gLe (.int b) w S4|some false=>Res.ok (.bl (decide (a<=b))) S|none=>.bad)=_
 by_cases h:a<=b
 .rw[By h]
  show (fc env S).bind _=_;rw[h3];simp only[h,true_and];rfl
 .rw[Bo h,Bo λz=>h z.1]
  rfl
theorem a9 (xs:Aa D)(i:Aj):wF xs (Ab ((i:Am)+1)) none=xs.drop (i+1):=by
 unfold wF;have e1:_H.sIx xs.length 0 (Ab ((i:Am)+1))=min (i+1) xs.length:=by
  have:((i:Am)+1)=((i+1:Aj):Am):=by lia
  rw[this,_H.sIx_nat]
 rw[e1,_H.sIx_none];by_cases h:i+1<=xs.length
 .rw[Nat.min_eq_left h,E2 (by simp)]
 .have:xs.drop (i+1)=[]:=Gb li
  rw[this,Nat.min_eq_right li];simp
noncomputable def eL:Aj->Aa D->Aa D
 |_,[]=>[]
 |k,x::xs=>D.tup [.int (k:Am),x]::eL (k+1) xs
theorem aX (xs:Aa D):wG xs=eL 0 xs:=by
 have key:∀ (xs:Aa D) (k:Aj),(xs.mapIdx λi x=>D.tup [.int ((i+k:Aj):Am),x])=eL k xs:=by
  intro xs
  induction xs with
  |nil=>intro k;rfl
  |cons x xs ih =>
   intro k;rw[List.mapIdx_cons];show _::_=D.tup [.int (k:Am),x]::eL (k+1) xs
   congr 1
   .simp
   .rw[<- ih (k+1)]
    congr 1
    funext i y
    congr 4
    lia
 have:=key xs 0;simpa [wG] using this
theorem WZ (ks:Aa (Aa Am))(hl:ks.length<=100000)(he:∀ k∈ks,k≠[]):jG (ks.map tpD)=Ab ((_S.wA _H.lexLt ks).map tpD):=by
 unfold jG;cases ks with
 |nil =>
  have e1:_S.wA _S.ltI [] = []:=Ky;have e2:_S.wA _H.lexLt [] = []:=Ky;show (if ([] : Aa Am).length<=100000 then Ab ((_S.wA _S.ltI []).map D.int) else none)=_
  rw[e1,e2,AA (by simp)]
  rfl
 |cons k r =>
  have h0:xZ ((k::r).map tpD)=none:=rfl;rw[h0,cF];have h2:((k::r).all λk=>!k.isEmpty)=true:=AS.mpr λq hq=>by
   have:=he q hq;cases q with
   |nil=>exact absurd rfl this
   |cons _ _=>rfl
  have h3:(decide ((k::r).length<=100000)&&(k::r).all λk=>!k.isEmpty)=true:=by rw[h2,By hl];rfl
  show (if (decide ((k::r).length<=100000)&&(k::r).all λk=>!k.isEmpty)=true then _ else _)=_
  rw[AA h3]
end _D
namespace _K
open PySem PySem.Spec PyProof.Rows _L _D
noncomputable def top (i:Aj):Ca:=Hg.main.body.getD i (.Pass ⟨0,0,0,0⟩)
structure Cl where
 (FarError NoPoint NoLot NoNumber NoCircle NoMarks NoFars NoText NoLine NoDeed Alike TooMany:Ad)
noncomputable def x9 (c:Cl):Aa Ad:=[c.NoPoint,c.NoLot,c.NoNumber,c.NoCircle,c.NoMarks,c.NoFars,c.NoText,c.NoLine,c.NoDeed,c.Alike,c.TooMany]
noncomputable def uB (c:Cl):Aa Ac:=[.ref c.NoPoint,.ref c.NoLot,.ref c.NoNumber,.ref c.NoCircle,.ref c.NoMarks,.ref c.NoFars,.ref c.NoText,.ref c.NoLine,.ref c.NoDeed]
noncomputable abbrev clt (c:Cl):Aa (An × Ad):=[("FarError",c.FarError),("NoPoint",c.NoPoint),("NoLot",c.NoLot),("NoNumber",c.NoNumber),("NoCircle",c.NoCircle),("NoMarks",c.NoMarks),("NoFars",c.NoFars),("NoText",c.NoText),("NoLine",c.NoLine),("NoDeed",c.NoDeed),("Alike",c.Alike),("TooMany",c.TooMany)]
noncomputable abbrev plt (c:Cl):Aa (An × Ad):=[("NoPoint",c.NoPoint),("NoLot",c.NoLot),("NoNumber",c.NoNumber),("NoCircle",c.NoCircle),("NoMarks",c.NoMarks),("NoFars",c.NoFars),("NoText",c.NoText),("NoLine",c.NoLine),("NoDeed",c.NoDeed)]
noncomputable abbrev cst:Aa (An × Am):=[("MOST_SHORTEST",6)]
noncomputable abbrev bl:Aa An:=["ValueError","all","bool","enumerate","int","isinstance","len","list","range","set","sorted","str","tuple","zip"]
noncomputable abbrev tab:Aa (An × Aj × Aa An):=[("is_whole",14,["thing"]),("is_within",15,["thing","least","most"]),("need_within",16,["thing","least","most"]),("differences",19,["marks"]),("are_all_unlike",20,["numbers"]),("unlike_up_to",21,["n","last"]),("shortest_marks",22,["n"]),("shortest",23,["n"]),("_law_kinds",25,["_law_e"]),("_law_refused",26,["_law_call"]),("_law_same",27,["_law_found","_law_due"]),("_law_cell",28,["_law_script","_law_k"]),("_law_pen",29,["_law_cell_here"]),("_law_draw",30,["_law_pen_here","_law_many"]),("_law_no_number",31,["_law_pen_here","_law_low","_law_high"]),("_law_combos",32,["_law_some","_law_n"]),("_law_unlike",33,["_law_marks"]),("_law_shortest",34,["_law_n"]),("law",35,["_law_script"])]
abbrev Txt (K:Ah)(mg:An->Ak Ac)(c:Cl):Prop:=TxS K mg top tab bl (clt c) (plt c) (uB c) (x9 c) cst
noncomputable abbrev UC:Aa An:=["law"]
@[reducible] def b_is_whole:DS:=z9 (gE (qO zX (qA (qB 0) (qA (dC (.ty "int")) (qC)))) (aD (qO zX (qA (qB 0) (qA (dC (.ty "bool")) (qC))))))
@[irreducible] def S_is_whole:DF:=sh (qW 1 b_is_whole)
theorem jM:S_is_whole=qW 1 b_is_whole:=by delta S_is_whole;exact x5 _
@[reducible] def b_is_within:DS:=z9 (gE (qN 1 S_is_whole (qA (qB 0) (qC))) (jV gLe gLe (qB 1) (qB 0) (qB 2)))
@[irreducible] def S_is_within:DF:=sh (qW 3 b_is_within)
theorem uA:S_is_within=qW 3 b_is_within:=by delta S_is_within;exact x5 _
@[reducible] def b_need_within (c:Cl):DS:=sIf (vL (dTr (qN 3 S_is_within (qA (qB 0) (qA (qB 1) (qA (qB 2) (qC))))))) (uI (.ref c.NoNumber) (qA (fR [dC (.str "a whole number from "),d1 vY (qB 1),dC (.str " to "),d1 vY (qB 2),dC (.str " is needed")]) (qC))) (zR)
@[irreducible] def S_need_within (c:Cl):DF:=sh (qW 3 (b_need_within c))
theorem w5 (c:Cl):S_need_within c=qW 3 (b_need_within c):=by delta S_need_within;exact x5 _
@[reducible] def b_differences:DS:=z9 (zC false [none,none,none,Ab 0] (vO (fQ (qA (qB 0) (qC)))) (gTp 2 (xN (gNm 0) (xN (gNm 1) (uW)))) (w6) (kIn (dIt (dSl (qB 3) (yD (d2 zI (qB 0) (dC (.int 1)))) (mR))) (gNm 2) (w6) (zJ (d2 yH (qB 2) (qB 1)))))
@[irreducible] def S_differences:DF:=sh (qW 1 b_differences)
theorem yR:S_differences=qW 1 b_differences:=by delta S_differences;exact x5 _
@[reducible] def b_are_all_unlike:DS:=z9 (d2 gEq (yS (qB 0)) (qO xY (qA (qB 0) (qC))))
@[irreducible] def S_are_all_unlike:DF:=sh (qW 1 b_are_all_unlike)
theorem wQ:S_are_all_unlike=qW 1 b_are_all_unlike:=by delta S_are_all_unlike;exact x5 _
@[reducible] def b_unlike_up_to:DS:=qT (zA (gQ (qA (xC (qA (dC (.int 0)) (qC))) (qC))) (gNm 2)) (qT (jF (gF (qA (d2 yH (qB 0) (dC (.int 1))) (qC))) (gNm 3) (qT (zA (zC false [none,none,Ab 1] (dIt (qB 2)) (gNm 0) (w6) (kIn (vO (gF (qA (d2 zI (d2 gIx (qB 0) (d1 bA (dC (.int 1)))) (dC (.int 1))) (qA (d2 zI (qB 2) (dC (.int 1))) (qC))))) (gNm 1) (w6) (zJ (d2 zI (qB 0) (xC (qA (qB 1) (qC))))))) (gNm 4)) (zA (zC true [none] (dIt (qB 4)) (gNm 0) (vK (dTr (qN 1 (okO S_are_all_unlike) (qA (qN 1 (okO S_differences) (qA (qB 0) (qC))) (qC)))) (w6)) (zJ (qB 0))) (gNm 2)))) (z9 (qB 2)))
@[irreducible] def S_unlike_up_to:DF:=sh (qW 5 b_unlike_up_to)
theorem yI:S_unlike_up_to=qW 5 b_unlike_up_to:=by delta S_unlike_up_to;exact x5 _
@[reducible] def b_shortest_marks (c:Cl):DS:=qT (yA (qN 3 (S_need_within c) (qA (qB 0) (qA (dC (.int 1)) (qA (dC (.int (6))) (qC)))))) (qT (zA (d2 gH (d2 yJ (qB 0) (d2 yH (qB 0) (dC (.int 1)))) (dC (.int 2))) (gNm 1)) (qT (zA (qN 2 S_unlike_up_to (qA (qB 0) (qA (qB 1) (qC)))) (gNm 2)) (qT (kD (vL (dTr (qB 2))) (qT (kB 1 gU (dC (.int 1))) (zA (qN 2 S_unlike_up_to (qA (qB 0) (qA (qB 1) (qC)))) (gNm 2)))) (z9 (qB 2)))))
@[irreducible] def S_shortest_marks (c:Cl):DF:=sh (qW 3 (b_shortest_marks c))
theorem xI (c:Cl):S_shortest_marks c=qW 3 (b_shortest_marks c):=by delta S_shortest_marks;exact x5 _
@[reducible] def b_shortest (c:Cl):DS:=z9 (d2 gIx (d2 gIx (qN 1 (S_shortest_marks c) (qA (qB 0) (qC))) (dC (.int 0))) (d1 bA (dC (.int 1))))
@[irreducible] def S_shortest (c:Cl):DF:=sh (qW 1 (b_shortest c))
theorem yG (c:Cl):S_shortest c=qW 1 (b_shortest c):=by delta S_shortest;exact x5 _
@[reducible] def b__law_kinds (c:Cl):DS:=qT (zA (xJ (qA (qO (zE (x9 c)) (qA (qB 0) (qA (dC (.obj c.NoPoint)) (qC)))) (qA (qO (zE (x9 c)) (qA (qB 0) (qA (dC (.obj c.NoLot)) (qC)))) (qA (qO (zE (x9 c)) (qA (qB 0) (qA (dC (.obj c.NoNumber)) (qC)))) (qC))))) (gNm 1)) (qT (zA (d2 zI (qB 1) (xJ (qA (qO (zE (x9 c)) (qA (qB 0) (qA (dC (.obj c.NoCircle)) (qC)))) (qA (qO (zE (x9 c)) (qA (qB 0) (qA (dC (.obj c.NoMarks)) (qC)))) (qA (qO (zE (x9 c)) (qA (qB 0) (qA (dC (.obj c.NoFars)) (qC)))) (qC)))))) (gNm 1)) (qT (zA (d2 zI (qB 1) (xJ (qA (qO (zE (x9 c)) (qA (qB 0) (qA (dC (.obj c.NoText)) (qC)))) (qA (qO (zE (x9 c)) (qA (qB 0) (qA (dC (.obj c.NoLine)) (qC)))) (qA (qO (zE (x9 c)) (qA (qB 0) (qA (dC (.obj c.NoDeed)) (qC)))) (qC)))))) (gNm 1)) (qT (zA (d2 zI (qB 1) (xJ (qA (qO (zE (x9 c)) (qA (qB 0) (qA (dC (.obj c.Alike)) (qC)))) (qA (qO (zE (x9 c)) (qA (qB 0) (qA (dC (.obj c.TooMany)) (qC)))) (qC))))) (gNm 1)) (qT (sIf (mP (vL (dTr (qO (zE (x9 c)) (qA (qB 0) (qA (dC (.ty "ValueError")) (qC)))))) (dTr (d2 gNe (dBm "list" gV (qB 1) (qA (dC (.bl true)) (qC))) (dC (.int 1))))) (z9 (dC (.str "other"))) (zR)) (qT (sIf (dTr (qO (zE (x9 c)) (qA (qB 0) (qA (dC (.obj c.Alike)) (qC))))) (z9 (xC (qA (dC (.str "alike")) (qA (jU) (qA (jU) (qA (jU) (qA (jU) (qC)))))))) (zR)) (qT (sIf (dTr (qO (zE (x9 c)) (qA (qB 0) (qA (dC (.obj c.TooMany)) (qC))))) (z9 (xC (qA (dC (.str "many")) (qA (jU) (qA (jU) (qC)))))) (zR)) (qT (zA (xJ (qA (dC (.str "point")) (qA (dC (.str "lot")) (qA (dC (.str "number")) (qA (dC (.str "circle")) (qA (dC (.str "marks")) (qA (dC (.str "fars")) (qA (dC (.str "text")) (qA (dC (.str "line")) (qA (dC (.str "deed")) (qC))))))))))) (gNm 2)) (z9 (d2 gIx (qB 2) (dBm "list" gW (qB 1) (qA (dC (.bl true)) (qC))))))))))))
@[irreducible] def S__law_kinds (c:Cl):DF:=sh (qW 3 (b__law_kinds c))
theorem vI (c:Cl):S__law_kinds c=qW 3 (b__law_kinds c):=by delta S__law_kinds;exact x5 _
@[reducible] def b__law_refused (c:Cl)(G:Aa D->DF)(a:Ad)(cv:Aa V):DS:=qT (gM 2 1 (uB c) (yA (uQ 0 (qC) a cv 0 G)) (z9 (qN 1 (S__law_kinds c) (qA (qB 1) (qC))))) (z9 (dC (.str "told")))
@[reducible] def b__law_same (S__law_same:DF):DS:=qT (sIf (dTr (d2 gIs (qB 1) (dC .non))) (z9 (d2 gIs (qB 0) (dC .non))) (zR)) (qT (sIf (dTr (qO uU (qA (qB 1) (qA (xC (qA (dC (.ty "list")) (qA (dC (.ty "tuple")) (qC)))) (qC))))) (qT (sIf (dTr (d2 gNe (qO zX (qA (qB 1) (qA (dC (.ty "list")) (qC)))) (qO zX (qA (qB 0) (qA (dC (.ty "list")) (qC)))))) (z9 (dC (.bl false))) (zR)) (qT (sIf (mP (dTr (d2 gNe (qO zX (qA (qB 1) (qA (dC (.ty "tuple")) (qC)))) (qO zX (qA (qB 0) (qA (dC (.ty "tuple")) (qC)))))) (dTr (d2 gNe (qO xY (qA (qB 0) (qC))) (qO xY (qA (qB 1) (qC)))))) (z9 (dC (.bl false))) (zR)) (z9 (qO (mW false) (qA (zC false [none,none] (vO (dH (qA (qB 0) (qA (qB 1) (qC))))) (gTp 2 (xN (gNm 0) (xN (gNm 1) (uW)))) (w6) (zJ (qN 2 (okO S__law_same) (qA (qB 0) (qA (qB 1) (qC)))))) (qC)))))) (zR)) (qT (sIf (dTr (qO zX (qA (qB 1) (qA (dC (.ty "str")) (qC))))) (z9 (gE (qO zX (qA (qB 0) (qA (dC (.ty "str")) (qC)))) (d2 gEq (qB 0) (qB 1)))) (zR)) (qT (sIf (dTr (d2 gNe (qO zX (qA (qB 0) (qA (dC (.ty "bool")) (qC)))) (qO zX (qA (qB 1) (qA (dC (.ty "bool")) (qC)))))) (z9 (dC (.bl false))) (zR)) (z9 (gE (qO zX (qA (qB 0) (qA (dC (.ty "int")) (qC)))) (d2 gEq (qB 0) (qB 1)))))))
def pE:Aj->DF
 |0=>λ_ _=>.bad
 |n+1=>qW 2 (b__law_same (pE n))
@[irreducible] def S__law_same:DF:=sh (pE 4)
theorem u9:S__law_same=pE 4:=by delta S__law_same;exact x5 _
@[reducible] def b__law_cell:DS:=qT (sIf (dTr (d2 gLt (qB 1) (qO xY (qA (qB 0) (qC))))) (z9 (d2 gIx (qB 0) (qB 1))) (zR)) (z9 (dC (.int 0)))
@[irreducible] def S__law_cell:DF:=sh (qW 2 b__law_cell)
theorem u4:S__law_cell=qW 2 b__law_cell:=by delta S__law_cell;exact x5 _
@[reducible] def b__law_pen:DS:=z9 (gQ (qA (qB 0) (qA (qO dM (qA (d2 gGe (qB 0) (d2 t7 (dC (.int 10)) (dC (.int 18)))) (qC))) (qC))))
@[irreducible] def S__law_pen:DF:=sh (qW 1 b__law_pen)
theorem jL:S__law_pen=qW 1 b__law_pen:=by delta S__law_pen;exact x5 _
@[reducible] def b__law_draw:DS:=qT (sIf (dTr (d2 gEq (d2 gIx (qB 0) (dC (.int 1))) (dC (.int 1)))) (qT (zA (d2 uV (d2 gIx (qB 0) (dC (.int 0))) (qB 1)) (gNm 2)) (qT (zA (d2 gH (d2 gIx (qB 0) (dC (.int 0))) (qB 1)) (gSb (qB 0) (dC (.int 0)) y7)) (z9 (qB 2)))) (zR)) (qT (zA (d2 uV (d2 zI (d2 yJ (d2 uV (d2 gIx (qB 0) (dC (.int 0))) (dC (.int 2147483629))) (dC (.int 48271))) (dC (.int 11))) (dC (.int 2147483629))) (gSb (qB 0) (dC (.int 0)) y7)) (z9 (d2 uV (d2 gH (d2 uV (d2 zI (d2 yJ (d2 gIx (qB 0) (dC (.int 0))) (d2 gIx (qB 0) (dC (.int 0)))) (d2 yJ (dC (.int 40692)) (d2 gIx (qB 0) (dC (.int 0))))) (dC (.int 2147483647))) (dC (.int 8))) (qB 1))))
@[irreducible] def S__law_draw:DF:=sh (qW 3 b__law_draw)
theorem u7:S__law_draw=qW 3 b__law_draw:=by delta S__law_draw;exact x5 _
@[reducible] def b__law_no_number:DS:=qT (zA (xJ (qA (d2 yH (qB 1) (dC (.int 1))) (qA (d2 zI (qB 2) (dC (.int 1))) (qA (d2 yH (d2 yH (dC (.int 0)) (qB 2)) (dC (.int 1))) (qA (d2 zI (d2 zI (qB 2) (dC (.int 1))) (qN 2 S__law_draw (qA (qB 0) (qA (d2 t7 (dC (.int 10)) (dC (.int 9))) (qC))))) (qA (dC (.bl true)) (qC))))))) (gNm 3)) (qT (zA (d2 zI (qB 3) (xJ (qA (dC (.bl false)) (qC)))) (gNm 3)) (z9 (d2 gIx (d2 zI (qB 3) (xJ (qA (dC .non) (qA (dC (.str "1")) (qA (xC (qA (dC (.int 1)) (qC))) (qA (xJ (qA (dC (.int 1)) (qC))) (qA (fP) (qA (d2 t7 (dC (.int 10)) (dC (.int 29))) (qC))))))))) (qN 2 S__law_draw (qA (qB 0) (qA (dC (.int 12)) (qC)))))))
@[irreducible] def S__law_no_number:DF:=sh (qW 4 b__law_no_number)
theorem wO:S__law_no_number=qW 4 b__law_no_number:=by delta S__law_no_number;exact x5 _
@[reducible] def b__law_combos:DS:=qT (zA (xJ (qA (xC (qC)) (qC))) (gNm 2)) (qT (jF (yC (qB 0)) (gNm 3) (zA (d2 zI (qB 2) (zC false [none,Ab 1,Ab 3] (dIt (qB 2)) (gNm 0) (vK (dTr (d2 gLt (qO xY (qA (qB 0) (qC))) (qB 1))) (w6)) (zJ (d2 zI (qB 0) (xC (qA (qB 2) (qC))))))) (gNm 2))) (z9 (qO yV (qA (zC false [none,Ab 1] (dIt (qB 2)) (gNm 0) (vK (dTr (d2 gEq (qO xY (qA (qB 0) (qC))) (qB 1))) (w6)) (zJ (qB 0))) (qC)))))
@[irreducible] def S__law_combos:DF:=sh (qW 4 b__law_combos)
theorem yP:S__law_combos=qW 4 b__law_combos:=by delta S__law_combos;exact x5 _
@[reducible] def b__law_unlike:DS:=qT (zA (zC false [none] (dIt (qN 2 S__law_combos (qA (qB 0) (qA (dC (.int 2)) (qC))))) (gNm 0) (w6) (zJ (d2 yH (d2 gIx (qB 0) (dC (.int 1))) (d2 gIx (qB 0) (dC (.int 0)))))) (gNm 1)) (z9 (d2 gEq (yS (qB 1)) (qO xY (qA (qB 1) (qC)))))
@[irreducible] def S__law_unlike:DF:=sh (qW 2 b__law_unlike)
theorem yQ:S__law_unlike=qW 2 b__law_unlike:=by delta S__law_unlike;exact x5 _
@[reducible] def b__law_shortest:DS:=qT (sIf (dTr (d2 gEq (qB 0) (dC (.int 1)))) (z9 (xC (qA (dC (.int 0)) (qA (xJ (qA (xC (qA (dC (.int 0)) (qC))) (qC))) (qC))))) (zR)) (qT (zA (xC (qA (d2 yH (qB 0) (dC (.int 2))) (qA (xJ (qC)) (qC)))) (gTp 2 (xN (gNm 1) (xN (gNm 2) (uW))))) (qT (kD (dTr (d2 gEq (qB 2) (xJ (qC)))) (qT (zA (d2 zI (qB 1) (dC (.int 1))) (gNm 1)) (qT (zA (qN 2 S__law_combos (qA (fS false (qA (dC (.int 1)) (qA (qB 1) (qC)))) (qA (d2 yH (qB 0) (dC (.int 2))) (qC)))) (gNm 3)) (qT (zA (zC false [none,Ab 1] (dIt (qB 3)) (gNm 0) (w6) (zJ (d2 zI (d2 zI (xC (qA (dC (.int 0)) (qC))) (qB 0)) (xC (qA (qB 1) (qC)))))) (gNm 4)) (zA (zC false [none] (dIt (qB 4)) (gNm 0) (vK (dTr (qN 1 (okO S__law_unlike) (qA (qB 0) (qC)))) (w6)) (zJ (qB 0))) (gNm 2)))))) (z9 (xC (qA (qB 1) (qA (qB 2) (qC)))))))
@[irreducible] def S__law_shortest:DF:=sh (qW 5 b__law_shortest)
theorem yB:S__law_shortest=qW 5 b__law_shortest:=by delta S__law_shortest;exact x5 _
@[reducible] def b_law (c:Cl):DS:=qT (jF (yC (d2 zI (xJ (qA (qN 2 S__law_cell (qA (qB 0) (qA (dC (.int 0)) (qC)))) (qC))) (dSl (qB 0) (yD (dC (.int 1))) (yD (dC (.int 2)))))) (gNm 1) (qT (zA (qN 1 S__law_pen (qA (qB 1) (qC))) (gNm 2)) (qT (jF (yC (xC (qA (d2 zI (dC (.int 1)) (qN 2 S__law_draw (qA (qB 2) (qA (dC (.int 6)) (qC))))) (qA (d2 zI (dC (.int 1)) (qN 2 S__law_draw (qA (qB 2) (qA (dC (.int 5)) (qC))))) (qC))))) (gNm 3) (qT (zA (qN 1 S__law_shortest (qA (qB 3) (qC))) (gTp 2 (xN (gNm 4) (xN (gNm 5) (uW))))) (qT (sIf (vL (dTr (qN 2 S__law_same (qA (qN 1 (S_shortest c) (qA (qB 3) (qC))) (qA (qB 4) (qC)))))) (z9 (dC (.bl false))) (zR)) (jF (gF (qA (dC (.int 2)) (qC))) (gNm 6) (qT (zA (qN 1 (S_shortest_marks c) (qA (qB 3) (qC))) (gNm 7)) (qT (sIf (vL (dTr (qN 2 (vP S__law_same) (qA (qB 7) (qA (qB 5) (qC)))))) (z9 (dC (.bl false))) (zR)) (yA (dBm "list" wU (qB 7) (qA (xC (qC)) (qC)))))))))) (qT (zA (qN 3 S__law_no_number (qA (qB 2) (qA (dC (.int 1)) (qA (dC (.int 6)) (qC))))) (gNm 8)) (jF (yC (xC (qA (qB 8) (qA (dC (.int 0)) (qA (dC (.int 7)) (qA (dC (.bl true)) (qC))))))) (gNm 9) (qT (sIf (dTr (d2 gNe (uD false [9] 1 2 (qC) (b__law_refused c (k9 (qN 1 (S_shortest c) (qA (qB 0) (qC)))))) (dC (.str "number")))) (z9 (dC (.bl false))) (zR)) (sIf (dTr (d2 gNe (uD false [9] 1 2 (qC) (b__law_refused c (k9 (qN 1 (S_shortest_marks c) (qA (qB 0) (qC)))))) (dC (.str "number")))) (z9 (dC (.bl false))) (zR)))))))) (z9 (dC (.bl true)))
end _K
namespace _K
open PySem _D
variable {cl:Aa Ad}{C:Ad}{i:Aj}{d:D}{f:DE}{Q:D->Sto->Prop}{S:Sto}{env:qE}
theorem WV (h:Pn d)(S:Sto):S_is_whole [d] S=.ok (.bl (isW d)) S:=by
 rw[jM];obtain⟨p,h⟩:=h;cases d <;> first|kernel_rfl!|simp[pyD] at h
theorem tJ (h:Pn d)(a b:Am)(S:Sto):S_is_within [d,.int a,.int b] S=.ok (.bl (inR a b d)) S:=by
 rw[uA];refine zL (zH (env:=[Ab d,Ab (.int a),Ab (.int b)]) rfl ?_);rfl';refine QD ?_;rfl';refine qQ (WV h S) ⟨_,rfl,λe=>?_,λe=>?_⟩
 .cases d with
  |int i=>exact XX rfl rfl rfl ⟨rfl,rfl⟩
  |_=>cases e
 .cases d <;> first|exact⟨rfl,rfl⟩|cases e
theorem XU (c:Cl){i a b:Am}(S:Sto)(h:a<=i/\i<=b):S_need_within c [.int i,.int a,.int b] S=.ok .non S:=by
 rw[w5];refine zL (zH (env:=[Ab (.int i),Ab (.int a),Ab (.int b)]) rfl ?_);rfl';refine qQ (tJ ⟨.int i,rfl⟩ a b S) ?_;rw[show inR a b (.int i)=true from By h]
 rfl';exact⟨rfl,rfl⟩
theorem rO (a:Am)(S:Sto)(h:a.natAbs.log2<1920):vY (.int a) S=.ok (.str (toString a)) S:=by
 unfold vY;simp only[h,Bq]
noncomputable def UK (a b:Am):Aa An:=[ES++("a whole number from " : An),ES++("a whole number from " : An)++((toString a:Bg):An),ES++("a whole number from " : An)++((toString a:Bg):An)++(" to " : An),ES++("a whole number from " : An)++((toString a:Bg):An)++(" to " : An)++((toString b:Bg):An),ES++("a whole number from " : An)++((toString a:Bg):An)++(" to " : An)++((toString b:Bg):An)++(" is needed" : An)]
noncomputable def Q9 (a b:Am):Ap:=decide (a.natAbs.log2<1920)&&decide (b.natAbs.log2<1920)&&(UK a b).all λm=>decide (m.length<=lim)
theorem jZ {out y:An}{p:DE}{ps:Aa DE}{S1:Sto}(h:p env S=.ok (.str y) S1)(hl:(out++y).length<=lim):j7 out (p::ps) env S=j7 (out++y) ps env S1:=by
 show ((p env S).bind λd S1=>match d with|.str y=>if (out++y).length<=lim then j7 (out++y) ps env S1 else .bad|_=>.bad)=_
 rw[h];exact AA hl
theorem WW {v:Ac}{y:An}(h:f env S=.ok (.str y) S):uI v (qA f (qC)) env S=.ex v .non env S:=by
 unfold uI;rw[YW h];show (if ([D.str y]:Aa D).length<=lim then Out.ex v D.non env S else Out.bad)=_
 exact AA (Dy rfl)
theorem XT (c:Cl){d:D}{a b:Am}(S:Sto)(hm:Q9 a b=true)(h:Pn d)(k:inR a b d=false):S_need_within c [d,.int a,.int b] S=.ex (.ref c.NoNumber) .non S:=by
 simp only[Q9,UK,HJ,List.all_nil,A5,Nu,AI] at hm;obtain⟨⟨la,lb⟩,j1,j2,j3,j4,j5⟩:=hm;have hj:fR [dC (.str "a whole number from "),d1 vY (qB 1),dC (.str " to "),d1 vY (qB 2),dC (.str " is needed")] [Ab d,Ab (.int a),Ab (.int b)] S=.ok (.str (ES++("a whole number from " : An)++((toString a:Bg):An)++(" to " : An)++((toString b:Bg):An)++(" is needed" : An))) S:=
  (jZ rfl j1).trans ((jZ (rO a S la) j2).trans ((jZ rfl j3).trans ((jZ (rO b S lb) j4).trans ((jZ rfl j5).trans (AA j5)))))
 rw[w5];refine tP (env:=[Ab d,Ab (.int a),Ab (.int b)]) (env':=[Ab d,Ab (.int a),Ab (.int b)]) rfl ?_;refine GY (zL (UN (M3 (eK (yE (o_v rfl (yE (o_v rfl (yE (o_v rfl (sC ⟨rfl,qQ ((tJ h a b S).trans (by rw[k])) ⟨_,rfl,rfl,rfl⟩⟩))))))))))) ?_
 exact WW hj
theorem p7 {p:Aj}{m:Am}(h:y6 S p)(hm:0<m/\m<1073741824)(q:∀ (r:Aj) S1,Kp p S S1->(r:Am)<m->Q (.int r) S1):Ok (S__law_draw [.loc p,.int m] S) Q:=by
 have fin:∀ r v f:Am,0<=r->r<m->Q (.int r) (S.set p (.lst [.int v,.int f])):=λr v f h0 h1=>by
  obtain⟨r,rfl⟩:=Int.eq_ofNat_of_zero_le h0;obtain⟨v0,f0,e⟩:=h;have hpl:=(AO.mp e).1;exact q r _ ⟨⟨v,f,by simp[hpl]⟩,by simp,λi hi hn=>Cg (Df hn)⟩ h1
 obtain⟨v,f,e⟩:=h;have hpl:=(AO.mp e).1;rw[u7];refine zH (env:=[Ab (.loc p),Ab (.int m),none]) rfl ?_;rfl';refine vQ e (d:=.int f) rfl ?_;rfl';refine vW (λz=>?_) λz=>?_
 .rfl'
  refine vQ e (d:=.int v) rfl ?_;rfl';refine vQ e (d:=.int v) rfl ?_;rfl';refine eN e rfl ?_;rfl';exact fin _ _ _ (Hi _ om) (Fl _ hm.1)
 .rfl'
  refine vQ e (d:=.int v) rfl ?_;have hv:=Hi v (show (2147483629:Am)≠0 by omega)
  have hv':=Fl v (show (0:Am)<2147483629 by omega)
  rfl';have hw:=Hi (v % 2147483629*48271+11) (show (2147483629:Am)≠0 by omega)
  have hw':=Fl (v % 2147483629*48271+11) (show (0:Am)<2147483629 by omega)
  generalize (v % 2147483629*48271+11) % 2147483629=w at hw hw';refine eN e rfl ?_;have e2:(S.set p (MO.lst [.int w,.int f]))[p]? = Ab (.lst [.int w,.int f]):=by simp[hpl]
  rfl';refine vQ e2 (d:=.int w) rfl ?_;rfl';refine vQ e2 (d:=.int w) rfl ?_;rfl';refine vQ e2 (d:=.int w) rfl ?_;rfl';exact fin _ _ _ (Hi _ om) (Fl _ hm.1)
theorem PR {x:Am}(q:∀ p S1,y6 S1 p->Q (.loc p) S1):Ok (S__law_pen [.int x] S) Q:=by
 rw[jL];refine zH (env:=[Ab (.int x)]) rfl ?_;rfl';refine qQ (d:=.int 1000000000000000000) rfl ?_;rfl';refine qQ (d:=.int (b01 (decide (1000000000000000000<=x)))) rfl ?_;rfl';exact q _ _ ⟨_,_,pQ _ _⟩
theorem PD (nd:cl.Nodup){i j:Aj}{a b:Ad}(ha:cl[i]? = Ab a)(hb:cl[j]? = Ab b)(h:i≠j):(a == b)=false:=by
 rw[Hm];rintro rfl;obtain⟨h1,e1⟩:=AO.mp ha;obtain⟨h2,e2⟩:=AO.mp hb;exact h ((HV nd).mp (e1.trans e2.symm))
theorem PM {B:Ad}(hC:C∈cl)(hB:B∈cl)(q:Q (.bl (C == B)) S):Ok (zE cl [.exn (.ref C),.obj B] S) Q:=by
 refine⟨_,_,?_,q⟩;show (if (cl.contains C&&cl.contains B)=true then Res.ok (D.bl (C == B)) S else .bad)=_
 rw[Ct.mpr hC,Ct.mpr hB];rfl
theorem PN (hC:C∈cl)(q:Q (.bl true) S):Ok (zE cl [.exn (.ref C),.ty "ValueError"] S) Q:=by
 refine⟨_,_,?_,q⟩;show (if (cl.contains C&&(("ValueError" : Bg) == "ValueError"))=true then Res.ok (D.bl true) S else .bad)=_
 rw[Ct.mpr hC];rfl
theorem PC (nd:cl.Nodup){i j:Aj}{a b:Ad}(ha:cl[i]? = Ab a)(hb:cl[j]? = Ab b):decide (i=j)=(a == b):=by
 by_cases h:i=j
 .subst h
  cases ha.symm.trans hb;rw[By rfl,Dk]
 .rw[Bo h,PD nd ha hb h]
theorem uE (c:Cl)(nd:(x9 c).Nodup)(S:Sto):S__law_kinds c [.exn (.ref c.NoNumber)] S=.ok (.str "number") S:=by
 have s:∀ {Q:D->Sto->Prop} (j:Aj) {B:Ad},(x9 c)[j]? = Ab B->Q (.bl (decide (2=j))) S->Ok (zE (x9 c) [.exn (.ref c.NoNumber),.obj B] S) Q:=λj B h q=>PM (Be (i:=2) rfl) (Be h) (PC nd (i:=2) rfl h▸q);rw[vI];refine zL (zH (env:=[Ab (.exn (.ref c.NoNumber)),none,none]) rfl ?_);rfl';refine s 0 rfl ?_;rfl';refine s 1 rfl ?_;rfl';refine s 2 rfl ?_;rfl';refine s 3 rfl ?_;rfl';refine s 4 rfl ?_;rfl';refine s 5 rfl ?_;rfl';refine v8 (Dy rfl) ?_;rfl';refine s 6 rfl ?_;rfl';refine s 7 rfl ?_;rfl';refine s 8 rfl ?_;rfl';refine v8 (Dy rfl) ?_;rfl';refine s 9 rfl ?_;rfl';refine s 10 rfl ?_;rfl';refine v8 (Dy rfl) ?_;rfl';refine QL ?_;rfl';refine PN (Be (i:=2) rfl) ?_;rfl';refine⟨(λe=>by cases e),λ_=>?_⟩
 rfl';refine qQ (d:=.int 1) (S:=S) (by kernel_rfl!) ?_
 rfl';refine vW (λ_=>?_) λe=>absurd rfl e;rfl';refine s 9 rfl ?_;rfl';refine vW (λe=>absurd e (by decide)) λ_=>?_
 rfl';refine s 10 rfl ?_;rfl';refine vW (λe=>absurd e (by decide)) λ_=>?_
 rfl';refine qQ (d:=.int 2) (S:=S) (by kernel_rfl!) ?_
 exact sA (d:=.str "number") rfl ⟨rfl,rfl⟩
noncomputable def sq (b:Ap)(ws:Aa D):D:=match b with
 |true=>.tup ws
 |false=>.lst ws
theorem oW (ws:Aa D):vH ws ws=ws.map λx=>D.tup [x,x]:=by
 induction ws with
 |nil=>rfl
 |cons w ws ih=>exact congrArg (D.tup [w,w]::·) ih
theorem tQ (F:DF)(b:Ap)(ws:Aa D)(S:Sto)(hw:ws.length<=lim)(ih:∀ x∈ws,F [x,x] S=.ok (.bl true) S):qW 2 (b__law_same F) [sq b ws,sq b ws] S=.ok (.bl true) S:=by
 have t1:zX [sq b ws,.ty "list"] S=.ok (.bl (!b)) S:=by cases b <;> kernel_rfl!
 have t2:zX [sq b ws,.ty "tuple"] S=.ok (.bl b) S:=by cases b <;> kernel_rfl!
 have t3:uU [sq b ws,.tup [.ty "list",.ty "tuple"]] S=.ok (.bl true) S:=by cases b <;> kernel_rfl!
 have l:xY [sq b ws] S=.ok (.int ws.length) S:=by cases b <;> rfl
 have n:∀ x:Ap,gNe (.bl x) (.bl x) S=.ok (.bl false) S:=λx=>by cases x <;> rfl
 have hz:vO (dH (qA (qB 0) (qA (qB 1) (qC)))) [Ab (sq b ws),Ab (sq b ws)] S=.ok (none,ws.map λx=>D.tup [x,x]) S:=by
  rw[<- oW];cases b <;> rfl
 refine zL (zH (env:=[Ab (sq b ws),Ab (sq b ws)]) rfl ?_);rfl';refine qQ (d:=.bl false) (S:=S) (by cases b <;> rfl) ?_
 rfl';refine qQ t3 ?_;rfl';refine qQ t1 ?_;rfl';refine qQ t1 ?_;rfl';refine qQ (n _) ?_;rfl';refine QL ?_;rfl';refine qQ t2 ?_;rfl';refine qQ t2 ?_;rfl';refine qQ (n _) ?_;rfl';refine⟨(λe=>by cases e),λ_=>?_⟩
 rfl';refine qQ l ?_;rfl';refine qQ l ?_;rfl';refine vW (λ_=>?_) λe=>absurd rfl e;rfl';refine UL ws (λ_=>.bl true) (λenv S'=>S'=S/\∃ a b,env=[a,b]) hz ⟨rfl,none,none,rfl⟩ hw (λ_ _ _=>trivial) (λx hx env S' ⟨e1,a,b,e2⟩=>?_) λenv S' ⟨e1,_⟩=>?_
 .subst e1 e2
  rfl';exact qQ (ih x hx) ⟨rfl,rfl,_,_,rfl⟩
 .subst e1
  rfl';exact PH (p:=λ_=>true) ⟨by simp,rfl⟩
theorem kS (F:DF){d:D}(S:Sto)(h1:gIs d .non S=.ok (.bl false) S)(h2:uU [d,.tup [.ty "list",.ty "tuple"]] S=.ok (.bl false) S)(h3:zX [d,.ty "str"] S=.ok (.bl false) S){b:Ap}(h4:zX [d,.ty "bool"] S=.ok (.bl b) S)(h5:zX [d,.ty "int"] S=.ok (.bl true) S)(h6:gEq d d S=.ok (.bl true) S):qW 2 (b__law_same F) [d,d] S=.ok (.bl true) S:=by
 refine zL (zH (env:=[Ab d,Ab d]) rfl ?_);rfl';refine qQ h1 ?_;rfl';refine qQ h2 ?_;rfl';refine qQ h3 ?_;rfl';refine qQ h4 ?_;rfl';refine qQ h4 ?_;rfl';refine qQ (d:=.bl false) (S:=S) (by cases b <;> rfl) ?_
 rfl';refine QD ?_;rfl';refine qQ h5 ⟨_,rfl,λ_=>?_,λe=>by cases e⟩
 rfl';exact qQ h6 ⟨rfl,rfl⟩
def okD:Aj->D->Prop
 |n+1,.tup xs=>xs.length<=lim/\∀ x∈xs,okD n x
 |n+1,.lst xs=>xs.length<=lim/\∀ x∈xs,okD n x
 |_,.int _=>Fy
 |_,.bl _=>Fy
 |_,_=>Cp
theorem cA:∀ (n:Aj) (d:D) (S:Sto),okD n d->pE (n+1) [d,d] S=.ok (.bl true) S:=by
 intro n
 induction n with
 |zero =>
  intro d S h;cases d with
  |int i=>exact kS _ S rfl (by kernel_rfl!) (by kernel_rfl!) (b:=false) (by kernel_rfl!) (by kernel_rfl!) (zL (UM ⟨by rw[By rfl],rfl⟩))
  |bl b=>exact kS _ S rfl (by kernel_rfl!) (by kernel_rfl!) (b:=true) (by kernel_rfl!) (by kernel_rfl!) (by cases b <;> rfl)
  |_=>exact Al h
 |succ n ih =>
  intro d S h;cases d with
  |tup ws=>exact tQ _ true ws S h.1 λx hx=>ih x S (h.2 x hx)
  |lst ws=>exact tQ _ false ws S h.1 λx hx=>ih x S (h.2 x hx)
  |int i=>exact kS _ S rfl (by kernel_rfl!) (by kernel_rfl!) (b:=false) (by kernel_rfl!) (by kernel_rfl!) (zL (UM ⟨by rw[By rfl],rfl⟩))
  |bl b=>exact kS _ S rfl (by kernel_rfl!) (by kernel_rfl!) (b:=true) (by kernel_rfl!) (by kernel_rfl!) (by cases b <;> rfl)
  |_=>exact Al h
theorem c6 (S:Sto)(h:okD 3 d):S__law_same [d,d] S=.ok (.bl true) S:=by
 rw[u9];exact cA 3 d S h
theorem FI {a:Ad}{cv:Aa _L.V}{G:Aa D->DF}{caps:Aa D}(h:env[i]? = Ab (Ab (.clo a cv caps))):uQ i (qC) a cv 0 G env S=G caps [] S:=by
 unfold uQ;rw[h];show (if a=a/\cv=cv then _ else _)=_
 rw[AA ⟨rfl,rfl⟩];rfl
theorem QM {c:Cl}{wd:An}{cap:Aa Aj}{fe:DE}(hC:(uB c).contains (.ref C)=true)(hk:∀ S,S__law_kinds c [.exn (.ref C)] S=.ok (.str wd) S){caps:Aa D}(h:gC cap env=Ab caps){x:D}(e:fe (caps.map Ab) S=.ex (.ref C) x S)(q:Q (.str wd) S):Ok (uD false cap 1 2 (qC) (b__law_refused c (k9 fe)) env S) Q:=by
 refine⟨_,_,?_,q⟩;unfold uD;rw[h];show (if 0+1=1 then exO false (uni λa cv=>qW 2 (b__law_refused c (k9 fe) a cv) [.clo a cv caps] S) else .bad)=_
 rw[AA rfl,KR (R:=.ok (.str wd) S) λa cv=>?_]
 .rfl
 .have e':uQ 0 (qC) a cv 0 (k9 fe) [Ab (.clo a cv caps),none] S=.ex (.ref C) x S:=(FI rfl).trans (by unfold k9;exact e)
  refine zL (zH (env:=[Ab (.clo a cv caps),none]) rfl ?_);refine BV ?_;have k:gM 2 1 (uB c) (yA (uQ 0 (qC) a cv 0 (k9 fe))) (z9 (qN 1 (S__law_kinds c) (qA (qB 1) (qC)))) [Ab (.clo a cv caps),none] S=.rt (.str wd) S:=by
   unfold gM yA;rw[e'];simp only[Res.toS,hC,Bq];have z:qN 1 (S__law_kinds c) (qA (qB 1) (qC)) ((DH 2 none).set 1 (Ab (.exn (.ref C)))) S=.ok (.str wd) S:=(uM rfl).trans (hk S);simp only[z9,z,Res.toS]
  rw[k];exact⟨rfl,rfl⟩
theorem WT (ns:Aa Am)(hl:ns.length<=63)(k:Am){Q:Aa D->Sto->Prop}{env:qE}{S:Sto}(h0:env[0]? = Ab (Ab (.lst (ns.map D.int))))(q:∀ ms:Aa Am,Q (ms.map D.int) S):Ok (yC (d2 zI (xJ (qA (qN 2 S__law_cell (qA (qB 0) (qA (dC (.int 0)) (qC)))) (qC))) (dSl (qB 0) (yD (dC (.int 1))) (yD (dC (.int k))))) env S) Q:=by
 have hc:∃ x:Am,S__law_cell [.lst (ns.map D.int),.int 0] S=.ok (.int x) S:=by
  rw[u4];cases ns with
  |nil=>exact⟨0,zL (zH (env:=[Ab (.lst []),Ab (.int 0)]) rfl (by rfl';exact⟨rfl,rfl⟩))⟩
  |cons n ns =>
   refine⟨n,zL (zH (env:=[Ab (.lst ((n::ns).map D.int)),Ab (.int 0)]) rfl ?_)⟩;rfl';refine vW (λ_=>?_) λe=>absurd (by rw[Az,AG];omega) e
   rfl';exact sA (cS (a:=0) (by simp)) ⟨rfl,rfl⟩
 obtain⟨x,hx⟩:=hc;refine XY (o_2 (PQ (yE (eK (yE (o_v h0 ?_))))));rfl';refine qQ hx ?_;rfl';refine o_v h0 ?_;rfl';have hm:wF (ns.map D.int) (Ab 1) (Ab k)=((ns.drop (_H.sIx (ns.map D.int).length 0 (Ab 1))).take (_H.sIx (ns.map D.int).length (ns.map D.int).length (Ab k)-_H.sIx (ns.map D.int).length 0 (Ab 1))).map D.int:=by
  unfold wF;rw[List.map_take,NC]
 rw[hm];refine v8 ?_ ⟨_,rfl,q (x::_)⟩;rw[Az,Du,Gg];show 1+_<=lim;unfold lim;omega
def NoN (a b:Am)(d:D):Prop:=Pn d/\inR a b d=false
theorem nG {p:Aj}{a b:Am}(hab : -1000000000<=a/\a<=b/\b<=1000000000/\0<=b /\ -b-1<a)(h:y6 S p):Ok (S__law_no_number [.loc p,.int a,.int b] S) λd S1=>NoN a b d/\Kp p S S1:=by
 rw[wO];refine zH (env:=[Ab (.loc p),Ab (.int a),Ab (.int b),none]) rfl ?_;rfl';refine qQ (d:=.int 1000000000) rfl ?_;rfl';refine p7 h li λw S1 k1 hw=>?_;rfl';refine v8 (Dy rfl) ?_;rfl';refine qQ (d:=.int 100000000000000000000000000000) rfl ?_;rfl';refine v8 (Dy rfl) ?_;rfl';refine p7 k1.pen li λw2 S2 k2 hw2=>?_;rfl';refine PP (show w2<12 by lia) λd hd=>?_
 rfl';refine⟨?_,k1.trans k2⟩;have io:∀ i:Am,¬ (a<=i/\i<=b)->NoN a b (.int i):=λi h=>⟨⟨.int i,rfl⟩,Bo h⟩;simp only[Im,DY,AR,Cu,E1] at hd;rcases hd with rfl|rfl|rfl|rfl|rfl|rfl|rfl|rfl|rfl|rfl|rfl|rfl
 .exact io _ li
 .exact io _ li
 .exact io _ li
 .exact io _ li
 .exact⟨⟨_,rfl⟩,rfl⟩
 .exact⟨⟨_,rfl⟩,rfl⟩
 .exact⟨⟨_,rfl⟩,rfl⟩
 .exact⟨⟨_,rfl⟩,rfl⟩
 .exact⟨⟨_,rfl⟩,rfl⟩
 .exact⟨⟨_,rfl⟩,rfl⟩
 .exact⟨⟨_,rfl⟩,rfl⟩
 .exact io _ li
theorem QH (h:Ok (f env S) λd S1=>∃ ns:Aa Am,dY d S1=Ab (ns.map D.int)/\ns.length<4000/\Q (.int (dJ ns:Aj)) S1):Ok (yS f env S) Q:=qX (zF h λd S1 ⟨ns,e,l,q⟩=>⟨_,_,by rw[e,Me,bZ];exact AA l,q⟩)
theorem BF (ns:Aa Am)(hl:ns.length<4000)(S:Sto):S_are_all_unlike [.lst (ns.map D.int)] S=.ok (.bl (decide (((dJ ns:Aj):Am)=(ns.length:Am)))) S:=by
 rw[wQ];refine zL (zH (env:=[Ab (.lst (ns.map D.int))]) rfl ?_);array_get_dec;array_get_dec;refine QH ?_;refine o_v rfl ⟨ns,rfl,hl,?_⟩;rfl';rw[Az];exact⟨rfl,rfl⟩
theorem kI {b:Ap}(h:f env S=.ok (.bl b) S):vK (dTr f) w6 env S=.ok b S:=by
 unfold vK;rw[BN h];cases b <;> rfl
theorem G9 {xs:Aa D}(h:xs≠[]):_L.atI xs (-1)=Ab (xs.getLast h):=by
 have hp:=List.length_pos_iff.mpr h;have e:_L.ixN xs.length (-1)=Ab (xs.length-1):=by
  unfold _L.ixN;simp
  lia
 unfold _L.atI;rw[e];show xs[xs.length-1]? = _;rw[List.getLast_eq_getElem,Ax li]
noncomputable def df:Aa Am->Aa Am
 |[]=>[]
 |a::r=>r.map (λb=>b-a)++df r
noncomputable def unl (r:Aa Am):Ap:=decide (((dJ (df r):Aj):Am)=((df r).length:Am))
theorem gT:∀ r:Aa Am,(df r).length<=r.length*r.length
 |[]=>Ar _
 |a::r=>by
  have:=gT r;show (r.map (λb=>b-a)++df r).length<=_;rw[AT,Az,AG,Nat.add_mul,Nat.mul_add]
  lia
noncomputable def en:Aj->Aa Am->Aa (Aj × Am)
 |_,[]=>[]
 |k,x::xs=>(k,x)::en (k+1) xs
theorem Q3:∀ (l:Aa Am) (k:Aj),eL k (l.map D.int)=(en k l).map λp=>D.tup [.int (p.1:Am),.int p.2]
 |[],_=>rfl
 |x::l,k=>by
  show D.tup [.int (k:Am),.int x]::eL (k+1) (l.map D.int)=_;rw[Q3 l (k+1)];rfl
theorem Q2 (r:Aa Am):∀ (l:Aa Am) (k:Aj),r.drop k=l->((en k l).flatMap λp=>(r.drop (p.1+1)).map λy=>D.int (y-p.2))=(df l).map D.int
 |[],_,_=>rfl
 |x::l,k,h=>by
  have hl:r.drop (k+1)=l:=by
   have:=congrArg List.tail h;simpa [List.tail_drop] using this
  show (r.drop (k+1)).map (λy=>D.int (y-x))++((en (k+1) l).flatMap λp=>(r.drop (p.1+1)).map λy=>D.int (y-p.2))=((l.map λb=>b-x)++df l).map D.int;rw[Q2 r l (k+1) hl,hl,Dr,Dl];rfl
theorem K6 (r:Aa Am)(hr:r.length<=50)(S:Sto):S_differences [tpD r] S=.ok (.lst ((df r).map D.int)) S:=by
 have hl:=gT r;have h2:r.length*r.length<=50*50:=Jk hr hr;rw[yR];refine zL (zH (env:=[Ab (.tup (r.map D.int))]) rfl ?_);rfl';have e:=Q2 r r 0 rfl;have hi:vO (fQ (qA (qB 0) (qC))) [Ab (.tup (r.map D.int))] S=.ok (none,(en 0 r).map λp=>D.tup [.int (p.1:Am),.int p.2]) S:=by
  rw[<- Q3,<- aX];rfl
 refine qQ (nU (xs:=en 0 r) (enc:=λp=>D.tup [.int (p.1:Am),.int p.2]) (enc2:=D.int) (o:=none) (o2:=none) hi trivial trivial (λp=>r.drop (p.1+1)) (λ_ _=>true) (λp y=>.int (y-p.2)) (λenv=>∃ a b c,env=[a,b,c,Ab (.tup (r.map D.int))]) (λp env=>∃ c,env=[Ab (.int (p.1:Am)),Ab (.int p.2),c,Ab (.tup (r.map D.int))]) ⟨none,none,none,rfl⟩ (λp env ⟨c,e⟩=>⟨_,_,_,e⟩) ?_ (λp hp env ⟨a,b,c,e⟩=>?_) λp hp y hy env ⟨c,e⟩=>?_) ?_
 .simp only[D9.mpr λ_ _=>rfl]
  rw[e,Az];unfold lim
  lia
 .subst e
  refine⟨_,rfl,⟨_,rfl⟩,rfl,?_⟩;show Res.ok (none,wF (r.map D.int) (Ab ((p.1:Am)+1)) none) S=_;rw[a9,NC]
 .subst e
  exact⟨_,rfl,⟨_,rfl⟩,rfl,λ_=>rfl⟩
 .simp only[D9.mpr λ_ _=>rfl]
  rw[e];rfl';exact⟨rfl,rfl⟩
theorem K8 (r:Aa Am)(hr:r.length<=50)(S:Sto){env:qE}{i:Aj}(h:env[i]? = Ab (Ab (tpD r))):qN 1 (okO S_are_all_unlike) (qA (qN 1 (okO S_differences) (qA (qB i) (qC))) (qC)) env S=.ok (.bl (unl r)) S:=by
 have hl:=gT r;have h2:r.length*r.length<=50*50:=Jk hr hr;exact(uM (a:=.lst ((df r).map D.int)) ((uM (a:=tpD r) (pI h)).trans (p8 (K6 r hr S)))).trans (p8 (BF (df r) li S))
noncomputable def cmb:Aj->Aa Am->Aa (Aa Am)
 |0,_=>[[]]
 |_+1,[]=>[]
 |k+1,a::r=>(cmb k r).map (a::·)++cmb (k+1) r
theorem yM:∀ {k:Aj} {ms l:Aa Am},l∈cmb k ms->l.length=k/\∀ x∈l,x∈ms
 |0,ms,l,h=>by
  have:l=[]:=by cases ms <;> simpa [cmb] using h
  subst this;exact⟨rfl,λ_ h=>by cases h⟩
 |k+1,[],l,h=>by cases h
 |k+1,a::r,l,h=>by
  rcases AX.mp (show l∈(cmb k r).map (a::·)++cmb (k+1) r from h) with h|h
  .obtain⟨l',h',rfl⟩:=Bs.mp h
   obtain⟨h1,h2⟩:=yM h';refine⟨by rw[AG,h1],λx hx=>?_⟩
   rcases AR.mp hx with rfl|hx
   .exact .head _
   .exact .tail _ (h2 x hx)
  .obtain⟨h1,h2⟩:=yM h
   exact⟨h1,λx hx=>.tail _ (h2 x hx)⟩
theorem mH:∀ {k:Aj} {ms:Aa Am},ms.Pairwise (· < ·) -> (cmb k ms).Pairwise λa b=>_H.lexLt a b=true
 |0,ms,_=>by cases ms <;> simp[cmb]
 |k+1,[],_=>.nil
 |k+1,a::r,u=>by
  obtain⟨u1,u2⟩:=Kx.mp u;show ((cmb k r).map (a::·)++cmb (k+1) r).Pairwise _
  rw[Bf];refine⟨?_,mH u2,λx hx y hy=>?_⟩
  .rw[HP]
   refine(mH u2).imp λ{x y} h=>?_;rw[_H.lexLt_cons,AA rfl];exact h
  .obtain⟨x',_,rfl⟩:=Bs.mp hx
   obtain⟨h1,h2⟩:=yM hy;cases y with
   |nil=>cases h1
   |cons b y =>
    have hb:=u1 b (h2 b (.head _));rw[_H.lexLt_cons,AD li];exact By hb
theorem uO (x:Am):∀ (k:Aj) (ms:Aa Am),(cmb (k+1) (ms++[x])).Perm (cmb (k+1) ms++(cmb k ms).map λl=>l++[x])
 |0,[]=>.refl _
 |k+1,[]=>.refl _
 |0,a::r=>by
  have ih:=uO x 0 r;have e0:∀ l,cmb 0 l=[[]]:=λl=>by cases l <;> rfl
  show ((cmb 0 (r++[x])).map (a::·)++cmb 1 (r++[x])).Perm ((cmb 0 r).map (a::·)++cmb 1 r++(cmb 0 (a::r)).map λl=>l++[x])
  rw[e0] at ih;rw[e0,e0,e0,AK];exact Dw _ ih
 |k+1,a::r=>by
  have i1:=uO x k r;have i2:=uO x (k+1) r;show ((cmb (k+1) (r++[x])).map (a::·)++cmb (k+1+1) (r++[x])).Perm ((cmb (k+1) r).map (a::·)++cmb (k+1+1) r++((cmb k r).map (a::·)++cmb (k+1) r).map λl=>l++[x])
  refine((i1.map (a::·)).append i2).trans ?_
  rw[Dr,Dr,Dl,Dl];have e:((a::·)∘λl:Aa Am=>l++[x])=((λl:Aa Am=>l++[x])∘(a::·)):=rfl
  rw[e,AK,AK];refine Dw _ ?_;rw[<- AK,<- AK];exact DC _ DQ
noncomputable def chS (n:Aj)(f:Aa (Aa Am))(x:Am):Aa (Aa Am):=f++(f.filter λl=>decide (l.length<n)).map λl=>l++[x]
structure Cb (n:Aj)(done:Aa Am)(f:Aa (Aa Am)):Prop where
 all:∀ k,k<=n->(f.filter λl=>decide (l.length=k)).Perm (cmb k done)
 le:f.length<=2 ^ done.length
theorem Z4 {n:Aj}{done:Aa Am}{f:Aa (Aa Am)}(h:Cb n done f)(x:Am):Cb n (done++[x]) (chS n f x):=by
 refine⟨λk hk=>?_,?_⟩
 .unfold chS
  rw[List.filter_append,List.filter_map,List.filter_filter];cases k with
  |zero =>
   have:f.filter (λl=>((λl:Aa Am=>decide (l.length=0))∘λl=>l++[x]) l&&decide (l.length<n))=[]:=List.filter_eq_nil_iff.mpr λl _=>by simp
   rw[this,Ip,CG];have e0:∀ l,cmb 0 l=[[]]:=λl=>by cases l <;> rfl
   rw[e0];have:=h.all 0 (Ek _)
   rwa [e0] at this
  |succ k =>
   have:f.filter (λl=>((λl:Aa Am=>decide (l.length=k+1))∘λl=>l++[x]) l&&decide (l.length<n))=f.filter λl=>decide (l.length=k):=List.filter_congr λl _=>by
    simp only[Function.comp,AT,AG,CO];rw[Bool.eq_iff_iff];simp
    lia
   rw[this];exact((h.all (k+1) hk).append ((h.all k li).map _)).trans (uO x k done).symm
 .unfold chS
  have h1:=h.le;have h2:=ED (λl:Aa Am=>decide (l.length<n)) f;rw[AT,Az,AT,AG,CO,Lp]
  lia
theorem oP {ks:Aa (Aa Am)}(hl:ks.length<=100000)(he:ks.length<=1\/∀ k∈ks,k≠[])(S:Sto):yV [.lst (ks.map tpD)] S=.ok (.lst ((_S.wA _H.lexLt ks).map tpD)) S:=by
 have gen:(∀ k∈ks,k≠[])->b8 [.lst (ks.map tpD)] S=.ok (.lst ((_S.wA _H.lexLt ks).map tpD)) S:=λhe=>by
  show (match (Ab (ks.map tpD)).bind jG with|some ys=>Res.ok (D.lst ys) S|none=>.bad)=_
  rw[Me,WZ ks hl he]
 match ks,hl,he,gen with
 |[],_,_,gen=>exact gen (λ_ h=>by cases h)
 |[k],_,_,_ =>
  have:_S.wA _H.lexLt [k]=[k]:=List.perm_singleton.mp (_S.vS _);rw[this];rfl
 |k::k'::r,_,he,gen =>
  rcases he with he|he
  .simp at he
  .exact gen he
theorem c5 {ms:Aa Am}(hd:xO d=Ab (ms.map D.int))(hl:ms.length<=20)(hu:ms.Pairwise (· < ·))(n:Aj)(hn:n<=5)(hc:(cmb n ms).length<=100000)(S:Sto):S__law_combos [d,.int (n:Am)] S=.ok (.lst ((cmb n ms).map tpD)) S:=by
 rw[yP];refine zL (zH (env:=[Ab d,Ab (.int (n:Am)),none,none]) rfl ?_);array_get_dec;array_get_dec;array_get_dec;array_get_dec;array_get_dec;array_get_dec;array_get_dec;array_get_dec;rfl';refine⟨_,hd,?_⟩;refine vG (λr env S'=>S'=S/\∃ (e3:Ak D) (done:Aa Am) (f:Aa (Aa Am)),env=[Ab d,Ab (.int (n:Am)),Ab (.lst (f.map tpD)),e3]/\done++r=ms/\Cb n done f) ?_ ?_ ⟨rfl,_,[],[[]],rfl,rfl,⟨λk _=>?_,Ar _⟩⟩
 .rintro x r _ S' ⟨rfl,e3,done,f,rfl,hdn,C⟩
  have hfl:f.length<=2 ^ 19:=Bh C.le (EO li (by
   have:=congrArg IU hdn;rw[AT,AG] at this
   lia))
  rfl';refine qQ (uC (xs:=f) (enc:=tpD) (o:=none) (t8 rfl) trivial (λl=>decide (l.length<n)) (λl=>tpD (l++[x])) (λenv=>∃ a,env=[a,Ab (.int (n:Am)),Ab (.int x)]) ⟨none,rfl⟩ (by unfold lim;lia) λl hl env ⟨a,e⟩=>?_) ?_
  .subst e
   refine⟨_,rfl,⟨_,rfl⟩,kI (zL ?_),λhlt=>zL ?_⟩
   .rfl'
    refine eM ?_;rfl';rw[Az];refine⟨?_,rfl⟩
    congr 1
    rw[Mf]
    lia
   .rfl'
    refine p6 ?_ ⟨?_,rfl⟩
    .have:l.length<n:=AU hlt
     rw[Az];unfold lim;simp only[AG,CO]
     lia
    .show D.tup (l.map D.int++[.int x])=D.tup ((l++[x]).map D.int)
     rw[Dr];rfl
  .refine v8 (by
    have:=ED (λl:Aa Am=>decide (l.length<n)) f;rw[Az,Az];unfold lim
    lia) ?_
   rfl';refine kT ⟨rfl,Ab (.int x),done++[x],chS n f x,?_,by rw[<- hdn];simp,Z4 C x⟩
   have:f.map tpD++(f.filter λl=>decide (l.length<n)).map (λl=>tpD (l++[x]))=(chS n f x).map tpD:=by
    unfold chS;rw[Dr,Dl];rfl
   rw[this]
 .rintro _ S' ⟨rfl,e3,done,f,rfl,hdn,C⟩
  have hdn:done=ms:=by simpa using hdn
  subst hdn;have hfl:f.length<=2 ^ 20:=Bh C.le (EO li hl);rfl';refine qQ (uC (xs:=f) (enc:=tpD) (o:=none) (t8 rfl) trivial (λl=>decide (l.length=n)) tpD (λenv=>∃ a,env=[a,Ab (.int (n:Am))]) ⟨none,rfl⟩ (by unfold lim;lia) λl hl env ⟨a,e⟩=>?_) ?_
  .subst e
   refine⟨_,rfl,⟨_,rfl⟩,kI (zL ?_),λ_=>rfl⟩;rfl';refine eM ?_;rfl';rw[Az];refine⟨?_,rfl⟩
   congr 1
   rw[Mf]
   lia
  .rfl'
   have hp:=C.all n (Ar _);have hs:_S.wA _H.lexLt (f.filter λl=>decide (l.length=n))=cmb n done:=by
    refine _S.kO _S.tH (_S.bO _S.tH _) ?_ ((_S.vS _).trans hp);unfold _S.Nf;refine(mH hu).imp λ{a b} h=>?_;cases hh:_H.lexLt b a with
    |false=>rfl
    |true =>
     have:=_S.tH.tr h hh;rw[_S.tH.irr] at this;cases this
   refine qQ (oP (by rw[hp.length_eq];exact hc) ?_ S') ?_
   .cases n with
    |zero =>
     left;rw[hp.length_eq];cases done <;> exact Ar _
    |succ n =>
     right;intro k hk;have:=AU (Gx.mp hk).2;rintro rfl;cases this
   rw[hs];exact⟨rfl,rfl⟩
 .cases k with
  |zero=>exact .refl _
  |succ k=>exact .refl _
noncomputable def zT (a b:Am):Aa Am:=(CJ (b-a).toNat).map λ(i:Aj)=>a+(i:Am)
noncomputable def ext (last:Am)(rows:Aa (Aa Am)):Aa (Aa Am):=rows.flatMap λr=>(zT (r.getLastD 0+1) (last+1)).map λm=>r++[m]
noncomputable def uu:Aj->Am->Aa (Aa Am)
 |0,_=>[[0]]
 |k+1,last=>(ext last (uu k last)).filter unl
theorem b7 {last:Am}(h:last<=17):∀ {rows:Aa (Aa Am)},(∀ r∈rows,0<=r.getLastD 0)->(ext last rows).length<=17*rows.length
 |[],_=>Ar _
 |r::rows,hr=>by
  have ih:=b7 h λr hm=>hr r (.tail _ hm);have h0:=hr r (.head _);show ((zT (r.getLastD 0+1) (last+1)).map (λm=>r++[m])++ext last rows).length<=_;unfold zT;rw[AT,Az,Az,Ed,AG]
  lia
theorem Z0 {last:Am}(h:last<=17):∀ k,(uu k last).length<=17 ^ k/\∀ r∈uu k last,r.length=k+1/\0<=r.getLastD 0/\r.getLastD 0<=17
 |0=>⟨Ar _,show ∀ r∈[[(0:Am)]],r.length=0+1/\0<=r.getLastD 0/\r.getLastD 0<=17 by decide⟩
 |k+1=>by
  obtain⟨h1,h2⟩:=Z0 h k;refine⟨?_,λr hr=>?_⟩
  .have:=b7 h λr hr=>(h2 r hr).2.1
   have l:=ED unl (ext last (uu k last));show ((ext last (uu k last)).filter unl).length<=_;rw[Lp]
   lia
  .obtain⟨r0,hm,hx⟩:=Mi.mp (Gx.mp hr).1
   obtain⟨m,hm2,rfl⟩:=Bs.mp hx;obtain⟨i,hi,rfl⟩:=Bs.mp hm2;have hi:=Dm.mp hi;obtain⟨a,b,_⟩:=h2 r0 hm;refine⟨by rw[AT,a];rfl,?_⟩
   rw[List.getLastD_concat]
   lia
theorem c9 {a b:Am}(h : -1000<=a/\a<=1000 /\ -1000<=b/\b<=1000):vB [.int a,.int b]=Ab ((zT a b).map D.int):=by
 rw[QX];show (if -(2 ^ 62)<=a/\a<2 ^ 62 /\ -(2 ^ 62)<=b/\b<2 ^ 62 then Ab (zU a (b-a).toNat) else none)=_
 rw[AA li];unfold zU zT;rw[Dl];rfl
theorem m8 (r:Aa Am)(h:r≠[]):_L.atI (r.map D.int) (-1)=Ab (.int (r.getLastD 0)):=by
 rw[G9 (by simpa using h),List.getLast_map,List.getLastD_eq_getLast?,List.getLast?_eq_some_getLast h]
 rfl
theorem UP (k:Aj)(hk:k<=5){last:Am}(hl:0<=last/\last<=17){S:Sto}(q:∀ j S',S<+:S'->S.length<=j->S'[j]? = Ab (.lst ((uu k last).map tpD))->Q (.loc j) S'):Ok (S_unlike_up_to [.int ((k:Am)+1),.int last] S) Q:=by
 rw[yI];refine zH (env:=[Ab (.int ((k:Am)+1)),Ab (.int last),none,none,none]) rfl ?_;rfl';refine⟨by lia,by lia,?_⟩
 refine vG (λr env S'=>∃ e3 e4 j i,env=[Ab (.int ((k:Am)+1)),Ab (.int last),Ab (.loc j),e3,e4]/\i+r.length=k/\S<+:S'/\S.length<=j/\S'[j]? = Ab (.lst ((uu i last).map tpD))) ?_ ?_ ⟨_,_,_,0,rfl,by rw[Ed];lia,Eu _ _,Ar _,pQ _ _⟩
 .rintro x r _ S' ⟨e3,e4,j,i,rfl,hi,hp,hj,hS⟩
  obtain⟨u1,u2⟩:=Z0 hl.2 i;have hx:=b7 hl.2 λr hr=>(u2 r hr).2.1;have hx2:17*(uu i last).length<=17*17 ^ 4:=Nat.mul_le_mul_left _ (Bh u1 (EO li (by rw[AG] at hi;lia)))
  have hlim:(ext last (uu i last)).length<=lim:=by unfold lim;lia
  have hfl:(ext last (uu i last)).map tpD=(uu i last).flatMap λr=>(zT (r.getLastD 0+1) (last+1)).map λm=>tpD (r++[m]):=by
   unfold ext;rw[List.map_flatMap]
   congr 1
   funext r
   rw[Dl];rfl
  rfl';refine qQ (nU (xs:=uu i last) (enc:=tpD) (enc2:=D.int) (o2:=none) (FT rfl hS) hS trivial (λr=>zT (r.getLastD 0+1) (last+1)) (λ_ _=>true) (λr m=>tpD (r++[m])) (λenv=>∃ a b,env=[a,b,Ab (.int last)]) (λr env=>∃ b,env=[Ab (tpD r),b,Ab (.int last)]) ⟨none,none,rfl⟩ (λp env ⟨b,e⟩=>⟨_,_,e⟩) ?_ (λr hr env ⟨a,b,e⟩=>?_) λr hr y hy env ⟨b,e⟩=>?_) ?_
  .simp only[D9.mpr λ_ _=>rfl]
   rw[<- hfl,Az];exact hlim
  .subst e
   refine⟨_,rfl,⟨_,rfl⟩,rfl,zL (qX (QN ?_))⟩;obtain⟨a1,a2,a3⟩:=u2 r hr;rfl';refine QF (m8 r λz=>by rw[z] at a1;cases a1) ?_
   rfl';exact⟨_,c9 li,_,_,rfl,rfl,rfl⟩
  .subst e
   refine⟨_,rfl,⟨_,rfl⟩,rfl,λ_=>zL ?_⟩;rfl';refine p6 (by
    rw[Az,(u2 r hr).1];unfold lim;rw[AG] at hi;simp only[AG,CO]
    lia) ⟨?_,rfl⟩
   show D.tup (r.map D.int++[.int y])=D.tup ((r++[y]).map D.int);rw[Dr];rfl
  .simp only[D9.mpr λ_ _=>rfl]
   rw[<- hfl];rfl';refine qQ (cY (xs:=ext last (uu i last)) (enc:=tpD) (o:=none) (t8 rfl) trivial unl tpD (λenv=>∃ a,env=[a]) ⟨none,rfl⟩ hlim λr hr env ⟨a,e⟩=>?_) ?_
   .subst e
    refine⟨_,rfl,⟨_,rfl⟩,kI (K8 r ?_ S' rfl),λ_=>rfl⟩;obtain⟨r0,hm,hx⟩:=Mi.mp hr;obtain⟨m,_,rfl⟩:=Bs.mp hx;rw[AT,(u2 r0 hm).1,E6];rw[AG] at hi
    lia
   .rfl'
    exact kT ⟨_,_,_,i+1,rfl,by rw[AG] at hi;lia,hp.trans (Eu _ _),hp.length_le,pQ _ _⟩
 .rintro _ S' ⟨e3,e4,j,i,rfl,hi,hp,hj,hS⟩
  have hi:i=k:=by simpa using hi
  subst hi;rfl';exact q j S' hp hj hS
noncomputable def Lk (k:Aj):Am:=[0,1,3,6,11,17].getD k 0
noncomputable def ts (k:Aj):Aa (Aa Am):=[[[0]],[[0,1]],[[0,1,3],[0,2,3]],[[0,1,4,6],[0,2,5,6]],[[0,1,4,9,11],[0,2,7,8,11],[0,2,7,10,11],[0,3,4,9,11]],[[0,1,4,10,12,17],[0,1,4,10,15,17],[0,1,8,11,13,17],[0,1,8,12,14,17],[0,2,7,13,16,17],[0,3,5,9,16,17],[0,4,6,9,16,17],[0,5,7,13,16,17]]].getD k []
noncomputable def gJ (k:Aj)(last:Am):Aa (Aa Am):=(cmb k (zT 1 last)).map λl=>[0]++l++[last]
noncomputable def yZ (k:Aj)(last:Am):Aa (Aa Am):=(gJ k last).filter unl
noncomputable def sta (k:Aj):Am:=((k:Am)+1)*((k:Am)+1-1)/2
noncomputable def KS (k:Aj):Ap:=((zT (sta k) (Lk k)).all λl=>(uu k l).isEmpty)&&decide (uu k (Lk k)=ts k)&&decide (0<=sta k/\sta k<=Lk k/\Lk k<=17)
noncomputable def UI (k:Aj):Ap:=((zT ((k:Am)+1) (Lk (k+1))).all λl=>(yZ k l).isEmpty)&&decide (yZ k (Lk (k+1))=ts (k+1))&&decide ((k:Am)+1<=Lk (k+1))
theorem BS:((CJ 5).all KS)=true:=kd
theorem MP:uu 5 15=[]:=kd
theorem MQ:uu 5 16=[]:=kd
theorem MR:uu 5 17=ts 5:=kd
theorem PB:((CJ 4).all UI)=true:=kd
theorem FX:((zT 5 13).all λl=>(yZ 4 l).isEmpty)=true:=kd
theorem FY:yZ 4 13=[]:=kd
theorem FZ:yZ 4 14=[]:=kd
theorem M0:yZ 4 15=[]:=kd
theorem M1:yZ 4 16=[]:=kd
theorem M2:yZ 4 17=ts 5:=kd
theorem gK {a b x:Am}(h:a<=x/\x<b):x∈zT a b:=Bs.mpr ⟨(x-a).toNat,Dm.mpr om,by omega⟩
structure Up (k:Aj):Prop where
 none:∀ l,sta k<=l->l<Lk k->uu k l=[]
 Ab:uu k (Lk k)=ts k
 rg:0<=sta k/\sta k<=Lk k/\Lk k<=17
structure Lw (k:Aj):Prop where
 none:∀ l,(k:Am)+1<=l->l<Lk (k+1)->yZ k l=[]
 Ab:yZ k (Lk (k+1))=ts (k+1)
 rg:(k:Am)+1<=Lk (k+1)
theorem upT {k:Aj}(h:k<=5):Up k:=by
 rcases Kz h with h|rfl
 .have:=AS.mp BS k (Dm.mpr h)
  unfold KS at this;simp only[A5,AI,AS,Io] at this;exact⟨λl h1 h2=>this.1.1 l (gK ⟨h1,h2⟩),this.1.2,this.2⟩
 .refine⟨λl h1 h2=>?_,MR,by decide⟩
  have h1:15<=l:=h1;have h2:l<17:=h2;rcases (show l=15\/l=16 by omega) with rfl|rfl
  .exact MP
  .exact MQ
theorem lwT {k:Aj}(h:k<=4):Lw k:=by
 rcases Kz h with h|rfl
 .have:=AS.mp PB k (Dm.mpr h)
  unfold UI at this;simp only[A5,AI,AS,Io] at this;exact⟨λl h1 h2=>this.1.1 l (gK ⟨h1,h2⟩),this.1.2,this.2⟩
 .refine⟨λl h1 h2=>?_,M2,by decide⟩
  have h1:5<=l:=h1;have h2:l<17:=h2;by_cases h3:l<13
  .exact Io.mp (AS.mp FX l (gK ⟨h1,h3⟩))
  rcases (show l=13\/l=14\/l=15\/l=16 by omega) with rfl|rfl|rfl|rfl
  .exact FY
  .exact FZ
  .exact M0
  .exact M1
theorem sO:∀ k<6,(ts k).isEmpty=false/\(((ts k).headD []).getLastD 0=Lk k)/\(ts k).length<=8/\∀ r∈ts k,r.length=k+1:=kd
theorem KU {P:Out->Prop}{a b:Am}(e:env[i]? = Ab (Ab (.int a)))(h:Wo P (.nx (env.set i (Ab (.int (a+b)))) S)):Wo P (kB i gU (dC (.int b)) env S):=by
 have:kB i gU (dC (.int b)) env S=.nx (env.set i (Ab (.int (a+b)))) S:=by
  unfold kB;rw[e];rfl
 rw[this];exact h
theorem lE (c:Cl)(k:Aj)(hk:k<=5){S:Sto}(q:∀ j S',S<+:S'->S.length<=j->S'[j]? = Ab (.lst ((ts k).map tpD))->Q (.loc j) S'):Ok (S_shortest_marks c [.int ((k:Am)+1)] S) Q:=by
 obtain⟨u1,u2,u3⟩:=upT hk;rw[xI];refine zH (env:=[Ab (.int ((k:Am)+1)),none,none]) rfl ?_;rfl';refine qQ (XU c S om) ?_;rfl';refine UP k hk (show 0<=sta k/\sta k<=17 by omega) λj S1 p1 h1 e1=>?_
 rfl';refine lX (λn env S'=>∃ last j,env=[Ab (.int ((k:Am)+1)),Ab (.int last),Ab (.loc j)]/\n=(Lk k-last).toNat/\(sta k<=last/\last<=Lk k)/\S<+:S'/\S.length<=j/\S'[j]? = Ab (.lst ((uu k last).map tpD))) ?_ (n:=(Lk k-sta k).toNat) (by rw[sY];omega) ⟨sta k,j,rfl,rfl,by omega,p1,h1,e1⟩
 rintro n _ S' ⟨last,j,rfl,rfl,hl,hp,hj,hS⟩;have ht:wY (.loc j) S'=Ab (!((uu k last).map tpD).isEmpty):=by
  show (match S'[j]? with|some (.lst xs)=>Ab (!xs.isEmpty)|some (.dct kvs)=>Ab (!kvs.isEmpty)|_=>none)=_
  rw[hS]
 rfl';refine⟨_,ht,?_⟩;refine⟨λhb=>?_,λhb=>?_⟩
 .have hlt:last<Lk k:=by
   rcases Int.lt_or_eq_of_le hl.2 with h|z
   .exact h
   rw[z,u2] at hb;have:=(sO k om).1;simp[this] at hb
  array_get_dec;refine KU rfl ?_;rfl';refine UP k hk om λj2 S2 p2 h2 e2=>?_;rfl';refine cI (Lk k-(last+1)).toNat ?_ ⟨last+1,j2,rfl,rfl,by omega,hp.trans p2,Bh hp.length_le h2,e2⟩
  omega
 .have hlt:last=Lk k:=by
   refine Int.le_antisymm hl.2 (Ki.mp λz=>?_);rw[u1 last hl.1 z] at hb;cases hb
  subst hlt;rw[u2] at hS;rfl';exact q j S' hp hj hS
theorem XZ (c:Cl)(k:Aj)(hk:k<=5){S:Sto}(q:∀ S',S<+:S'->Q (.int (Lk k)) S'):Ok (S_shortest c [.int ((k:Am)+1)] S) Q:=by
 obtain⟨t1,t2,t3,t4⟩:=sO k om;rw[yG];refine zH (env:=[Ab (.int ((k:Am)+1))]) rfl ?_;rfl';refine lE c k hk λj S1 p1 h1 e1=>?_;rfl';cases hx:ts k with
 |nil=>rw[hx] at t1;cases t1
 |cons r rs =>
  rw[hx] at e1 t2 t4;refine vQ e1 (d:=tpD r) (by rw[Cf];exact cS (a:=0) (by simp)) ?_
  rfl';refine QF (m8 r λz=>?_) ?_
  .have:=t4 r (.head _)
   rw[z] at this;cases this
  .rw[show r.getLastD 0=Lk k from t2]
   rfl';exact q S1 p1
theorem FS {xs:Aa D}(h:f env S=.ok (.lst xs) S):dIt f env S=.ok (none,xs) S:=by
 unfold dIt;rw[h];rfl
theorem nS:∀ ms:Aa Am,cmb 1 ms=ms.map λx=>[x]
 |[]=>rfl
 |a::r=>by
  show (cmb 0 r).map (a::·)++cmb 1 r=_
  rw[nS r];cases r <;> rfl
theorem pV:∀ ms:Aa Am,(cmb 2 ms).map (λl=>l.getD 1 0-l.getD 0 0)=df ms
 |[]=>rfl
 |a::r=>by
  show ((cmb 1 r).map (a::·)++cmb 2 r).map _=r.map (λb=>b-a)++df r
  rw[Dr,pV r,nS,Dl,Dl];rfl
theorem pT:∀ (k:Aj) (ms:Aa Am),(cmb k ms).length<=2 ^ ms.length
 |0,ms=>by
  have:cmb 0 ms=[[]]:=by cases ms <;> rfl
  rw[this];exact Nat.one_le_two_pow
 |k+1,[]=>Ek _
 |k+1,a::r=>by
  have h1:=pT k r;have h2:=pT (k+1) r;show ((cmb k r).map (a::·)++cmb (k+1) r).length<=_
  rw[AT,Az,AG,Lp]
  lia
theorem pU:∀ {k:Aj} {ms l:Aa Am},l∈cmb k ms->l.Sublist ms
 |0,ms,l,h=>by
  have:l=[]:=by cases ms <;> simpa [cmb] using h
  subst this;exact List.nil_sublist _
 |k+1,[],l,h=>by cases h
 |k+1,a::r,l,h=>by
  rcases AX.mp (show l∈(cmb k r).map (a::·)++cmb (k+1) r from h) with h|h
  .obtain⟨l',h',rfl⟩:=Bs.mp h
   exact(pU h').cons₂ a
  .exact(pU h).cons a
theorem K7 (r:Aa Am)(hr:r.length<=20)(hu:r.Pairwise (· < ·))(S:Sto):S__law_unlike [tpD r] S=.ok (.bl (unl r)) S:=by
 have hd:=gT r;have h2:r.length*r.length<=20*20:=Jk hr hr;have hc:(cmb 2 r).length=(df r).length:=by rw[<- pV r,Az]
 rw[yQ];refine zL (zH (env:=[Ab (tpD r),none]) rfl ?_);rfl';refine qQ (uC (xs:=cmb 2 r) (enc:=tpD) (o:=none) (FS ((GA (a:=tpD r) (b:=.int ((2:Aj):Am)) rfl rfl).trans (c5 rfl hr hu 2 li li S))) trivial (λ_=>true) (λl=>.int (l.getD 1 0-l.getD 0 0)) (λenv=>∃ a,env=[a]) ⟨none,rfl⟩ (by unfold lim;lia) λl hl env ⟨a,e⟩=>?_) ?_
 .subst e
  refine⟨_,rfl,⟨_,rfl⟩,rfl,λ_=>?_⟩
  match l,(yM hl).1 with
  |[x,y],_=>rfl
 .rw[D9.mpr λ_ _=>rfl]
  have:(cmb 2 r).map (λl=>D.int (l.getD 1 0-l.getD 0 0))=(df r).map D.int:=by
   rw[<- pV r,Dl];rfl
  rw[this];array_get_dec;array_get_dec;array_get_dec;array_get_dec;refine QH ?_;refine o_v rfl ⟨df r,rfl,by lia,?_⟩
  rfl';rw[Az];exact⟨rfl,rfl⟩
theorem lM (a b:Am):(zT a b).Pairwise (· < ·):=by
 unfold zT;rw[HP];exact List.pairwise_lt_range.imp λ{x y} h=>by lia
theorem tO {a b x:Am}(h:x∈zT a b):a<=x/\x<b:=by
 obtain⟨i,hi,rfl⟩:=Bs.mp h;have:=Dm.mp hi
 lia
theorem K9 {k:Aj}{last:Am}(hl:1<=last){r:Aa Am}(h:r∈gJ k last):r.length=k+2/\r.Pairwise (· < ·):=by
 obtain⟨l,hm,rfl⟩:=Bs.mp h;obtain⟨h1,h2⟩:=yM hm;refine⟨by simp;lia,?_⟩
 show (([0]++l)++[last]).Pairwise _;have hs:=(lM 1 last).sublist (pU hm);rw[Bf,Bf];refine⟨⟨Es _ _,hs,λx hx y hy=>?_⟩,Es _ _,λx hx y hy=>?_⟩
 .rw[Cj.mp hx]
  have:=tO (h2 y hy)
  lia
 .rw[Cj.mp hy]
  rcases AX.mp hx with hx|hx
  .rw[Cj.mp hx]
   lia
  .exact(tO (h2 x hx)).2
theorem BP:∀ k<6,(pl xW (.lst ((ts k).map tpD))&&pl xW (.lst [])) = true/\eqD (.lst ((ts k).map tpD)) (.lst []) = false:=kd
noncomputable def shD (k:Aj):D:=.tup [.int (Lk k),.lst ((ts k).map tpD)]
theorem UO {b:Am}(e:env[i]? = Ab (Ab (.int b)))(h:0<=b/\b<=1000)(q:Q (.lst ((zT 1 b).map D.int)) S):Ok (fS false (qA (dC (.int 1)) (qA (qB i) (qC))) env S) Q:=
 qX (yE (o_c (yE (o_v e (sC ⟨.lst ((zT 1 b).map D.int),_,by
  rw[c9 (a:=1) (b:=b) li];refine AA ?_;unfold zT lim;rw[Az,Az,Ed]
  lia,q⟩)))))
theorem MN (S:Sto){k:Aj}(hk:k<6):gEq (.lst ((ts k).map tpD)) (.lst []) S=.ok (.bl false) S:=by
 obtain⟨h1,h2⟩:=BP k hk;unfold gEq;rw[AA h1,h2]
theorem oI (k:Aj)(hk:k<=5)(S:Sto):S__law_shortest [.int ((k:Am)+1)] S=.ok (shD k) S:=by
 rw[yB];refine zL (zH (env:=[Ab (.int ((k:Am)+1)),none,none,none,none]) rfl ?_);cases k with
 |zero =>
  rfl';refine vW (λ_=>?_) λe=>absurd rfl e;rfl';exact⟨rfl,rfl⟩
 |succ m =>
  obtain⟨w1,w2,w3⟩:=lwT (k:=m) li;have L17:=(upT (k:=m+1) hk).rg.2.2;have em:((m+1:Aj):Am)+1-2=(m:Am):=by lia
  rfl';refine vW (λe=>?_) λ_=>?_
  .lia
  rfl';rw[em];refine lX (λn env S'=>S'=S/\∃ last e3 e4 f,env=[Ab (.int (((m+1:Aj):Am)+1)),Ab (.int last),Ab (.lst (NQ tpD f)),e3,e4]/\n=(Lk (m+1)-last).toNat/\((f=[]/\(m:Am)<=last/\last<Lk (m+1))\/(last=Lk (m+1)/\f=ts (m+1)))) ?_ (n:=(Lk (m+1)-(m:Am)).toNat) (by rw[sY];lia) ⟨rfl,(m:Am),_,_,[],rfl,rfl,.inl ⟨rfl,by lia,by lia⟩⟩
  rintro n _ S' ⟨rfl,last,e3,e4,f,rfl,rfl,hf⟩;rcases hf with⟨rfl,h1,h2⟩|⟨rfl,rfl⟩
  .rfl'
   refine qQ (d:=.bl true) (S:=S') rfl ?_;rfl';refine⟨λ_=>?_,λe=>by cases e⟩
   have hcc:=pT m (zT 1 (last+1));have hrl:(zT 1 (last+1)).length<=16:=by
    unfold zT;rw[Az,Ed]
    lia
   have hc2:2 ^ (zT 1 (last+1)).length<=2 ^ 16:=EO li hrl;rfl';refine UO rfl li ?_;rfl';rw[em];refine qQ (c5 (ms:=zT 1 (last+1)) rfl li (lM _ _) m li li S') ?_;rfl';refine qQ (uC (xs:=cmb m (zT 1 (last+1))) (enc:=tpD) (o:=none) (t8 rfl) trivial (λ_=>true) (λl=>tpD ([0]++l++[last+1])) (λenv=>∃ a,env=[a,Ab (.int (last+1))]) ⟨none,rfl⟩ (by unfold lim;lia) λl hl env ⟨a,e⟩=>?_) ?_
   .subst e
    have hlen:=(yM hl).1;refine⟨_,rfl,⟨_,rfl⟩,rfl,λ_=>zL ?_⟩;rfl';refine p6 (by
     rw[Az];unfold lim;simp only[AG,CO]
     lia) ?_
    rfl';refine p6 (by
     rw[AT,Az];unfold lim;simp only[AG,CO]
     lia) ⟨?_,rfl⟩
    show D.tup ([.int 0]++l.map D.int++[.int (last+1)])=D.tup (([0]++l++[last+1]).map D.int);rw[Dr,Dr];rfl
   .rw[D9.mpr λ_ _=>rfl]
    have:(cmb m (zT 1 (last+1))).map (λl=>tpD ([0]++l++[last+1]))=(gJ m (last+1)).map tpD:=by
     unfold gJ;rw[Dl];rfl
    rw[this];have hlr:(gJ m (last+1)).length<=lim:=by
     unfold gJ lim;rw[Az]
     lia
    rfl';refine qQ (uC (xs:=gJ m (last+1)) (enc:=tpD) (o:=none) (t8 rfl) trivial unl tpD (λenv=>∃ a,env=[a]) ⟨none,rfl⟩ hlr λr hr env ⟨a,e⟩=>?_) ?_
    .subst e
     obtain⟨a1,a2⟩:=K9 li hr;exact⟨_,rfl,⟨_,rfl⟩,kI ((uM (a:=tpD r) rfl).trans (p8 (K7 r li a2 S'))),λ_=>rfl⟩
    .rfl'
     refine cI (Lk (m+1)-(last+1)).toNat li ⟨rfl,last+1,_,_,yZ m (last+1),rfl,rfl,?_⟩;by_cases z:last+1<Lk (m+1)
     .exact .inl ⟨w1 _ li z,by lia,z⟩
     .have z:last+1=Lk (m+1):=by lia
      exact .inr ⟨z,by rw[z];exact w2⟩
  .rfl'
   refine qQ (MN S' (k:=m+1) li) ?_;rfl';refine⟨(λe=>by cases e),λ_=>?_⟩
   rfl';exact⟨rfl,rfl⟩
theorem tF (c:Cl){d:D}(S:Sto)(h:Pn d)(k:inR 1 6 d=false):S_shortest_marks c [d] S=.ex (.ref c.NoNumber) .non S:=by
 rw[xI];exact tP (env:=[Ab d,none,none]) rfl (VU ((GB (a:=d) (b:=.int 1) (c:=.int 6) rfl rfl rfl).trans (XT c S (kd) h k)))
theorem iU (c:Cl){d:D}(S:Sto)(h:Pn d)(k:inR 1 6 d=false):S_shortest c [d] S=.ex (.ref c.NoNumber) .non S:=by
 rw[yG];have e:qN 1 (S_shortest_marks c) (qA (qB 0) (qC)) [Ab d] S=.ex (.ref c.NoNumber) .non S:=(uM (a:=d) rfl).trans (tF c S h k);refine tP (env:=[Ab d]) (env':=[Ab d]) rfl ?_;have e2:d2 gIx (qN 1 (S_shortest_marks c) (qA (qB 0) (qC))) (dC (.int 0)) [Ab d] S=.ex (.ref c.NoNumber) .non S:=by
  unfold d2;rw[e];rfl
 have e3:d2 gIx (d2 gIx (qN 1 (S_shortest_marks c) (qA (qB 0) (qC))) (dC (.int 0))) (d1 bA (dC (.int 1))) [Ab d] S=.ex (.ref c.NoNumber) .non S:=by
  show ((d2 gIx (qN 1 (S_shortest_marks c) (qA (qB 0) (qC))) (dC (.int 0)) [Ab d] S).bind _)=_;rw[e2];rfl
 unfold b_shortest z9;rw[e3];rfl
theorem WU {j:Aj}{f:Aa (Aa Am)}(hf:f.length<=8/\∀ r∈f,r.length<=50){S:Sto}(h:S[j]? = Ab (.lst (f.map tpD))):vP S__law_same [.loc j,.lst (f.map tpD)] S=.ok (.bl true) S:=by
 have e:∀ (n:Aj),∀ x∈f.map tpD,w8 (n+2) S x=Ab x:=λn x hx=>by
  obtain⟨r,_,rfl⟩:=Bs.mp hx;show (mapO (w8 (n+1) S) (r.map D.int)).map D.tup=_;rw[bH λx hx=>by
   obtain⟨i,_,rfl⟩:=Bs.mp hx;rfl]
  rfl
 have e1:=oK h (e 17);have e2:w8 mQ S (.lst (f.map tpD))=Ab (.lst (f.map tpD)):=by
  show (mapO (w8 19 S) (f.map tpD)).map D.lst=_;rw[bH (e 17)];rfl
 have e3:mapO (w8 mQ S) [.loc j,.lst (f.map tpD)]=Ab [.lst (f.map tpD),.lst (f.map tpD)]:=by
  simp only[mapO,e1,e2]
 unfold vP;rw[e3];show dS (S__law_same [.lst (f.map tpD),.lst (f.map tpD)] (uR S)) S=_;have ok:okD 3 (.lst (f.map tpD)):=by
  refine⟨by rw[Az];unfold lim;lia,λx hx=>?_⟩
  obtain⟨r,hr,rfl⟩:=Bs.mp hx;have:=hf.2 r hr;refine⟨by rw[Az];unfold lim;lia,λx hx=>?_⟩
  obtain⟨i,_,rfl⟩:=Bs.mp hx;trivial
 rw[c6 (uR S) ok];rfl
def IvL (ns:Aa Am)(_:Aa Am)(env:qE)(_:Sto):Prop:=∃ e1 e2 e3 e4 e5 e6 e7 e8 e9,env=[Ab (.lst (ns.map D.int)),e1,e2,e3,e4,e5,e6,e7,e8,e9]
theorem iN (c:Cl)(nd:(x9 c).Nodup)(ns:Aa Am)(hl:ns.length<=63):∃ S,qW 10 (b_law c) [.lst (ns.map D.int)] [] = .ok (.bl true) S:=by
 have key:Ok (qW 10 (b_law c) [.lst (ns.map D.int)] []) λd _=>d=.bl true:=by
  refine zH (env:=[Ab (.lst (ns.map D.int)),none,none,none,none,none,none,none,none,none]) rfl ?_;unfold b_law;array_get_dec;refine BU (WT ns hl 2 rfl λms=>?_);refine vG (IvL ns) ?_ ?_ ⟨_,_,_,_,_,_,_,_,_,rfl⟩
  .rintro y xs _ S ⟨e1,e2,e3,e4,e5,e6,e7,e8,e9,rfl⟩
   rfl';refine PR λp S0 p0=>?_;rfl';refine p7 p0 li λr1 S1 k1 h1=>?_;rfl';refine p7 k1.pen li λr2 S2 k2 h2=>?_;rfl';refine lW (λds env S'=>(∀ d∈ds,∃ m:Aj,d=.int ((m:Am)+1)/\m<=5)/\y6 S' p/\∃ e3 e4 e5 e6 e7 e8 e9,env=[Ab (.lst (ns.map D.int)),Ab (.int y),Ab (.loc p),e3,e4,e5,e6,e7,e8,e9]) ?_ ?_ ⟨?_,k2.pen,_,_,_,_,_,_,_,rfl⟩
   .rintro d ds _ S' ⟨hd,pp,e3,e4,e5,e6,e7,e8,e9,rfl⟩
    obtain⟨m,rfl,hm⟩:=hd d (.head _);rfl';refine qQ (oI m hm S') ?_;unfold shD;rfl';refine XZ c m hm λS3 p3=>?_;rfl';refine qQ (c6 S3 (d:=.int (Lk m)) trivial) ?_;rfl';refine⟨by lia,by lia,?_⟩
    obtain⟨t1,t2,t3,t4⟩:=sO m li;refine vG (λ(_:Aa Aj) env S'=>y6 S' p/\∃ e6 e7,env=[Ab (.lst (ns.map D.int)),Ab (.int y),Ab (.loc p),Ab (.int ((m:Am)+1)),Ab (.int (Lk m)),Ab (.lst ((ts m).map tpD)),e6,e7,e8,e9]) ?_ ?_ ⟨lF pp p3,_,_,rfl⟩
    .rintro x xs _ S4 ⟨pp4,e6,e7,rfl⟩
     rfl';refine lE c m hm λj S5 p5 h5 hj=>?_;rfl';refine qQ (WU ⟨t3,λr hr=>by rw[t4 r hr];lia⟩ hj) ?_
     rfl';refine⟨BR hj,?_⟩;rfl';refine PL hj (by rw[Az];unfold lim;lia) ?_
     rfl';have:=JH pp4;exact kT ⟨((Kp.pre pp4 p5).set h5 _ li).pen,_,_,rfl⟩
    .rintro _ S4 ⟨pp4,e6,e7,rfl⟩
     exact kT ⟨λd h=>hd d (.tail _ h),pp4,_,_,_,_,_,_,_,rfl⟩
   .rintro _ S' ⟨_,pp,e3,e4,e5,e6,e7,e8,e9,rfl⟩
    rfl';refine zF (nG (a:=1) (b:=6) li pp) λbd S3 ⟨hbd,k3⟩=>?_;rfl';refine lW (λds env S'=>(∀ d∈ds,NoN 1 6 d)/\S'=S3/\∃ e9,env=[Ab (.lst (ns.map D.int)),Ab (.int y),Ab (.loc p),e3,e4,e5,e6,e7,Ab bd,e9]) ?_ ?_ ⟨?_,rfl,_,rfl⟩
    .rintro d ds _ S4 ⟨hd,z4,e9,rfl⟩
     have hn:=hd d (.head _);rfl';refine QM (by rw[Ct];simp[uB]) (uE c nd) (caps:=[d]) rfl ((uM (a:=d) rfl).trans (iU c S4 hn.1 hn.2)) ?_
     rfl';refine qQ (d:=.bl false) (S:=S4) (by kernel_rfl!) ?_
     rfl';refine QM (by rw[Ct];simp[uB]) (uE c nd) (caps:=[d]) rfl ((uM (a:=d) rfl).trans (tF c S4 hn.1 hn.2)) ?_
     rfl';refine qQ (d:=.bl false) (S:=S4) (by kernel_rfl!) ?_
     rfl';exact kT ⟨λd h=>hd d (.tail _ h),z4,_,rfl⟩
    .rintro _ S4 ⟨_,z4,e9,rfl⟩
     rfl';exact kT ⟨_,_,_,_,_,_,_,_,_,rfl⟩
    .intro d hd
     simp only[AR,Cu,E1] at hd;rcases hd with rfl|rfl|rfl|rfl
     .exact hbd
     .exact⟨⟨_,rfl⟩,rfl⟩
     .exact⟨⟨_,rfl⟩,rfl⟩
     .exact⟨⟨_,rfl⟩,rfl⟩
   .intro d hd
    simp only[AR,Cu,E1] at hd;rcases hd with rfl|rfl
    .exact⟨r1,by rw[NO],by lia⟩
    .exact⟨r2,by rw[NO],by lia⟩
  .rintro _ S ⟨e1,e2,e3,e4,e5,e6,e7,e8,e9,rfl⟩
   rfl';exact rfl
 obtain⟨d,S',e,rfl⟩:=key;exact⟨S',e⟩
end _K
namespace _K
open PySem PySem.Spec PyProof.Rows _L _D
variable {mg:An->Ak Ac}
theorem wH {P:A0}{w:AH}{K:Ah}{base:A8}{c:Cl}(T:Txt K mg c){k:Aj}{F:DF}(d:DfS F P w K mg base true k "_law_same" 2):DfS (qW 2 (b__law_same F)) P w K mg base true (k+1) "_law_same" 2:=by
 refine dq P w base k 10 T rfl ck rfl ?_
 intros
 repeat' first
  |with_reducible exact ck
  |((with_reducible show QE _ _ _);with_reducible first|apply aV|apply QQ|apply eY|apply aBt|apply aO|(apply aB;first|apply Z3|apply Z2|apply Z1|apply cL)|apply aC|apply h8|apply eX|apply eZ|apply eV)
  |((with_reducible show _=_);first|exact T.nb ck|exact uF _|exact rfl|with_unfolding_all rfl)
  |((with_reducible show ZOp _ _ _);with_reducible first|apply KW|apply G7|apply KZ)
  |((with_reducible show RoomC _ _ _);first|assumption|exact RoomC.mono (by assumption)|exact RoomC.mono (RoomC.any (by assumption))|exact RoomC.mark (by assumption) _|exact RoomC.mono (RoomC.mark (by assumption) _))
  |((with_reducible show St1 _ _ _ _);exact⟨rfl,rfl⟩)
  |((with_reducible show DfS _ _ _ _ _ _ _ _ _ _);assumption)
  |with_reducible first|apply eU|apply pC|apply kQ|apply lG|apply eS|apply hX|(apply QU;first|apply pD|apply fV)|apply hZ|apply pD|apply fV|apply aNm|apply h9|apply tI|apply lH|apply hV|apply hJ|apply lJ|apply lI|apply hW|apply QR|apply Q6
  |((with_reducible apply aSt);case hs=>exact rfl)
  |((with_reducible show ClA _ _ _ _);first|assumption|exact ClA.tr (by assumption))
  |((with_reducible show LmX _ _ _ _ _ _ _ _ _ _);assumption)
  |((with_reducible show DfL _ _ _ _ _ _ _ _ _ _ _ _ _);assumption)
  |((with_reducible show ZF _ _ _ _);first|apply aFn|apply aFn0)
  |exact λ_=>⟨rfl,rfl,rfl⟩
  |(intro h;cases h;done)
  |((with_reducible show ZPass _);first|assumption|exact lZ)
  |exact⟨rfl,rfl⟩
  |exact⟨rfl,rfl,rfl⟩
  |apply pC
  |apply kQ
  |(intros;rfl)
  |(intro _ h;cases h <;> rfl)
  |decide
  |intro _
theorem XO {P:A0}{w:AH}{K:Ah}{base:A8}{c:Cl}(T:Txt K mg c)(nd:(x9 c).Nodup)(hT:(UC.all λy=>(Bb K y).isSome)=true):∃ F,fY P w K mg base true 8 "law" ["_law_script"] F/\∀ ns:Aa Am,ns.length<=63->∃ S,F [.lst (ns.map D.int)] [] = .ok (.bl true) S:=by
 refine hv (λ_=>?_) (dq (cm:=true) P w base 0 0 T rfl ck (jM) ?_);refine hv (λ_=>?_) (dq (cm:=true) P w base 1 1 T rfl ck (uA) ?_);refine hv (λ_=>?_) (dq (cm:=true) P w base 2 2 T rfl ck (w5 c) ?_);refine hv (λ_=>?_) (dq (cm:=true) P w base 0 3 T rfl ck (yR) ?_);refine hv (λ_=>?_) (dq (cm:=true) P w base 0 4 T rfl ck (wQ) ?_);refine hv (λ_=>?_) (dq (cm:=true) P w base 1 5 T rfl ck (yI) ?_);refine hv (λ_=>?_) (dq (cm:=true) P w base 3 6 T rfl ck (xI c) ?_);refine hv (λ_=>?_) (dq (cm:=true) P w base 4 7 T rfl ck (yG c) ?_);refine hv (λ_=>?_) (dq (cm:=false) P w base 0 8 T rfl ck (vI c) ?_);refine hv (λ_=>?_) (dqL (cm:=true) (g:=b__law_refused c) (N:=2) P w base 6 6 0 9 T rfl ck ?_);have s0:DfS (pE 0) P w K mg base true 0 "_law_same" 2:=⟨ZN (T.src 10 rfl)⟩;have d__law_same:DfS S__law_same P w K mg base true 4 "_law_same" 2:=u9▸wH T (wH T (wH T (wH T s0)));refine hv (λ_=>?_) (dq (cm:=true) P w base 0 11 T rfl ck (u4) ?_);refine hv (λ_=>?_) (dq (cm:=true) P w base 0 12 T rfl ck (jL) ?_);refine hv (λ_=>?_) (dq (cm:=true) P w base 0 13 T rfl ck (u7) ?_);refine hv (λ_=>?_) (dq (cm:=true) P w base 1 14 T rfl ck (wO) ?_);refine hv (λ_=>?_) (dq (cm:=true) P w base 0 15 T rfl ck (yP) ?_);refine hv (λ_=>?_) (dq (cm:=true) P w base 1 16 T rfl ck (yQ) ?_);refine hv (λ_=>?_) (dq (cm:=true) P w base 2 17 T rfl ck (yB) ?_);refine⟨_,dqP 7 18 T rfl ck ?_,iN c nd⟩
 all_goals
  intros
  repeat' first
   |with_reducible exact ck
   |((with_reducible show QE _ _ _);with_reducible first|apply aV|apply JR|apply QQ|apply JU|apply eY|apply aBt|apply aGi|apply aCl|apply aL|apply aO|apply aN|apply WK|(apply aB;first|apply Z3|apply Z2|apply Z1|apply cM|apply cL|apply G6)|(apply aT;first|apply BZ)|apply aC|apply h8|apply JS|apply WJ|apply BA|apply oC|apply BB|apply eX|apply oA|apply JT|apply BC|apply eZ|apply eV|apply WI|apply JQ|apply WG|apply sG|(apply sF;(case slot=>apply PySem.F.slot_list_append);(case' hm=>first|apply oT))|(apply sF;(case slot=>apply Ir);(case' hm=>first|apply Y9))|(apply sF;(case slot=>apply Iu);(case' hm=>first|apply YA))|apply JO)
   |((with_reducible show _=_);first|exact T.nb ck|with_reducible apply Iy|with_reducible apply HU|with_reducible apply IA|with_reducible apply IB|exact uF _|exact rfl|with_unfolding_all rfl)
   |((with_reducible show ZOp _ _ _);with_reducible first|apply BX|apply F5|apply F1|apply BY|apply F0|apply F3|apply MW|apply MV|apply MT|apply KW|apply G7|apply KZ)
   |((with_reducible show RoomC _ _ _);first|assumption|exact RoomC.mono (by assumption)|exact RoomC.mono (RoomC.any (by assumption))|exact RoomC.mark (by assumption) _|exact RoomC.mono (RoomC.mark (by assumption) _))
   |((with_reducible show St1 _ _ _ _);exact⟨rfl,rfl⟩)
   |((with_reducible show DfS _ _ _ _ _ _ _ _ _ _);assumption)
   |with_reducible first|apply eU|apply pC|apply kQ|apply lG|apply eS|apply aK0|apply WO|apply WQ|apply WN|apply JZ|apply K5|apply hX|(apply QU;first|apply pD|apply fV)|apply hZ|apply pD|apply fV|apply aNm|apply h9|apply JW|apply tI|apply lH|apply JY|apply oD|apply hV|apply WM|apply hJ|apply JX|apply lJ|apply oH|apply lI|apply BD|apply hW|apply QR|apply WR|apply K2|apply oG|apply aAu|apply aRs|apply aTr|apply F2|apply MU|apply KY|apply F4|apply Q6|apply Iy|apply HU|apply IA|apply IB
   |((with_reducible apply aCs);case hsw=>exact rfl)
   |((with_reducible apply aSt);case hs=>exact rfl)
   |with_reducible apply K0
   |exact T.cls
   |exact T.cl (by kernel_rfl)
   |exact T.rz (by kernel_rfl)
   |exact T.ct
   |exact T.gi (by kernel_rfl)
   |((with_reducible apply FA);(case D=>assumption))
   |((with_reducible show ClA _ _ _ _);first|assumption|exact ClA.tr (by assumption))
   |((with_reducible show LmX _ _ _ _ _ _ _ _ _ _);assumption)
   |((with_reducible show DfL _ _ _ _ _ _ _ _ _ _ _ _ _);assumption)
   |((with_reducible show LmK _ _);refine lmK hT (by assumption) ?_ rfl)
   |((with_reducible show ZF _ _ _ _);first|apply aFn|apply aFn0)
   |exact λ_=>⟨rfl,rfl,rfl⟩
   |(intro h;cases h;done)
   |((with_reducible show ZPass _);first|assumption|exact lZ)
   |exact⟨rfl,rfl⟩
   |exact⟨rfl,rfl,rfl⟩
   |apply pC
   |apply kQ
   |decide
   |(intros;rfl)
   |(intro _ h;cases h <;> rfl)
   |intro _
end _K
namespace _K
open PySem PySem.Spec PyProof.Rows _L _D
variable {K:Ah}
theorem bdf:BdF top tab:=by
 repeat (refine⟨?_,?_⟩;(intro _ _ _ _ _ _ us h;first|(obtain⟨_,rfl⟩:=us1 h;rfl)|(obtain⟨_,_,rfl⟩:=us2 h;rfl)|(obtain⟨_,_,_,rfl⟩:=us3 h;rfl)))
 exact trivial
theorem GC {C0 C1 C2 C3 C4 C5 C6 C7 C8 C9 C10 C11:Ad}(q0:Bl K AM "FarError" = Ab (Ab (.ref C0)))(q1:Bl K AM "NoPoint" = Ab (Ab (.ref C1)))(q2:Bl K AM "NoLot" = Ab (Ab (.ref C2)))(q3:Bl K AM "NoNumber" = Ab (Ab (.ref C3)))(q4:Bl K AM "NoCircle" = Ab (Ab (.ref C4)))(q5:Bl K AM "NoMarks" = Ab (Ab (.ref C5)))(q6:Bl K AM "NoFars" = Ab (Ab (.ref C6)))(q7:Bl K AM "NoText" = Ab (Ab (.ref C7)))(q8:Bl K AM "NoLine" = Ab (Ab (.ref C8)))(q9:Bl K AM "NoDeed" = Ab (Ab (.ref C9)))(q10:Bl K AM "Alike" = Ab (Ab (.ref C10)))(q11:Bl K AM "TooMany" = Ab (Ab (.ref C11))):d3 K (clt ⟨C0,C1,C2,C3,C4,C5,C6,C7,C8,C9,C10,C11⟩):=⟨q0,q1,q2,q3,q4,q5,q6,q7,q8,q9,q10,q11,trivial⟩
theorem GD {k0:IS}(g0:Bl K AM "MOST_SHORTEST" = Ab (Ab (.int (6) k0))):d6 K cst:=⟨⟨_,g0⟩,trivial⟩
theorem UE {P:A0}{w:AH}{mg:An->Ak Ac}{c:Cl}{fa:Ad}(T:Txt K mg c)(nd:(x9 c).Nodup)(hT:(UC.all λy=>(Bb K y).isSome)=true)(hfa:mg "law" = Ab (.ref fa)) :
  ∃ fd:CF,(∀ (s:Af) (v:Ac),Gf s fd ⟨[v],[]⟩ [("_law_script",v)])/\∀ base:A8,K.In base->base.Ns AM mg->FnOk P w K mg base (CXd P w) 8 fa fd ["_law_script"] (fW K):=
 XQ (T.src 18 rfl) hfa (λkV doc pm an cdv ct s v=>.of_eq rfl) λbase=>XO T nd hT
end _K
theorem PySem.W.Fast.tw16075891551989595660 : True := trivial
theorem PySem.W.Fast.tw15721430294179745959 : True := trivial
theorem PySem.W.Fast.tw3748062160480023274 : True := trivial
theorem PySem.W.Fast.tw778025008849157447 : True := trivial
theorem PySem.W.Fast.tw15511004560405668328 : True := trivial
theorem PySem.W.Fast.tw8523675382915386092 : True := trivial
theorem PySem.W.Fast.tw4501539381516642402 : True := trivial
theorem PySem.W.Fast.tw6530142840628826618 : True := trivial
theorem PySem.W.Fast.tw12480066105859221155 : True := trivial
theorem PySem.W.Fast.tw8838998117393803807 : True := trivial
theorem PySem.W.Fast.tw15867636898979650829 : True := trivial
theorem PySem.W.Fast.tw18410471961998359084 : True := trivial
theorem PySem.W.Fast.tw13863569977138260302 : True := trivial
theorem PySem.W.Fast.tw17064155531208032800 : True := trivial
theorem PySem.W.Fast.tw5086698664313888783 : True := trivial
theorem PySem.W.Fast.tw6568879780621371814 : True := trivial
theorem PySem.W.Fast.tw4803726929171623081 : True := trivial
theorem PySem.W.Fast.tw15076189689289255392 : True := trivial
theorem PySem.W.Fast.tw16285554664793626946 : True := trivial
theorem PySem.W.Fast.tw7811588814916691475 : True := trivial
theorem PySem.W.Fast.tw8381874089996081266 : True := trivial
theorem PySem.W.Fast.tw3102688569609001793 : True := trivial
theorem PySem.W.Fast.tw614057012323273330 : True := trivial
theorem PySem.W.Fast.tw2671936702610923940 : True := trivial
theorem PySem.W.Fast.tw11779095187629921757 : True := trivial
theorem PySem.W.Fast.tw7894722766238976517 : True := trivial
theorem PySem.W.Fast.tw10597413684900604301 : True := trivial
theorem PySem.W.Fast.tw14453902175427554064 : True := trivial
theorem PySem.W.Fast.tw2689869679404750880 : True := trivial
theorem PySem.W.Fast.tw8907417631096768365 : True := trivial
theorem PySem.W.Fast.tw5308026791316842486 : True := trivial
theorem PySem.W.Fast.tw177046121576705524 : True := trivial
theorem PySem.W.Fast.tw13590527961653810691 : True := trivial
theorem PySem.W.Fast.tw8491579258042297429 : True := trivial
theorem PySem.W.Fast.tw10927257520549121676 : True := trivial
theorem PySem.W.Fast.tw10154793344853740699 : True := trivial
theorem PySem.W.Fast.tw15135326028745315416 : True := trivial
theorem PySem.W.Fast.tw6542736752000581516 : True := trivial
theorem PySem.W.Fast.tw17215228137444223872 : True := trivial
theorem PySem.W.Fast.tw13256809466907215149 : True := trivial
theorem PySem.W.Fast.tw4614759048024631576 : True := trivial
theorem PySem.W.Fast.tw8804164653418717266 : True := trivial
theorem PySem.W.Fast.tw15499825081229108191 : True := trivial
theorem PySem.W.Fast.tw1014248847739091957 : True := trivial
theorem PySem.W.Fast.tw267536390071277158 : True := trivial
theorem PySem.W.Fast.tw375072451108269488 : True := trivial
theorem PySem.W.Fast.tw2665781860787260210 : True := trivial
theorem PySem.W.Fast.tw8245684718568364517 : True := trivial
theorem PySem.W.Fast.tw16437185956813387814 : True := trivial
theorem PySem.W.Fast.tw13172328894285137547 : True := trivial
theorem PySem.W.Fast.tw15039164037372101835 : True := trivial
theorem PySem.W.Fast.tw5953144667215296461 : True := trivial
theorem PySem.W.Fast.tw3383801993149652761 : True := trivial
theorem PySem.W.Fast.tw215923653889539233 : True := trivial
theorem PySem.W.Fast.tw297262410266739737 : True := trivial
theorem PySem.W.Fast.tw16697033946394770749 : True := trivial
theorem PySem.W.Fast.tw16676994618202921218 : True := trivial
theorem PySem.W.Fast.tw15102270426753132368 : True := trivial
theorem PySem.W.Fast.tw14574370017983170022 : True := trivial
theorem PySem.W.Fast.tw2614633131564006531 : True := trivial
theorem PySem.W.Fast.tw18240349402556960920 : True := trivial
theorem PySem.W.Fast.tw13075583521673100262 : True := trivial
theorem PySem.W.Fast.tw11926894676014593265 : True := trivial
theorem PySem.W.Fast.tw4688778911533929514 : True := trivial
theorem PySem.W.Fast.tw3651496401311839218 : True := trivial
theorem PySem.W.Fast.tw17665713368741374737 : True := trivial
theorem PySem.W.Fast.tw3347133736845142506 : True := trivial
theorem PySem.W.Fast.tw9995672848912828112 : True := trivial
theorem PySem.W.Fast.tw14438630858785772043 : True := trivial
open PySem PySem.W PyProof.Rows
set_option maxRecDepth 100000 in
set_option maxHeartbeats 0 in
theorem PySem.Challenge.cw_fewdistances_k72_shortest_unlike_marks_holds : PySem.Challenge.rw_fewdistances_k72_shortest_unlike_marks.Holds := by
 w_on;o_law;k_head;(case hw=>w_witness2)
 k_fill
 refine _D.BW (l:=Hj) (k:=8) (x:="_law_script") rfl rfl ⟨rfl,by decide,by decide,rfl⟩ (λ_=>by kernel_rfl) (λw h Y=>PySem.W.km_in_of Y) ?F
 case F =>
  intro w mg fa h KX G hmg
  refine' _K.UE (_D.BQ _K.bdf ?hp rfl KX G ?s ?z (_K.GC ?q0 ?q1 ?q2 ?q3 ?q4 ?q5 ?q6 ?q7 ?q8 ?q9 ?q10 ?q11) (_K.GD ?gi0) ?e1 ?e2 ?e3 ?e4 ?e5 ?e6) ?nd ?hT hmg
  (case s=>(repeat (refine' ⟨_D.SrcF.mk ?a ?l ?c ?k,?_⟩;(case a=>k_is);(case l=>k_is);(case c=>k_is);(case k=>k_is)));exact trivial)
  (case z=>rfl)
  (case q0=>k_is)
  (case q1=>k_is)
  (case q2=>k_is)
  (case q3=>k_is)
  (case q4=>k_is)
  (case q5=>k_is)
  (case q6=>k_is)
  (case q7=>k_is)
  (case q8=>k_is)
  (case q9=>k_is)
  (case q10=>k_is)
  (case q11=>k_is)
  (case gi0=>k_is)
  (case hp=>intro y hy;revert hy;simp;grind)
  (case e1=>rfl)
  (case e2=>rfl)
  (case e3=>rfl)
  (case e4=>rfl)
  (case e5=>rfl)
  (case e6=>rfl)
  (case nd=>decide)
  (case hT=>rfl)
