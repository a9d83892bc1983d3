import PyProof.Rows.All
import Wide.All
import OpenK.AllK
import Wide.FinOn
import Lean
import PyProof.EqAt
import PyProof.EqKinds
import PyProof.TupleCall
import KE.KLam
import KE.KTryMore
import KE.KIsAll
import PyProof.NeKinds
import PyProof.Rows.CountFlat
import PyProof.Rows.FStr
import PyProof.ZipIter
import PyProof.EnumMake
import PyProof.EnumStmt
import KE.KDictLaws
import PyProof.DictWalks
import PyProof.Rows.SetFrom
import PyProof.SumWalkG
import PyProof.Rows.SumGenD
import PyProof.SeqI2
import KE.KItemsList
import PyProof.SetKind
import PyProof.TupleKey
import KE.KSortTup
import PyProof.ReprRoads
import PyProof.ReprBulk
import PyProof.TupleOfSeq
import PyProof.WalkInts
import PyProof.SeqI3
import PyProof.Rows.RuleDivmod
import PyProof.ListRange
import KE.KPairComp
import KE.KMinKey
import PyProof.Rows.CallKwBuiltin
import KE.KDictList
import PyProof.DictTruth
import PySem.Challenge.RW_fewdistances_k70_marks_looked_at
set_option Elab.async false
set_option linter.all false
set_option maxRecDepth 100000
set_option maxHeartbeats 0
set_option tactic.hygienic false
set_option bootstrap.genMatcherCode false
set_option genSizeOf false
set_option compiler.extract_closed false
open Array renaming length_toList->A6,getElem?_toList->A9,toList_append->Cb,getElem?_eq_some_iff->Ch,getElem?_eq_getElem->Cq,toList_push->CL,getD_eq_getD_getElem?->Dg,getD->Ek,size_extract->Gv,toList_extract->Hl,toList_reverse->II,mem_toList_iff->Lb,toArray_toList->Li,perm_iff_toList_perm->Nn,getElem?_eq_none->Pj,size_map->Qw,forIn_toList->Tg,toList_inj->Vo,toList->Ya
open Bool renaming and_eq_true->A0,false_eq_true->AR,and_eq_true_iff->Do,true_and->Ez,false_ne_true->Fw,false_and->Fz,noConfusion->Go,or_eq_true->Ia,not_true->Ie,not_eq_true'->Ip,and_false->Mm,eq_iff_iff->Pp,not_false->Qx,and_self->Sa,and_true->Xm,true_or->Yc
open Classical renaming byContradiction->Ds,choose_spec->Qc,choose->Vj
open False renaming elim->An
open ForInStep renaming yield->Lp
open Int renaming le_trans->Dm,toNat_natCast->Dv,le_of_lt->Fm,emod_lt_of_pos->Gu,emod_nonneg->Ib,le_refl->Jb,eq_ofNat_of_zero_le->OP,toNat_of_nonneg->Sj,sub_zero->Tp,not_lt->Wu,mul_one->Yn
open List renaming getElem?_eq_getElem->Au,mem_cons->Av,length_map->A4,prefix_refl->AA,size_toArray->AD,mem_append_right->AI,length_cons->AO,mem_of_getElem?->AQ,length_append->AT,getElem?_append_left->AY,mem_append->Ba,mem_cons_of_mem->Bb,append_assoc->Bc,range->Be,getElem?_append_right->Bf,getElem?_eq_some_iff->Bg,all_eq_true->Bi,not_mem_nil->Bj,mem_append_left->Bk,mem_map->Bl,mem_singleton->Bq,replicate->Br,mem_iff_getElem->Bv,mem_cons_self->Bx,getElem?_map->By,map_cons->Ce,pairwise_append->Cw,length_range->CC,pairwise_cons->CD,length_take->CO,getElem?_set_ne->CQ,mem_range->De,append_nil->Df,length_nil->Dr,contains_iff_mem->Dx,getElem?_set_self->Ea,filterMap_cons->Ec,replicate_succ->Eh,map_map->EQ,pairwise_map->Fd,nil_append->Fh,take_of_length_le->Fj,drop_eq_getElem_cons->Fp,extract_eq_take_drop->Fu,mem_filterMap->Fv,flatten_cons->Gb,flatMap_cons->Gc,lookup->Gf,lookup_cons->Gp,getLastD_cons->Gw,nodup_cons->Hd,pairwise_iff_getElem->Hj,length_drop->Ho,any_cons->Hz,range_succ_eq_map->HT,eq_nil_of_length_eq_zero->Ig,length_singleton->Io,mem_iff_getElem?->Iq,perm_append_comm->Ix,mem_of_mem_take->IJ,getD->IQ,reverse_append->IS,length_pos_iff->IU,of_mem_zip->IW,foldl_cons->IY,length_zip->Jc,getElem?_take_of_lt->Je,getLast_eq_getLastD->Ji,prefix_append->Jk,getElem?_replicate->Jo,length_eq_zero_iff->Jq,all_map->Jr,drop_eq_nil_of_le->Kg,drop_of_length_le->Ki,getElem?_eq_none->Kn,all_cons->Kr,getElem_mem->Ks,take_append_drop->Kx,cons_append->Ky,map_drop->Kz,mem_erase_of_ne->Lg,find?_cons->Ln,map_append->Lv,forIn_nil->Mn,nodup_nil->Ms,perm_ext_iff_of_nodup->Nl,getD_eq_getElem?_getD->No,take_sublist->Nu,nodup_append->Nz,getElem?_zip_eq_some->Oc,ext_getElem?->Of,getElem_take->Og,getElem_drop->Oh,getElem?_eq_none_iff->Oq,length_erase_of_mem->Ow,length_filterMap_le->O0,getElem_inj->O6,zipIdx_cons->OC,ext_getElem->OE,getElem?_cons_succ->OL,pairwise_singleton->OO,forIn_cons->Pa,pairwise_lt_range->Pd,length_pos_of_mem->Pe,length->Px,countP_mono_left->Qj,singleton_append->Qk,map_id->Qn,mem_of_mem_drop->Rf,reverse_reverse->Ri,map_congr_left->Sg,mem_map_of_mem->Si,map_take->Sk,filter_eq_self->Sl,sum_cons->Sm,lookup_append->Td,getElem?_drop->Tf,map_inj_right->Tj,map_nil->To,nodup_range->Vl,countP_cons->Vn,map_fst_zip->Vp,mem_reverse->Vq,getLast_mem->Vs,mem_filter->Vt,length_set->Vw,zipIdx_nil->Vy,foldl->Wp,Nodup->Ws,take_zero->Wy,tail_drop->WP,map->Yk
open List.Pairwise renaming nil->Jy,imp_of_mem->Ov,filter->Ys,take->Yx,drop->Yy,imp₂->Yz
open List.Perm renaming append_left->Ha,append_right->Ih,refl->Jw,trans->Lu
open Nat renaming le_refl->Aq,lt_of_lt_of_le->Ax,le_of_ble_eq_true->AN,ne_of_lt->AZ,le_trans->Bp,le_of_lt->CV,lt_irrefl->Dh,zero_le->Dp,ne_of_gt->El,zero_add->En,le_add_right->Ft,lt_of_le_of_ne->Fy,lt_trans->Ge,add_le_add_left->Gn,lt_succ_self->Hq,add_sub_cancel_left->Hu,eq_zero_of_not_pos->Ik,le_of_lt_succ->Iu,add_lt_of_lt_sub'->Iy,one_pos->IA,sub_lt->IT,lt_of_le_of_lt->Jl,pos_of_ne_zero->Jm,not_lt->Kh,add_comm->Lw,succ_pos->Ly,mod_lt->Me,add_right_comm->Nb,le_succ->Nk,lt_succ_of_lt->On,lt_of_succ_lt->Oo,sub_pos_of_lt->Op,le_of_not_lt->O8,le_antisymm->Pk,add_le_of_le_sub'->Ql,le_of_sub_eq_zero->Qm,mul_le_mul->Rb,lt_sub_of_add_lt->Rg,add_le_add_right->Rh,mul_le_mul_right->Rj,add_sub_cancel'->Sf,min_self->Tt,le_of_eq->Tz,sub_self->T0,add_zero->TD,lt_trichotomy->Us,min_eq_right->Vr,min_eq_left->Wh,add_le_add->Wx,add_assoc->Xt,succ_mul->Yb,lt_or_ge->Yg
open Nat.succ renaming inj->Yd
open Ne renaming symm->Ed
open Option renaming some->Ab,map_eq_some_iff->Bn,bind_eq_some_iff->Cn,isSome_iff_exists->Hm,map_some->Ic,getD_some->Ko,bind_some->La,isSome_some->Ta,getD_none->Vd,none->Yo
open Option.some renaming inj->Bh
open Or renaming inr->Vf,inl->Xc
open PyProof.Rows renaming wpS_bind->A3,wpS_pure->AE,Keyed->AH,slot_tuple_getitem->Ca,callWith_type1->CK,wpS_forRange->Dl,SortSt->Dz,envOfC->Eb,seqObj->Er,wpS_mono->Fi,callWith_builtin1->Ga,step_dedup->Gh,wpS_modify->Hc,SortKind->Ja,wpS_get->Js,AllBare->Kj,entry_tuple_getitem->Ma,slicePart_none->Ml,assignInOrder_cons->My,args_tuple_getitem->Mz,wpS_lift->Nr,IntsAre->Nx,subscriptTail_builtinR->OY,isBoolOf->Pb,gallopOf->Pl,get?_update_seq->Pm,IsTup->Ps,tupleItemsOf_->Rt,subscriptTail->Rv,assignInOrder_nil->Ua,Call_->Vx,Subscript_->Wm,step_dedup->Wr,lt_int->Yw
open PyProof.Rows.F renaming plain_set_update_loop->Gt,entry_set_update_loop->IZ
open PyProof.Rows.IntsAre renaming int_at->WF
open PyProof.Rows.IsTup renaming new->Pv
open PyProof.Rows.SortSt renaming mk'->Bt
open PySem renaming Value->Ac,wpAny_bind->Ad,Addr->Af,Shared->Ag,wpAny_pure->Ak,wpAny->Ao,model->Ar,Str->As,starEach->Ay,Program->A5,intKind->A8,Heap->AB,tupleKeyHash->AJ,Around->AK,World->AL,Expr->AM,mainGlobals->AW,Obj->AX,Comprehension->Bo,wpAny_newObj_type->Bu,wpAny_field->Cg,wpAny_callSpecial?_slot->Cj,foldedSetIterable->Co,Scope->Cs,wpAny_holding->Cu,wpAny_call_entry->Cy,compareOp->Cz,Pos->CN,binaryOp->CS,SetTable->CT,bootBuiltins->CU,wpAny_Call_Name_kw->CW,wpAny_setField_rec->CY,Stmt->Dd,backTo->Di,sizeLine_eq->Dj,mem_of_lookup->Dk,FuncData->Dq,wpAny_setState_of->Dy,rawInt->DL,cLine->Ee,wpAny_pyIter_list->Ei,codeAny_builtin->Eo,wpAny_pyIter_tuple->Eu,assignEach->Ew,wpAny_rule->Ex,wpAny_seqItems->Fa,wpAny_mono->Ff,codeAny->Fn,cellsFrom->Fo,Builtin->Fq,NameKind->Fx,sysModules->Gi,Env->Gj,wpAny_attempt->Gm,wpAny_askSetting->Gq,IsPair->Gz,codeAny_mono->Hb,wpAny_standAt->Hw,letOwnedTupleGo->Hx,Sem->Il,Model->Im,wpAny_typeOf->IF,codeAny_call_builtin->IH,swappedStores->IL,swapsWithSole->IM,behindInMarks->IN,TriplesOk->IP,wpAny_passesOwn->IV,sliceBounds->IX,wpAny_comprehension_free->Jh,pyNext->Jt,wpAny_setField->Jv,swapsWith->Jz,ofAClassStatement->Kb,wpAny_storeSet_of->Kc,pyIter->Kk,BindsTo->Kl,getItem->Km,wpAny_isInstance->Ku,plainId_quiet->Kv,wpAny_updateSeq_pair->Ld,wpAny_execs_nil->Ll,Arguments->Lm,codeAmong->Lo,codeAny_of_tree->Lr,pickOrder->Ls,builtinsNs->Lz,call_meets->Mb,wpAny_call->Mc,recursionLimit->Mj,firstArgMember->Mq,IsZip->Mr,wpAny_runValue->Mt,wpAny_newFunctionEnv_cells->Ng,IsPart->Nh,wpAny_of_eq->Nj,hashByValue->Nm,wpAny_sequenceKey->Nw,callerA->Ny,standAt->NE,noteFrame->Oa,wpAny_onRaise->Od,setSearchFrom->Ol,Tok->Os,noFill_tuple_add->O7,checkBuiltinCall->O9,closureFor->OB,IsTupleKey->OF,wpAny_forIn_list->OG,bindArgs->OX,wpAny_ite_split->Pi,tupleKind->Pu,PassesOwn->Pw,codeAny_call_function->Py,wpAny_letGo->Pz,IsEnum->Qe,weight_type_call_type->Qg,builtinLookup_eq_fast->Qh,wpAny_newTuple->Qt,isSubtype_stop->Qu,newFunctionEnv->Qv,isSubtype_type->Qy,repr_of_reads'->Qz,assignInOrder->Rl,CmpOp->Rm,bindL->Rp,bindC->Rq,seq_tuple_add->Rr,evalPart_none->Ru,intKind_is->Sb,setsByText->Sc,wpAny_setEntries_of->Se,bindName->Sn,Result->So,setState->Sr,setAdd->Ss,PyData->Su,concat_meets->Tn,callType_new->Tv,wpAny_assign_Name->TW,wpAny_truthy_bool->Ub,slot_list_getitem->Uf,list_append->Ug,atKey->Uh,lastMarks->Ui,ClassData->Uj,setFlight->Uk,pushCells->Um,wpAny_pyIter_enum->Uo,searchCouldBeSeen->Ur,wpAny_pyIter_slot->Ut,wpAny_eqBool_int->Uv,wpAny_execs_cons->Uw,unaryOp->Uy,seqIndex_of->Vc,wpAny_pyIter_zip->Vi,wpAny_alloc->Vk,check_set_init_1->Vm,GenState->Vu,compTurn->Vz,pushCells_keeps->Wa,wpAny_stack_any->Wb,wpAny_specialOf->Wd,typeLookup_type->We,wpAny_updateSeq->Wf,wpAny_Name->Wj,wpAny_load->Wk,typeIs_int->Wn,call->Wq,defaultsOf->Wv,setItem->Xi,small_one->Xj,Keyword->Xn,seqItems?->Xp,IsEnumOut->Xr,scanBound->Xu,IsRange->Xw,ItemsOf->Xx,Within->XV,Fin->Zb
open PySem.Around renaming under_plainId->Ey,frames_deeper->Lc,under_plain->Ti
open PySem.AutoSeq1 renaming wpAny_loadPart'->Es
open PySem.Builtin.Frozenset renaming updateFrom->Mf,sizeOf->Ox,newClass->Xf,oneOther->Xg,addrOf->Xz
open PySem.Builtin.Getset_descriptor renaming descrCheckInstance->OT,descrNameAndClass->OZ,descrGetter->Rx,descrGet->Ts
open PySem.Builtin.List renaming listExtendWith->ID,listTooLong->Jg,listLengthHint->Mu,listSameRef->Oy,listUpdate->Yh
open PySem.Builtin.ObjectAttr renaming bindTo->Ob,dataDescriptor?->Tr,getOf->Xy,find->Ye
open PySem.Builtin.Range renaming rangeSize->Gd,small->Mi
open PySem.Builtin.Slice renaming sliceAdjust->Ef,slicePlaces->Eg,sliceApplied->Gx,sliceFields->Nv,slicePartIndex->Wl
open PySem.Builtin.SmallTypes renaming nextOf->Cp,ownedTupleIsFree->CM,ownedTupleHandOut->Ep
open PySem.Builtin.Tuple renaming tupleExact->Dc,tupleItemsOf->IK,tupleIsExact->Xe
open PySem.Calls renaming spliced_cons->Et,spliced_nil->Fc,Name_function_global->Nd,evalArgs_plain->Re
open PySem.Challenge renaming pw_fewdistances_k70_marks_looked_at->Np,rw_fewdistances_k70_marks_looked_at->Nq
open PySem.Code renaming quiet_builtin->Na,compLoop->Xq
open PySem.F renaming called_set->Bz,slot_tuple_iterator_next->Gy,plain_list_iadd->Ht,slot_enumerate_next->Ir,args_tuple_add_2->Jf,entry_tuple_add->Jp,slot_tuple_add->Ke,called_tuple->Lh,slot_zip_next->Lq,args_tuple_iterator_next_1->Md,entry_tuple_iterator_next->Mp,entry_proto_collect->Mv,plain_proto_collect->Mw,excBase_ValueError->Ni,type_list_append->O1,attr_ValueError->OH,slot_list_count->OI,slot_list_index->OJ,args_enumerate_next_1->OK,entry_type_call->OM,entry_list_iadd->ON,plainAttrs_list->OQ,type_list_count->OR,type_list_index->OS,entry_enumerate_next->Pc,typeCall_set_1->Pg,entry_set_init->Ph,plain_set_new->Qf,slot_set_iter->Qi,args_list_append_2->Rc,entry_list_append->Rw,slot_list_append->Sz,args_zip_next_1->Ul,entry_zip_next->Vh,slot_int_rmul->Wc
open PySem.Heap renaming get?_push_of_some->Ah,lt_size->Az,get?_push_size->A7,get?_update_other->Cf,size_push->Ci,SameBut->CI,get?_update_self->Dw,get?_none_of_le->Hk,FlyingW->Lx,MadeExcOf->Qs,IsTuple->Tu,IsList->Vg,ExtBut->Yq,HeldW->Yu
open PySem.Heap.IsSliceOf renaming new->Sy
open PySem.Heap.SameBut renaming update->Fg,refl->Oe
open PySem.IsL renaming update->Ve
open PySem.IsRange renaming new->Ux
open PySem.MeetsSeq renaming list_index->Xo,EqGives->Yj
open PySem.NameKind renaming free->Ej,cell->Kq
open PySem.Obj renaming mapSeq->Dn,mapFields->Sd,data_mapFields->Te,putSet->Wt
open PySem.PyData renaming showable->Po,leavesShortAll->Qo,showableAll->Tk,leavesShort->Tl,hasDictAll->Uu,depthAll->Wi,bulkAll->Xa,hasDict->Xb,depth->Yi,bulk->Yr
open PySem.SeqAt.EqAt renaming bool_bool->Xd,same->Xl,of_refs->Yf
open PySem.SetTable renaming insertAt->AS,below->AV,sizeAbove->CZ,grown->Fb,runEnd->Fk,insertAt_perm->Gr,fill->IR,Probe->Ka,toList_insertAt->Ou,tooFull->OD,laid->Ry,fits->Rz,has->Tw,layClean->Uq,slot->Xs
open PySem.SetTable.below renaming go->Up
open PySem.SetTable.layClean renaming free->Gs
open PySem.SetTable.probe renaming go->Iw
open PySem.Shared renaming heap->Kt,TypeIs->Om
open PySem.Str renaming ofString->Fl
open PySem.Value renaming ref->AU,none->Bs,bool->Dt,type->Ev,int->Hg,str->Pq,isStrOf->Xh,builtin->Xk,isInt->Yl,float->Ym
open PySem.W renaming Frag->Aj,nsIn->Bw,tabIn->Cd,kia_one->CG,keepIn->CJ,fnOf->Em,kitx_list->Hi,exmOne->Hn,callWith_K->Hv,cellsFrom_some->Hy,kitOne->IB,codeIn->IC,tabObj->IE,envX->IG,kla_obj->Jd,kitx_tuple->Jj,findIn->Ju,kitx_dict->Jx,hideAll->Lj,methodObj->Nt,nsMap_none_of_in->Ot,instObj->OW,CodeHd->Qq,lookIn->Qr,kitAny->Ra,hideAll_get->Rk,mroIn->Ro,mg_of->Sh,of_hideAll->Sv,codeRec_of->Sw,isNs_of_in->Tc,looks_findIn->Tq,specialIn->Uc,kitx_none->Ud,kitx_bool->Ue,plainGet->Uz,kitx_int->Va,kitx_str->Vb,takesIn->Vv,OpenLaw->Wg,nsOkIn->Ww,kla_fn->Wz,WalkO->Xv
open PySem.W.Looks renaming ld->Zc
open PySem.W.WData renaming int->Za
open PySem.W.WShape renaming has->Yt
open PySem.Walks renaming tuple->Yp,list->Yv
open PySem.pickOrder renaming go->Tx
open Sum renaming inl->OU,inr->OV
open True renaming intro->Gk
open _root_ renaming List->Aa,Nat->Ai,Option->Al,Int->Am,Bool->Ap,Array->Aw,if_neg->AC,if_pos->AF,decide_eq_true_eq->AG,of_decide_eq_true->Bd,decide_eq_true->Bm,decide_eq_false->Cc,if_true->Ct,if_false->CB,String->CF,beq_self_eq_true->CH,False->CP,or_false->Du,beq_eq_false_iff_ne->Fe,decide_eq_false_iff_not->Gg,Decidable->He,decide_true->Hr,decide_false->Hs,True->Jn,StateT->Kw,Unit->Mx,beq_iff_eq->OA,DecidableEq->Pr,not_or->Qb
noncomputable section
theorem om {p:Prop}(h:p:=by omega):p:=h
theorem li {p:Prop}(h:p:=by lia):p:=h
theorem kd {p:Prop}[He p](h:p:=by decide +kernel):p:=h
section
namespace _L
open PySem PySem.Spec PyProof.Rows
abbrev Key:=Sum Am As
noncomputable def pD:Key->Ac->Ap
 |.inl k,v=>Yl k v
 |.inr x,v=>Xh x v
noncomputable def RQ (w:AL):Key->Am
 |.inl k=>hashInt k
 |.inr x=>hashStr w x
theorem zZ:∀ {k:Key} {v:Ac},pD k v=true->(∃ i t,k=OU i/\v=Hg i t)\/(∃ x t,k=OV x/\v=Pq x t)
 |.inl i,v,h=>by
  obtain⟨t,e⟩:=Value.isInt_shape (k:=i) (v:=v) h;exact .inl ⟨i,t,rfl,e⟩
 |.inr x,v,h=>by
  obtain⟨t,e⟩:=Value.isStrOf_shape (x:=x) (v:=v) h;exact .inr ⟨x,t,rfl,e⟩
theorem oP (i:Am)(t:Os):pD (.inl i) (.int i t)=true:=by simp[pD,Yl]
theorem oQ (x:As)(t:Os):pD (.inr x) (.str x t)=true:=by simp[pD,Xh]
theorem FF (a b:Am):decide ((OU a:Key)=OU b)=(a == b):=by
 by_cases e:a=b
 .subst e;simp
 .have h:¬ (OU a:Key)=OU b:=λq=>e (Sum.inl.inj q)
  rw[Cc h];exact(Fe.mpr e).symm
theorem FI (a b:As):decide ((OV a:Key)=OV b)=decide (a=b):=by
 by_cases e:a=b
 .subst e;simp
 .have h:¬ (OV a:Key)=OV b:=λq=>e (Sum.inr.inj q)
  rw[Cc h,Cc e]
theorem FG (a:Am)(b:As):decide ((OU a:Key)=OV b)=false:=Cc (λq=>nomatch q)
theorem FH (a:As)(b:Am):decide ((OV a:Key)=OU b)=false:=Cc (λq=>nomatch q)
noncomputable def x9 (prog:A5)(w:AL):PySem.KeyKind prog w Key where
 is:=pD
 hash:=RQ w
 inj:=λv a b ha hb=>by
  rcases zZ ha with⟨i,t,rfl,rfl⟩|⟨x,t,rfl,rfl⟩
  .rcases zZ hb with⟨j,u,rfl,e⟩|⟨y,u,rfl,e⟩
   .injection e with e1 _;rw[e1]
   .exact nomatch e
  .rcases zZ hb with⟨j,u,rfl,e⟩|⟨y,u,rfl,e⟩
   .exact nomatch e
   .injection e with e1 _;rw[e1]
 byValue:=λk v h=>by
  rcases zZ h with⟨i,t,rfl,rfl⟩|⟨x,t,rfl,rfl⟩ <;> rfl
 pyHash:=λhv h=>by
  rcases zZ hv with⟨i,t,rfl,rfl⟩|⟨x,t,rfl,rfl⟩
  .exact wpAny_pyHash_int h
  .exact wpAny_pyHash_str h
 eqBool:=λhu hv h=>by
  rcases zZ hu with⟨i,t,rfl,rfl⟩|⟨x,t,rfl,rfl⟩
  .rcases zZ hv with⟨j,u,rfl,rfl⟩|⟨y,u,rfl,rfl⟩
   .rw[FF] at h;exact Uv h
   .rw[FG] at h;exact SeqAt.EqAt.int_str i t y u _ _ _ _ h
  .rcases zZ hv with⟨j,u,rfl,rfl⟩|⟨y,u,rfl,rfl⟩
   .rw[FH] at h;exact SeqAt.EqAt.str_int x t j u _ _ _ _ h
   .rw[FI] at h;exact wpAny_eqBool_str h
 «strs»:=λk x t v h=>by
  rcases zZ h with⟨i,u,rfl,e⟩|⟨y,u,rfl,e⟩
  .exact nomatch e
  .injection e with e1 _
   subst e1;cases v <;> rfl
theorem r0 (prog:A5)(w:AL)(i:Am)(t:Os):(x9 prog w).is (.inl i) (.int i t)=true:=oP i t
theorem r8 (prog:A5)(w:AL)(x:As)(t:Os):(x9 prog w).is (.inr x) (.str x t)=true:=oQ x t
end _L
namespace _L
open PySem PySem.Spec PyProof.Rows
inductive V where
 |non|bl (b:Ap)|int (i:Am)|str (x:As)|byt (b:Aw UInt8)|flt (b:UInt64)|ref (a:Af)|ty (n:CF)
 deriving Pr
def qK:V->Ac->Prop
 |.non,u=>u=Bs
 |.bl b,u=>u=Dt b
 |.int i,u=>∃ t,u=Hg i t
 |.str x,u=>∃ t,u=Pq x t
 |.byt b,u=>∃ t,u=Value.bytes b t
 |.flt b,u=>∃ t,u=Ym b t
 |.ref a,u=>u=AU a
 |.ty n,u=>u=Ev n
abbrev qJ:Aa V->Aa Ac->Prop:=Paired qK
theorem qJ.length {xs:Aa V}{us:Aa Ac}(r:qJ xs us):xs.length=us.length:=Paired.length r
theorem qJ.get:∀ {xs:Aa V} {us:Aa Ac} {i:Ai} {x:V},qJ xs us->xs[i]? = Ab x->∃ u,us[i]? = Ab u/\qK x u
 |_,_,_,_,.nil,e=>by simp at e
 |_,_,0,_,.cons r _,e=>by simp at e;subst e;exact⟨_,rfl,r⟩
 |_,_,i+1,x,.cons _ t,e=>by
  obtain⟨u,h1,h2⟩:=qJ.get (i:=i) (x:=x) t (by simpa using e)
  exact⟨u,by simpa using h1,h2⟩
theorem qJ.set {x:V}{u:Ac}(r:qK x u):∀ {xs:Aa V} {us:Aa Ac} (i:Ai),qJ xs us->qJ (xs.set i x) (us.set i u)
 |_,_,_,.nil=>.nil
 |_,_,0,.cons _ t=>.cons r t
 |_,_,i+1,.cons q t=>.cons q (qJ.set r i t)
theorem qJ.append {xs ys:Aa V}{us ws:Aa Ac}(h:qJ xs us)(s:qJ ys ws):qJ (xs++ys) (us++ws):=by
 induction h with
 |nil=>exact s
 |cons r t ih=>exact .cons r ih
theorem qJ.take:∀ {xs:Aa V} {us:Aa Ac} (n:Ai),qJ xs us->qJ (xs.take n) (us.take n)
 |_,_,0,_=>.nil
 |_,_,_+1,.nil=>.nil
 |_,_,n+1,.cons r t=>.cons r (qJ.take n t)
theorem qJ.drop:∀ {xs:Aa V} {us:Aa Ac} (n:Ai),qJ xs us->qJ (xs.drop n) (us.drop n)
 |_,_,0,r=>r
 |_,_,_+1,.nil=>.nil
 |_,_,n+1,.cons _ t=>qJ.drop n t
def gB:Al V->Al Ac->Prop
 |some v,Ab u=>qK v u
 |none,none=>Jn
 |_,_=>CP
def KV {κ : Type}:Aa (κ × V)->Aa (κ × Ac)->Prop:=Paired λ(p:κ × V) (q:κ × Ac)=>p.1=q.1/\qK p.2 q.2
noncomputable def kV:Key->V
 |.inl i=>.int i
 |.inr x=>.str x
inductive HO where
  |lst (xs:Aa V)
  |tup (xs:Aa V)
  |dK (kvs:Aa (Key × V))|dT (kvs:Aa (Aa Key × V))
  |set (S:Am->Ap) (n:Ai)
  |ins (C dx:Af) (fs:Aa (As × V))
  |own (x:Af)
  |xd (fs:Aa (As × V))
  |met (f x:Af)
  |rng (lo hi:Am)
  |frz (o:AX) (u:HO)
  |tbl (ps:Aw Ac)
  |ext (φ : AB->Prop)
abbrev Hp:=Af->Al HO
noncomputable def upd (H:Hp)(a:Af)(o:HO):Hp:=λb=>if b=a then Ab o else H b
theorem qV {H:Hp}{a:Af}{o:HO}:upd H a o a=Ab o:=by unfold upd;rw[AF rfl]
theorem qI {H:Hp}{a b:Af}{o:HO}(h:b≠a):upd H a o b=H b:=by unfold upd;rw[AC h]
theorem LU {H:Hp}{a b:Af}{o u:HO}(h:H a=Ab o)(h':H b=Ab u)(d:o≠u):a≠b:=by
 intro e;subst e;rw[h] at h';exact d (Bh h')
theorem qS {H:Hp}{a b:Af}{o:HO}(h:H a=Ab o)(h':H b=none):a≠b:=by
 intro e;subst e;rw[h] at h';cases h'
section
variable (P:A5)(w:AL)
def qZ (H:Hp)(h:AB)(a:Af):HO->Prop
 |.lst xs=>xs.length<=sizeLine/\∃ (its:Aa Ac) (n:Ai),qJ xs its/\h.get? a=Ab { cls:=.type "list",data:=.seq its.toArray n }
 |.tup xs=>xs.length<=sizeLine/\∃ its:Aa Ac,qJ xs its/\Ps h a its.toArray
 |.dK kvs=>kvs.length<=sizeLine/\(a == Gi)=false/\∃ vs,KV kvs vs/\h.DictOf (x9 P w) a vs
 |.dT kvs=>kvs.length<=sizeLine/\(a == Gi)=false/\∃ xs:Aa (Aa Key × Af × Ac),
   Paired (λ(p:Aa Key × V) (q:Aa Key × Af × Ac)=>p.1=q.1/\H q.2.1=Ab (.tup (p.1.map kV))/\qK p.2 q.2.2) kvs xs /\
   ∃ o es ep,h.get? a=Ab o/\o.ExactDict/\o.data=.dict es ep/\es.toList=xs.map (entryOfKey (Pu (x9 P w)))/\(xs.map (·.1)).Nodup
 |.set S n=>h.SetOf (A8 P w) a S n
 |.ins C dx fs=>H dx=Ab (.own a)/\fs.length<=1000/\dx≠a/\h.get? a=Ab (OW C dx) /\
   ∃ mA,h.Ns1 dx mA/\(∀ f,gB (fs.lookup f) (mA f))/\XV mA (fs.map (·.1))
 |.own _=>∃ o,h.get? a=Ab o
 |.xd fs=>∃ mA,h.Ns1 a mA/\∀ f,gB (fs.lookup f) (mA f)
 |.rng lo hi=>∃ t u v,h.get? a=Ab { cls:=.type "range",data:=.fields #[.int lo t,.int hi u,.int 1 v] }
 |.frz o u=>h.get? a=Ab o/\qZ H h a u
 |.tbl ps=>h.get? a=Ab { cls:=.none,data:=.fields ps }
 |.met f x=>h.get? a=Ab (Nt (.ref f) (.ref x))
 |.ext φ => φ h/\(∃ o,h.get? a=Ab o)/\∀ h1 h2:AB,φ h1->(∀ o,h1.get? a=Ab o->h2.get? a=Ab o)->φ h2
def HOk (H:Hp)(h:AB):Prop:=∀ a o,H a=Ab o->qZ P w H h a o
end
section
variable {P:A5}{w:AL}{H H':Hp}{h h':AB}{a:Af}{o:HO}
theorem qZ.lt (x:qZ P w H h a o):a<h.objs.size:=by
 cases o with
 |lst xs=>obtain⟨_,_,_,_,e⟩:=x;exact Az e
 |tup xs=>obtain⟨_,_,_,p⟩:=x;exact p.lt
 |dK kvs=>obtain⟨_,_,_,_,o,_,_,e,_⟩:=x;exact Az e
 |dT kvs=>obtain⟨_,_,_,_,o,_,_,e,_⟩:=x;exact Az e
 |set S n=>obtain⟨o,_,_,_,e,_⟩:=x;exact Az e
 |ins C dx fs=>obtain⟨_,_,_,e,_⟩:=x;exact Az e
 |own y=>obtain⟨_,e⟩:=x;exact Az e
 |xd fs=>obtain⟨_,⟨_,_,_,e,_⟩,_⟩:=x;exact Az e
 |rng lo hi=>obtain⟨_,_,_,e⟩:=x;exact Az e
 |frz ob u=>obtain⟨e,_⟩:=x;exact Az e
 |tbl ps=>exact Az (show h.get? a=Ab _ from x)
 |met f y=>exact Az (show h.get? a=Ab _ from x)
 |ext φ => obtain⟨_,⟨_,e⟩,_⟩:=x;exact Az e
theorem Paired.mapP {α β:Type}{F G:α->β->Prop}{l₁:Aa α}{l₂:Aa β}(h:Paired F l₁ l₂)(f:∀ a b,F a b->G a b):Paired G l₁ l₂:=by
 induction h with
 |nil=>exact .nil
 |cons r t ih=>exact .cons (f _ _ r) ih
theorem qZ.stay (x:qZ P w H h a o)(k:∀ b u,(b=a\/H b=Ab (.own a))->h.get? b=Ab u->h'.get? b=Ab u)
  (ho:∀ b,H b=Ab (.own a)->H' b=Ab (.own a)) (ht:∀ b xs,H b=Ab (.tup xs)->H' b=Ab (.tup xs)):qZ P w H' h' a o:=by
 induction o with
 |lst xs=>obtain⟨z,its,n,r,e⟩:=x;exact⟨z,its,n,r,k _ _ (.inl rfl) e⟩
 |tup xs=>obtain⟨z,its,r,ob,e,c⟩:=x;exact⟨z,its,r,ob,k _ _ (.inl rfl) e,c⟩
 |dK kvs=>obtain⟨z,y,vs,r,ob,es,ep,e,c⟩:=x;exact⟨z,y,vs,r,ob,es,ep,k _ _ (.inl rfl) e,c⟩
 |dT kvs =>
  obtain⟨z,y,xs,r,ob,es,ep,e,c⟩:=x;exact⟨z,y,xs,Paired.mapP r λp q z=>⟨z.1,ht _ _ z.2.1,z.2.2⟩,ob,es,ep,k _ _ (.inl rfl) e,c⟩
 |set S n=>obtain⟨ob,es,ep,t,e,c⟩:=x;exact⟨ob,es,ep,t,k _ _ (.inl rfl) e,c⟩
 |ins C dx fs =>
  obtain⟨d,z,ne,e,mA,⟨od,es,ep,e2,c⟩,r⟩:=x;exact⟨ho _ d,z,ne,k _ _ (.inl rfl) e,mA,⟨od,es,ep,k _ _ (.inr d) e2,c⟩,r⟩
 |own y=>obtain⟨ob,e⟩:=x;exact⟨ob,k _ _ (.inl rfl) e⟩
 |xd fs=>obtain⟨mA,⟨od,es,ep,e,c⟩,r⟩:=x;exact⟨mA,⟨od,es,ep,k _ _ (.inl rfl) e,c⟩,r⟩
 |rng lo hi=>obtain⟨t,u,v,e⟩:=x;exact⟨t,u,v,k _ _ (.inl rfl) e⟩
 |frz ob u ih=>obtain⟨e,q⟩:=x;exact⟨k _ _ (.inl rfl) e,ih q⟩
 |tbl ps =>
  have e:h.get? a=Ab { cls:=.none,data:=.fields ps }:=x;show h'.get? a=Ab { cls:=.none,data:=.fields ps };exact k a _ (.inl rfl) e
 |met f y =>
  have e:h.get? a=Ab (Nt (.ref f) (.ref y)):=x;show h'.get? a=Ab (Nt (.ref f) (.ref y));exact k a _ (.inl rfl) e
 |ext φ => obtain⟨p,⟨o,e⟩,st⟩:=x;exact⟨st _ _ p λo q=>k _ _ (.inl rfl) q,⟨o,k _ _ (.inl rfl) e⟩,st⟩
theorem HOk.lt (x:HOk P w H h)(e:H a=Ab o):a<h.objs.size:=(x a o e).lt
theorem HOk.fresh (x:HOk P w H h)(e:h.objs.size<=a):H a=none:=by
 cases q:H a with
 |none=>rfl
 |some u=>exact absurd (Ax (x.lt q) e) (Dh _)
theorem HOk.kept (x:HOk P w H h)(k:∀ b u,h.get? b=Ab u->h'.get? b=Ab u):HOk P w H h':=λa o e =>
 (x a o e).stay (λb u _ q=>k b u q) (λ_ q=>q) λ_ _ q=>q
theorem HOk.laid (x:HOk P w H h)(k:∀ b u,h.get? b=Ab u->h'.get? b=Ab u)(hp:h.objs.size<=a)(new:qZ P w (upd H a o) h' a o):HOk P w (upd H a o) h':=λb u e=>by
 have hn:=x.fresh hp;by_cases hb:b=a
 .subst hb;rw[qV] at e;cases e;exact new
 .rw[qI hb] at e
  exact(x b u e).stay (λc v _ q=>k c v q) (λc q=>by rw[qI (qS q hn)];exact q) λc xs q=>by rw[qI (qS q hn)];exact q
end
def Rd (H:Hp)(a:Af)(u:HO):Prop:=H a=Ab u\/∃ o,H a=Ab (.frz o u)
theorem Rd.of {H:Hp}{a:Af}{u:HO}(h:H a=Ab u):Rd H a u:=.inl h
theorem Rd.ok {P:A5}{w:AL}{H:Hp}{h:AB}{a:Af}{u:HO}(r:Rd H a u)(x:HOk P w H h):qZ P w H h a u:=by
 rcases r with r|⟨o,r⟩
 .exact x a u r
 .obtain⟨_,q⟩:=x a _ r
  exact q
def Mut:Al HO->Prop
 |some (.lst _)=>Jn
 |some (.dK _)=>Jn
 |some (.dT _)=>Jn
 |some (.set _ _)=>Jn
 |some (.ins _ _ _)=>Jn
 |some (.ext _)=>Jn
 |_=>CP
section
variable {P:A5}{w:AL}{H:Hp}{h h':AB}{x e:Af}{o':HO}
theorem HOk.write (ok:HOk P w H h)(mu:Mut (H x))(he:e=x\/H e=Ab (.own x))(k:∀ b u,b≠e->h.get? b=Ab u->h'.get? b=Ab u)(heo:∃ u,h'.get? e=Ab u)
  (new:qZ P w (upd H x o') h' x o'):HOk P w (upd H x o') h':=λb u q=>by
 have nown:∀ c y,H c=Ab (.own y)->c≠x:=λc y r z=>by subst z;rw[r] at mu;exact mu
 have ntup:∀ c xs,H c=Ab (.tup xs)->c≠x:=λc xs r z=>by subst z;rw[r] at mu;exact mu
 by_cases hb:b=x
 .subst hb;rw[qV] at q;cases q;exact new
 .rw[qI hb] at q
  by_cases hbe:b=e
  .have q':H b=Ab (.own x):=by
    rcases he with z|z
    .exact absurd (hbe.trans z) hb
    .rw[hbe];exact z
   rw[q] at q';cases q';obtain⟨v,hv⟩:=heo;exact⟨v,by rw[hbe];exact hv⟩
  .refine(ok b u q).stay (λc v hc r=>k c v ?_ r) (λc r=>by rw[qI (nown c b r)];exact r) λc xs r=>by rw[qI (ntup c xs r)];exact r
   rcases hc with rfl|hc
   .exact hbe
   .rintro rfl
    rcases he with z|z
    .exact nown c b hc z
    .rw[hc] at z;cases z;exact hb rfl
end
structure Un (fs ex:Aa Af)(H H':Hp)(h h':AB):Prop where
 keep:∀ b o,h.get? b=Ab o->H b=none->b ∉ fs->b ∉ ex->h'.get? b=Ab o
 slot:∀ b o,h.get? b=Ab o->H b=none->b∈fs->b ∉ ex->∃ sl,h'.get? b=Ab { o with slots:=sl }
 free:∀ b o,h.get? b=Ab o->H b=none->b ∉ ex->H' b=none
 there:∀ b o,h.get? b=Ab o->b ∉ ex->∃ o',h'.get? b=Ab o'
 tups:∀ b xs,H b=Ab (.tup xs)->H' b=Ab (.tup xs)
 frzs:∀ b o u,H b=Ab (.frz o u)->H' b=Ab (.frz o u)
 tbls:∀ b ps,H b=Ab (.tbl ps)->∃ more,H' b=Ab (.tbl (ps++more))
section
variable {fs fs' ex ex':Aa Af}{H H1 H2:Hp}{h h1 h2 h':AB}{a x e:Af}{o:HO}
theorem Un.any (u:Un fs ex H H1 h h1){b:Af}{ob:AX}(q:h.get? b=Ab ob)(n:H b=none)(hx:b ∉ ex):∃ sl,h1.get? b=Ab { ob with slots:=sl }:=by
 by_cases hb:b∈fs
 .exact u.slot b ob q n hb hx
 .exact⟨ob.slots,u.keep b ob q n hb hx⟩
theorem Un.kept (k:∀ b u,h.get? b=Ab u->h'.get? b=Ab u):Un fs ex H H h h':=
 ⟨λb ob q _ _ _=>k b ob q,λb ob q _ _ _=>⟨ob.slots,k b ob q⟩,λ_ _ _ n _=>n,λb ob q _=>⟨ob,k b ob q⟩,λ_ _ q=>q,λ_ _ _ q=>q,λ_ ps q=>⟨#[],by rw[q];simp⟩⟩
theorem Un.refl:Un fs ex H H h h:=Un.kept λ_ _ q=>q
theorem Un.laid (k:∀ b u,h.get? b=Ab u->h'.get? b=Ab u)(hp:h.objs.size<=a)(hn:H a=none):Un fs ex H (upd H a o) h h' where
 keep:=λb u q _ _ _=>k b u q
 slot:=λb u q _ _ _=>⟨u.slots,k b u q⟩
 free:=λb u q n _=>by rw[qI (AZ (Ax (Az q) hp))];exact n
 there:=λb u q _=>⟨u,k b u q⟩
 tups:=λb xs q=>by rw[qI (qS q hn)];exact q
 frzs:=λb u xs q=>by rw[qI (qS q hn)];exact q
 tbls:=λb ps q=>⟨#[],by rw[qI (qS q hn),q];simp⟩
theorem Un.write (mu:Mut (H x))(he:e=x\/H e=Ab (.own x))(k:∀ b u,b≠e->h.get? b=Ab u->h'.get? b=Ab u)(heo:∃ u,h'.get? e=Ab u):Un fs ex H (upd H x o) h h':=by
 have hx:∀ b,H b=none->b≠x:=λb n z=>by subst z;rw[n] at mu;exact mu
 have hb:∀ b,H b=none->b≠e:=λb n z=>by
  subst z;rcases he with r|r
  .exact hx b n r
  .rw[n] at r;cases r
 have hm:∀ b u,H b=Ab u->¬ Mut (Ab u)->b≠x:=λb u q nm z=>by subst z;rw[q] at mu;exact nm mu
 refine⟨λb u q n _ _=>k b u (hb b n) q,λb u q n _ _=>⟨u.slots,k b u (hb b n) q⟩,λb u q n _=>by rw[qI (hx b n)];exact n,λb u q _=>?_,
  λb xs q=>by rw[qI (hm b _ q λz=>z)];exact q,λb u xs q=>by rw[qI (hm b _ q λz=>z)];exact q,λb ps q=>⟨#[],by rw[qI (hm b _ q λz=>z),q];simp⟩⟩
 by_cases hbe:b=e
 .subst hbe;exact heo
 .exact⟨u,k b u hbe q⟩
end
noncomputable def trk (h:AB)(H:Hp):Aa Af:=(Be h.objs.size).filter λa=>(H a).isSome
noncomputable def kF (h:AB)(H:Hp):AB:=Lj h (trk h H)
theorem oI (h:AB)(H:Hp):(kF h H).objs.size=h.objs.size:=PySem.W.hideAll_size _ _
theorem W0 {h:AB}{H:Hp}{b:Af}{o:AX}(e:h.get? b=Ab o)(n:H b=none):(kF h H).get? b=Ab o:=
 Rk _ e λhm=>by
  have q:(H b).isSome=true:=(Vt.mp hm).2;rw[n] at q;simp at q
theorem K2 {h:AB}{H:Hp}{b:Af}{o:AX}(e:(kF h H).get? b=Ab o):h.get? b=Ab o/\H b=none:=by
 have e':h.get? b=Ab o:=Sv (trk h H) e;refine⟨e',?_⟩;cases q:H b with
 |none=>rfl
 |some x =>
  have hm:b∈trk h H:=Vt.mpr ⟨De.mpr (Az e'),by simp[q]⟩
  have z:(kF h H).get? b=none:=PySem.W.hideAll_none (trk h H) hm;rw[z] at e;cases e
noncomputable def VT (g h:AB)(L:Af):Aa (Af × AX):=(Be h.objs.size).filterMap λa=>if a=L\/(g.get? a).isSome=true then none else (h.get? a).map λo=>(a,o)
noncomputable def qO (g h:AB)(L d:Af):Aa (Af × AX):=(VT g h L).filter λp=>decide (p.1≠d)
end _L
namespace _L
open PySem PySem.Spec PyProof.Rows
variable {ch:Aa Af}{E:Ac->Ag->Prop}{t':Ai}{g':Aw Vu}{d':Drawn}{M:Im}{Q:Mx->Ag->Prop}
noncomputable def wC:Aa As:=["law","_law_right","by_hull","pair_bound","hub","greatest_often"]
def P7 (mg:As->Al Ac)(h:AB):Prop:=∃ bm o,mg "__builtins__" = Ab (.ref bm)/\bm≠Lz/\h.get? bm=Ab o/\o.cls=.type "module" /\ o.dict=Ab Lz/\o.data=.plain
structure Mod (K:Aj)(mg:As->Al Ac)(base:AB):Prop where
 kin:K.In base
 glob:base.Ns AW mg
 blt:∃ mb,base.Ns Lz mb/\∀ x:As,x ≠ "__name__" -> mb x=CU x
 nolimit:base.NoLimit
 bm:P7 mg base
 code:∀ x∈wC,∀ c T,Cd K x=Ab (c,T)->Qq base c T
 inj:∀ x∈wC,∀ y∈wC,∀ c d T,Cd K x=Ab (c,T)->Cd K y=Ab (d,T)->x=y
structure Cx where
 prog:A5
 w:AL
 K:Aj
 mg:As->Al Ac
 base:AB
 A:AK
 N:Aa As
 s₀:Ag
 H₀:Hp
 env:Gj
 outer:Aa Gj
 stack:Aa Gj
 ex:Aa Af
 fn:As->Ap
 calm:Ap
 pn:Aa (Af × AX)
 xe:Ac->Ag->Prop
noncomputable def frs (l:Aa Gj):Aa Af:=l.filterMap (·.frame)
abbrev Cx.fs (X:Cx):Aa Af:=frs X.outer
def Vis (sc:Cs)(x:As):Prop:=sc.names.lookup x=Ab .local \/ sc.names.lookup x=Ab .cell\/sc.names.lookup x=Ab .free
def Loc (sc:Cs)(x:As):Prop:=sc.names.lookup x=Ab .local \/ sc.names.lookup x=Ab .cell
def PB (env:Gj)(h:AB)(m:As->Al Ac)(x:As)(u:Ac):Prop:=
 (env.kindOf x=Ab .local /\ m x=Ab u)\/((env.kindOf x=Ab .cell\/env.kindOf x=Ab .free)/\∃ c,env.cells.lookup x=Ab c/\h.IsCell c (Ab u))
structure Cx.Ok (X:Cx):Prop where
 mod:Mod X.K X.mg X.base
 kind:X.env.scope.kind=.function
 glob:X.env.globals=AW
 blt:X.env.builtins=Lz
 above:X.s₀.heap.objs.size<=X.env.locals
 inj:∀ x y c,X.env.cells.lookup x=Ab c->X.env.cells.lookup y=Ab c->x=y
 has:∀ x,(X.env.kindOf x=Ab .cell\/X.env.kindOf x=Ab .free)->∃ c,X.env.cells.lookup x=Ab c
 cab:∀ x c,X.fn x=true->X.env.cells.lookup x=Ab c->X.s₀.heap.objs.size<=c
 hd:X.calm=true->X.A.handled=none
 frames:X.A.frames=Ab X.stack
 stk:X.stack=X.outer\/(X.stack=X.env::X.outer/\X.env.frame=Ab X.env.locals)
 exf:∀ b∈X.ex,b≠X.env.locals/\∀ x c,X.env.cells.lookup x=Ab c->c≠b
 bs:∀ b o,X.base.get? b=Ab o->X.s₀.heap.get? b=Ab o/\X.H₀ b=none
 bsz:X.base.objs.size<=X.s₀.heap.objs.size
 noex:∀ b o,X.base.get? b=Ab o->b ∉ X.ex
 exfs:∀ b∈X.ex,b ∉ X.fs
 funs:X.s₀.heap.FunFrames X.base X.outer
 frf:∀ b∈X.fs,X.H₀ b=none
structure Inv (X:Cx)(pins:Aa (Af × AX))(σ : Aa (Al V))(H:Hp)(s:Ag):Prop where
 ok:X.Ok
 os:s.os=X.s₀.os
 bare:Kj s.gens
 base:Un X.fs X.ex X.H₀ H X.s₀.heap s.heap
 loc:∃ m,s.heap.Ns X.env.locals m/\∀ (i:Ai) (x:As) (v:V),X.N[i]? = Ab x->σ[i]? = Ab (Ab v)->Vis X.env.scope x->∃ u,qK v u/\PB X.env s.heap m x u
 cell:∀ x c,X.env.cells.lookup x=Ab c->∃ v,s.heap.IsCell c v
 free:H X.env.locals=none
 freeC:∀ x c,X.env.cells.lookup x=Ab c->H c=none
 pin:∀ p∈X.pn++pins,s.heap.get? p.1=Ab p.2/\H p.1=none/\p.1≠X.env.locals/\p.1 ∉ X.fs/\∀ v,p.2.data≠.cell v
 hok:HOk X.prog X.w H s.heap
 len:σ.length=X.N.length
section
variable {X:Cx}{pins:Aa (Af × AX)}{σ : Aa (Al V)}{H H':Hp}{s:Ag}{h':AB}
theorem Cx.Ok.nofr (ok:X.Ok){b:Af}{o:AX}(e:X.base.get? b=Ab o):b ∉ X.fs:=λhb=>by
 have:=(ok.funs.mem hb).1;rw[e] at this;cases this
theorem Inv.bs (I:Inv X pins σ H s):∀ b o,X.base.get? b=Ab o->s.heap.get? b=Ab o/\H b=none:=λb o e =>
 ⟨I.base.keep b o (I.ok.bs b o e).1 (I.ok.bs b o e).2 (I.ok.nofr e) (I.ok.noex b o e),I.base.free b o (I.ok.bs b o e).1 (I.ok.bs b o e).2 (I.ok.noex b o e)⟩
theorem Inv.bk (I:Inv X pins σ H s):∀ b o,X.base.get? b=Ab o->s.heap.get? b=Ab o:=λb o e=>(I.bs b o e).1
theorem Inv.mod (I:Inv X pins σ H s):Mod X.K X.mg X.base:=I.ok.mod
theorem Inv.kIn (I:Inv X pins σ H s):X.K.In s.heap:=I.ok.mod.kin.keeps I.bk
theorem Inv.nolimit (I:Inv X pins σ H s):s.heap.NoLimit:=I.ok.mod.nolimit.keeps I.bk
theorem Inv.lt (I:Inv X pins σ H s):X.env.locals<s.heap.objs.size:=let ⟨_,hn,_⟩:=I.loc;hn.lt
theorem Inv.sz (I:Inv X pins σ H s):X.s₀.heap.objs.size<=s.heap.objs.size:=Bp I.ok.above (CV I.lt)
theorem Inv.nofs (I:Inv X pins σ H s){a:Af}(h:s.heap.objs.size<=a):a ∉ X.fs:=λhb=>by
 obtain⟨_,o,ho,_⟩:=I.ok.funs.mem hb;exact absurd (Ax (Az ho) (Bp I.sz h)) (Dh _)
theorem Inv.cne (I:Inv X pins σ H s):∀ x c,X.env.cells.lookup x=Ab c->c≠X.env.locals:=λx c e z=>by
 obtain⟨v,o,ho,hd⟩:=I.cell x c e;obtain⟨m,⟨o',es,ep,ho',hd',_⟩,_⟩:=I.loc;rw[z,ho'] at ho;cases ho;rw[hd'] at hd;cases hd
theorem Inv.funs (I:Inv X pins σ H s):s.heap.FunFrames X.base X.outer:=by
 have all:∀ (l:Aa Gj),(∀ b∈frs l,b∈X.fs)->X.s₀.heap.FunFrames X.base l->s.heap.FunFrames X.base l:=by
  intro l
  induction l with
  |nil=>intro _ _;trivial
  |cons env r ih =>
   intro hs hl;obtain⟨hk,⟨L,o,hf,hn,ho,hd⟩,hr⟩:=hl;have hL:L∈X.fs:=hs L (by unfold frs;rw[Ec,hf];exact Bx)
   obtain⟨sl,e⟩:=I.base.slot L o ho (I.ok.frf L hL) hL λz=>I.ok.exfs L z hL;exact⟨hk,⟨L,_,hf,hn,e,hd⟩,ih (λb hb=>hs b (by unfold frs;rw[Ec,hf];exact Bb _ hb)) hr⟩
 exact all X.outer (λ_ hb=>hb) I.ok.funs
theorem Inv.stack (I:Inv X pins σ H s):s.heap.FunFrames X.base X.stack:=by
 rcases I.ok.stk with e|⟨e,hf⟩
 .rw[e];exact I.funs
 .rw[e]
  obtain⟨m,hn,_⟩:=I.loc;refine .cons (by rw[I.ok.kind];decide) hf hn ?_ I.funs
  exact Hk (Bp I.ok.bsz I.ok.above)
theorem Inv.stkSub (I:Inv X pins σ H s):∀ b∈frs X.stack,b∈X.env.locals::X.fs:=λb hb=>by
 rcases I.ok.stk with e|⟨e,hf⟩
 .rw[e] at hb;exact Bb _ hb
 .rw[e] at hb
  unfold frs at hb;rw[Ec,hf] at hb;exact hb
theorem Inv.stkFree (I:Inv X pins σ H s):∀ b∈frs X.stack,H b=none:=λb hb=>by
 rcases Av.mp (I.stkSub b hb) with e|hb
 .rw[e];exact I.free
 .obtain⟨_,o,ho,_⟩:=I.ok.funs.mem hb
  exact I.base.free b o ho (I.ok.frf b hb) λz=>I.ok.exfs b z hb
theorem Inv.step {g':Aw Vu}{t':Ai}{d':Drawn}(I:Inv X pins σ H s)
  (hch:∀ b∈ch,(b∈X.ex\/X.s₀.heap.objs.size<=b)/\b≠X.env.locals/\(∀ x c,X.env.cells.lookup x=Ab c->c≠b)/\∀ p∈X.pn++pins,p.1≠b)
  (keep:∀ b o,b≠X.env.locals->b ∉ X.fs->b ∉ ch->s.heap.get? b=Ab o->H b=none->h'.get? b=Ab o)
  (slot:∀ b o,b≠X.env.locals->b∈X.fs->b ∉ ch->s.heap.get? b=Ab o->H b=none->∃ sl,h'.get? b=Ab { o with slots:=sl }) (free:∀ b o,b ∉ ch->s.heap.get? b=Ab o->H b=none->H' b=none)
  (there:∀ b o,b ∉ ch->s.heap.get? b=Ab o->∃ o',h'.get? b=Ab o')
  (tups:∀ b xs,H b=Ab (.tup xs)->H' b=Ab (.tup xs)) (frzs:∀ b o u,H b=Ab (.frz o u)->H' b=Ab (.frz o u)) (tbls:∀ b ps,H b=Ab (.tbl ps)->∃ more,H' b=Ab (.tbl (ps++more)))
  (ns:∀ m,s.heap.Ns X.env.locals m->h'.Ns X.env.locals m) (hok:HOk X.prog X.w H' h') (hg:Kj g') :
  Inv X pins σ H' { s with heap:=h',gens:=g',drawn:=d',toks:=t' }:=by
 have neL:∀ b o,X.s₀.heap.get? b=Ab o->b≠X.env.locals:=λb o e=>AZ (Ax (Az e) I.ok.above);have neC:∀ b o,X.s₀.heap.get? b=Ab o->b ∉ X.ex->b ∉ ch:=λb o e hx hb=>by
  rcases (hch b hb).1 with z|z
  .exact hx z
  .exact absurd (Ax (Az e) z) (Dh _)
 have cellK:∀ x c,X.env.cells.lookup x=Ab c->∀ v,s.heap.IsCell c v->h'.IsCell c v:=λx c e v ⟨o,ho,hd⟩=>by
  have nch:c ∉ ch:=λz=>(hch c z).2.2.1 x c e rfl;by_cases hc:c∈X.fs
  .obtain⟨sl,q⟩:=slot c o (I.cne x c e) hc nch ho (I.freeC x c e)
   exact⟨_,q,hd⟩
  .exact⟨o,keep c o (I.cne x c e) hc nch ho (I.freeC x c e),hd⟩
 refine⟨I.ok,I.os,hg,⟨λb o e n hb hx=>?_,λb o e n hb hx=>?_,λb o e n hx=>?_,λb o e hx=>?_,λb xs e=>tups b xs (I.base.tups b xs e),λb o xs e=>frzs b o xs (I.base.frzs b o xs e),λb ps e=>?_⟩,?_,λx c e=>?_,?_,λx c e=>?_,λp hp=>?_,hok,I.len⟩
 .exact keep b o (neL b o e) hb (neC b o e hx) (I.base.keep b o e n hb hx) (I.base.free b o e n hx)
 .obtain⟨sl,e1⟩:=I.base.slot b o e n hb hx
  obtain⟨sl',e2⟩:=slot b _ (neL b o e) hb (neC b o e hx) e1 (I.base.free b o e n hx);exact⟨sl',e2⟩
 .obtain⟨o',e1⟩:=I.base.there b o e hx
  exact free b o' (neC b o e hx) e1 (I.base.free b o e n hx)
 .obtain⟨o',e1⟩:=I.base.there b o e hx
  exact there b o' (neC b o e hx) e1
 .obtain⟨m1,e1⟩:=I.base.tbls b ps e
  obtain⟨m2,e2⟩:=tbls b _ e1;exact⟨m1++m2,by rw[e2,Array.append_assoc]⟩
 .obtain⟨m,hn,hl⟩:=I.loc
  refine⟨m,ns m hn,λi x v e1 e2 e3=>?_⟩;obtain⟨u,r,l⟩:=hl i x v e1 e2 e3;refine⟨u,r,?_⟩;rcases l with l|⟨k,c,e,z⟩
  .exact .inl l
  .exact .inr ⟨k,c,e,cellK x c e _ z⟩
 .obtain⟨v,z⟩:=I.cell x c e
  exact⟨v,cellK x c e v z⟩
 .obtain⟨m,⟨o,_,_,ho,_⟩,_⟩:=I.loc
  exact free _ o (λz=>(hch _ z).2.1 rfl) ho I.free
 .obtain⟨v,o,ho,hd⟩:=I.cell x c e
  exact free c o (λz=>(hch c z).2.2.1 x c e rfl) ho (I.freeC x c e)
 .obtain⟨e,n,ne,nf,d⟩:=I.pin p hp
  have nch:p.1 ∉ ch:=λz=>(hch p.1 z).2.2.2 p hp rfl;exact⟨keep p.1 p.2 ne nf nch e n,free p.1 p.2 nch e n,ne,nf,d⟩
theorem Inv.un {t':Ai}(I:Inv X pins σ H s)(u:Un X.fs [] H H' s.heap h')(hok:HOk X.prog X.w H' h'):Inv X pins σ H' { s with heap:=h',toks:=t' }:=by
 obtain⟨m,⟨o,es,ep,ho,r⟩,_⟩:=id I.loc;obtain⟨sl,hL⟩:=u.any ho I.free (by simp)
 exact I.step (g':=s.gens) (d':=s.drawn) (ch:=[]) (λ_ z=>nomatch z) (λb o _ hb _ e n=>u.keep b o e n hb (by simp)) (λb o _ hb _ e n=>u.slot b o e n hb (by simp)) (λb o _ e n=>u.free b o e n (by simp)) (λb o _ e=>u.there b o e (by simp)) u.tups u.frzs u.tbls (λm' hm=>by
  obtain⟨o',es',ep',ho',r'⟩:=hm;rw[ho] at ho';cases ho';exact⟨_,es',ep',hL,r'⟩) hok I.bare
theorem Inv.call {t':Ai}{d':Drawn}(I:Inv X pins σ H s)(u:Un (frs X.stack) ch H H' s.heap h')(hok:HOk X.prog X.w H' h')(hg:Kj g')
  (hch:∀ b∈ch,(b∈X.ex\/X.s₀.heap.objs.size<=b)/\b≠X.env.locals/\(∀ x c,X.env.cells.lookup x=Ab c->c≠b)/\∀ p∈X.pn++pins,p.1≠b) :
  Inv X pins σ H' { s with heap:=h',gens:=g',drawn:=d',toks:=t' }:=by
 obtain⟨m,⟨o,es,ep,ho,r⟩,_⟩:=id I.loc;obtain⟨sl,hL⟩:=u.any ho I.free λz=>(hch _ z).2.1 rfl;exact I.step (ch:=ch) hch (λb o hL hb hc e n=>u.keep b o e n (λz=>(Av.mp (I.stkSub b z)).elim hL hb) hc) (λb o _ _ hc e n=>u.any e n hc) (λb o hc e n=>u.free b o e n hc) (λb o hc e=>u.there b o e hc) u.tups u.frzs u.tbls (λm' hm=>by
  obtain⟨o',es',ep',ho',r'⟩:=hm;rw[ho] at ho';cases ho';exact⟨_,es',ep',hL,r'⟩) hok hg
theorem Inv.turned {t':Ai}{it:Af}(I:Inv X pins σ H s)(k:∀ b o,b≠it->s.heap.get? b=Ab o->h'.get? b=Ab o)(hn:H it=none)(hL:it≠X.env.locals)
  (h1:it∈X.ex\/X.s₀.heap.objs.size<=it) (h2:∀ x c,X.env.cells.lookup x=Ab c->c≠it) (h3:∀ p∈X.pn++pins,p.1≠it):Inv X pins σ H { s with heap:=h',toks:=t' }:=by
 have nit:∀ b u,H b=Ab u->b≠it:=λb u e z=>by rw[z,hn] at e;cases e
 refine I.step (g':=s.gens) (d':=s.drawn) (ch:=[it]) (λb hb=>?_) (λb o _ _ hc e _=>k b o (λz=>hc (by simp[z])) e) (λb o _ _ hc e _=>⟨o.slots,k b o (λz=>hc (by simp[z])) e⟩) (λ_ _ _ _ n=>n)
  (λb o hc e=>⟨o,k b o (λz=>hc (by simp[z])) e⟩) (λ_ _ e=>e) (λ_ _ _ e=>e) (λb ps e=>⟨#[],by rw[e];simp⟩) (λm hm=>?_) (λb u e=>?_) I.bare
 .have e:b=it:=by simpa using hb
  subst e;exact⟨h1,hL,h2,h3⟩
 .obtain⟨o,es,ep,ho,r⟩:=hm
  exact⟨o,es,ep,k _ o (Ed hL) ho,r⟩
 .refine(I.hok b u e).stay (λc v hc q=>k c v ?_ q) (λ_ q=>q) λ_ _ q=>q
  rcases hc with z|z
  .rw[z];exact nit b u e
  .exact nit c _ z
theorem Inv.tok (I:Inv X pins σ H s)(t:Ai):Inv X pins σ H { s with toks:=t }:=I.un (h':=s.heap) (t':=t) Un.refl I.hok
theorem Inv.kept {t':Ai}(I:Inv X pins σ H s)(k:∀ b u,s.heap.get? b=Ab u->h'.get? b=Ab u):Inv X pins σ H { s with heap:=h',toks:=t' }:=I.un (Un.kept k) (I.hok.kept k)
theorem Inv.laid {a:Af}{o:HO}{t':Ai}(I:Inv X pins σ H s)(k:∀ b u,s.heap.get? b=Ab u->h'.get? b=Ab u)(hp:s.heap.objs.size<=a)(new:qZ X.prog X.w (upd H a o) h' a o) :
  Inv X pins σ (upd H a o) { s with heap:=h',toks:=t' }:=I.un (Un.laid k hp (I.hok.fresh hp)) (I.hok.laid k hp new)
theorem Inv.write {x e:Af}{o:HO}{t':Ai}(I:Inv X pins σ H s)(mu:Mut (H x))(he:e=x\/H e=Ab (.own x))(k:∀ b u,b≠e->s.heap.get? b=Ab u->h'.get? b=Ab u)(heo:∃ u,h'.get? e=Ab u)
  (new:qZ X.prog X.w (upd H x o) h' x o):Inv X pins σ (upd H x o) { s with heap:=h',toks:=t' }:=I.un (Un.write mu he k heo) (I.hok.write mu he k heo new)
theorem Inv.pins_of {pins':Aa (Af × AX)}(I:Inv X pins σ H s)(h:∀ p∈pins',s.heap.get? p.1=Ab p.2/\H p.1=none/\p.1≠X.env.locals/\p.1 ∉ X.fs/\∀ v,p.2.data≠.cell v):Inv X pins' σ H s:=
 ⟨I.ok,I.os,I.bare,I.base,I.loc,I.cell,I.free,I.freeC,λp hp=>(Ba.mp hp).elim (λz=>I.pin p (Bk _ z)) (h p),I.hok,I.len⟩
theorem bK {N:Aa As}(hN:N.Nodup){i j:Ai}{x:As}(a:N[i]? = Ab x)(b:N[j]? = Ab x):i=j:=by
 obtain⟨h1,e1⟩:=Bg.mp a;obtain⟨h2,e2⟩:=Bg.mp b;exact(O6 hN).mp (e1.trans e2.symm)
theorem nK {A:AK}{i:Ai}{x:As}{v:V}{u:Ac}(I:Inv X pins σ H s)(hN:X.N.Nodup)(hi:X.N[i]? = Ab x)(hx:Loc X.env.scope x)(r:qK v u)
  (h:∀ s',Inv X pins (σ.set i (Ab v)) H s'->(∃ a,CI a s.heap s'.heap/\(a=X.env.locals\/X.env.cells.lookup x=Ab a))->Q () s') (hf:X.fn x=true\/X.env.scope.names.lookup x=Ab .local:=by first|exact .inl rfl|exact .inr rfl|assumption):Ao M A (storeName X.env x u) Q E s:=by
 obtain⟨m,hn,hl⟩:=id I.loc;have hcls:(X.env.scope.kind == .class||(X.env.scope.kind == .module&&X.env.locals != X.env.globals))=false:=by rw[I.ok.kind];rfl
 have hiσ:i<σ.length:=by rw[I.len];exact(Bg.mp hi).1
 have cne:=I.cne;have tracked:∀ {a:Af} {h':AB},(∃ o,s.heap.get? a=Ab o/\H a=none)->CI a s.heap h'->HOk X.prog X.w H h':=λ{a h'} ha hs b ob e=>by
  obtain⟨_,_,hfree⟩:=ha;refine(I.hok b ob e).stay (λc w' hc q=>(hs.2 c ?_).trans q) (λ_ q=>q) λ_ _ q=>q;rintro rfl;rcases hc with rfl|hc
  .rw[hfree] at e;cases e
  .rw[hfree] at hc;cases hc
 rcases hx with hk|hk
 .refine wpAny_storeName_local hk hn (λh' hn' hs=>?_) hcls
  obtain⟨oL,_,_,hoL,_⟩:=id hn;refine h _ ⟨I.ok,I.os,I.bare,⟨λb o e n hb hx=>?_,λb o e n hb hx=>?_,I.base.free,λb o e hx=>?_,I.base.tups,I.base.frzs,I.base.tbls⟩,⟨_,hn',λj y v' e1 e2 e3=>?_⟩,λy c e=>?_,I.free,I.freeC,λp hp=>?_,tracked ⟨oL,hoL,I.free⟩ hs,by simpa using I.len⟩ ⟨_,hs,.inl rfl⟩
  .exact(hs.2 b (AZ (Ax (Az e) I.ok.above))).trans (I.base.keep b o e n hb hx)
  .obtain⟨sl,e1⟩:=I.base.slot b o e n hb hx
   exact⟨sl,(hs.2 b (AZ (Ax (Az e) I.ok.above))).trans e1⟩
  .obtain⟨o',e1⟩:=I.base.there b o e hx
   exact⟨o',(hs.2 b (AZ (Ax (Az e) I.ok.above))).trans e1⟩
  .by_cases hj:j=i
   .subst hj
    rw[hi] at e1;cases e1;rw[Ea hiσ] at e2;cases e2;exact⟨u,r,.inl ⟨hk,by simp⟩⟩
   .rw[CQ (Ed hj)] at e2
    obtain⟨u',r',q⟩:=hl j y v' e1 e2 e3;refine⟨u',r',?_⟩;rcases q with⟨k,e⟩|⟨k,c,e,z⟩
    .refine .inl ⟨k,?_⟩
     have:y≠x:=λe=>hj (bK hN e1 (e▸hi));simp[this,e]
    .exact .inr ⟨k,c,e,z.sameBut hs (cne y c e)⟩
  .obtain⟨w',z⟩:=I.cell y c e
   exact⟨w',z.sameBut hs (cne y c e)⟩
  .obtain⟨e,n,ne,nf,d⟩:=I.pin p hp
   exact⟨(hs.2 p.1 ne).trans e,n,ne,nf,d⟩
 .have hfn:X.fn x=true:=by
   rcases hf with z|z
   .exact z
   .rw[z] at hk;cases hk
  obtain⟨c,hc⟩:=I.ok.has x (.inl hk);obtain⟨w',z⟩:=I.cell x c hc;refine wpAny_storeName_cell I.ok.kind hk hc z (λh' hc' hs=>?_);obtain⟨oc,hoc,hocd⟩:=id z;refine h { s with heap:=h' } ⟨I.ok,I.os,I.bare,⟨λb o e n hb hx=>?_,λb o e n hb hx=>?_,I.base.free,λb o e hx=>?_,I.base.tups,I.base.frzs,I.base.tbls⟩,⟨m,hn.sameBut hs (Ed (cne x c hc)),λj y v' e1 e2 e3=>?_⟩,λy c' e=>?_,I.free,I.freeC,λp hp=>?_,tracked ⟨oc,hoc,I.freeC x c hc⟩ hs,by simpa using I.len⟩ ⟨c,hs,.inr hc⟩
  .exact(hs.2 b (AZ (Ax (Az e) (I.ok.cab x c hfn hc)))).trans (I.base.keep b o e n hb hx)
  .obtain⟨sl,e1⟩:=I.base.slot b o e n hb hx
   exact⟨sl,(hs.2 b (AZ (Ax (Az e) (I.ok.cab x c hfn hc)))).trans e1⟩
  .obtain⟨o',e1⟩:=I.base.there b o e hx
   exact⟨o',(hs.2 b (AZ (Ax (Az e) (I.ok.cab x c hfn hc)))).trans e1⟩
  .by_cases hj:j=i
   .subst hj
    rw[hi] at e1;cases e1;rw[Ea hiσ] at e2;cases e2;exact⟨u,r,.inr ⟨.inl hk,c,hc,hc'⟩⟩
   .rw[CQ (Ed hj)] at e2
    obtain⟨u',r',q⟩:=hl j y v' e1 e2 e3;refine⟨u',r',?_⟩;rcases q with q|⟨k,c',e,z'⟩
    .exact .inl q
    .refine .inr ⟨k,c',e,z'.sameBut hs ?_⟩
     rintro rfl;exact hj (bK hN e1 (I.ok.inj _ _ _ e hc▸hi))
  .by_cases hcc:c'=c
   .subst hcc;exact⟨_,hc'⟩
   .obtain⟨w2,z2⟩:=I.cell y c' e
    exact⟨w2,z2.sameBut hs hcc⟩
  .obtain⟨e,n,ne,nf,d⟩:=I.pin p hp
   refine⟨(hs.2 p.1 ?_).trans e,n,ne,nf,d⟩;intro q;rw[q,hoc] at e;have q':oc=p.2:=Bh e;exact d w' (by rw[<- q'];exact hocd)
theorem uB {A:AK}{i:Ai}{x:As}{v:V}{u:Ac}(I:Inv X pins σ H s)(hN:X.N.Nodup)(hi:X.N[i]? = Ab x)(hx:Loc X.env.scope x)(r:qK v u)
  (h:∀ s',Inv X pins (σ.set i (Ab v)) H s'->Q () s') (hf:X.fn x=true\/X.env.scope.names.lookup x=Ab .local:=by first|exact .inl rfl|exact .inr rfl|assumption):Ao M A (storeName X.env x u) Q E s:=
 nK I hN hi hx r (λs' I' _=>h s' I') hf
theorem Inv.call' {s':Ag}(I:Inv X pins σ H s)(ho:s'.os=s.os)(u:Un (frs X.stack) ch H H' s.heap s'.heap)(hok:HOk X.prog X.w H' s'.heap)(hg:Kj s'.gens)
  (hch:∀ b∈ch,(b∈X.ex\/X.s₀.heap.objs.size<=b)/\b≠X.env.locals/\(∀ x c,X.env.cells.lookup x=Ab c->c≠b)/\∀ p∈X.pn++pins,p.1≠b):Inv X pins σ H' s':=by
 obtain⟨h',g',d',t',o'⟩:=s';have e:o'=s.os:=ho;subst e;exact I.call (g':=g') (t':=t') (d':=d') u hok hg hch
end
abbrev XK:=Ac->Al Af->Hp->Prop
abbrev St:=Aa (Al V)
abbrev VK:=V->Hp->Prop
abbrev TE:=St->Hp->VK->Prop
abbrev TT:=St->Hp->(Ap->Hp->Prop)->Prop
abbrev TA:=St->Hp->(Aa V->Hp->Prop)->Prop
structure Ends where
 nx:St->Hp->Prop
 rt:VK
 bk:St->Hp->Prop:=λ_ _=>CP
 ct:St->Hp->Prop:=λ_ _=>CP
abbrev TS:=Ends->St->Hp->Prop
inductive EP (X:Cx)(pins:Aa (Af × AX))(σ : St)(Q:VK)(u:Ac)(s':Ag):Prop
 |mk (v:V) (H':Hp) (I:Inv X pins σ H' s') (r:qK v u) (q:Q v H'):EP X pins σ Q u s'
inductive TP (X:Cx)(pins:Aa (Af × AX))(σ : St)(Q:Ap->Hp->Prop)(b:Ap)(s':Ag):Prop
 |mk (H':Hp) (I:Inv X pins σ H' s') (q:Q b H'):TP X pins σ Q b s'
inductive AP (X:Cx)(pins:Aa (Af × AX))(σ : St)(Q:Aa V->Hp->Prop)(us:Aa Ac)(s':Ag):Prop
 |mk (vs:Aa V) (H':Hp) (I:Inv X pins σ H' s') (r:qJ vs us) (q:Q vs H'):AP X pins σ Q us s'
def SP (X:Cx)(pins:Aa (Af × AX))(D:Ends)(f:Flow)(s':Ag):Prop:=
 match f with
 |.next=>∃ σ' H',Inv X pins σ' H' s'/\D.nx σ' H'
 |.brk=>∃ σ' H',Inv X pins σ' H' s'/\D.bk σ' H'
 |.cont=>∃ σ' H',Inv X pins σ' H' s'/\D.ct σ' H'
 |.ret u=>∃ v σ' H',Inv X pins σ' H' s'/\qK v u/\D.rt v H'
def PE (X:Cx)(e:AM)(t:TE):Prop:=
 ∀ (pins:Aa (Af × AX)) (s:Ag) (σ : St) (H:Hp) (Q:VK),Inv X pins σ H s->t σ H Q->Ao (Ar X.prog X.w) X.A (eval e X.env) (EP X pins σ Q) X.xe s
def PT (X:Cx)(e:AM)(t:TT):Prop:=
 ∀ (pins:Aa (Af × AX)) (s:Ag) (σ : St) (H:Hp) (Q:Ap->Hp->Prop),Inv X pins σ H s->t σ H Q->Ao (Ar X.prog X.w) X.A (isTrue e X.env (eval e X.env)) (TP X pins σ Q) X.xe s
def PW (X:Cx)(e:AM)(t:TT):Prop:=
 ∀ (whole:Il Ac) (pins:Aa (Af × AX)) (s:Ag) (σ : St) (H:Hp) (Q:Ap->Hp->Prop),Inv X pins σ H s->t σ H Q->Ao (Ar X.prog X.w) X.A (isTrue e X.env whole) (TP X pins σ Q) X.xe s
def PA (X:Cx)(es:Aa AM)(t:TA):Prop:=
 ∀ (pos:CN) (pins:Aa (Af × AX)) (s:Ag) (σ : St) (H:Hp) (Q:Aa V->Hp->Prop),Inv X pins σ H s->t σ H Q->Ao (Ar X.prog X.w) X.A (spliced (Di pos (Ay es X.env))) (AP X pins σ Q) X.xe s
def PS (X:Cx)(st:Dd)(t:TS):Prop:=
 ∀ (pins:Aa (Af × AX)) (s:Ag) (σ : St) (H:Hp) (D:Ends),Inv X pins σ H s->t D σ H->Ao (Ar X.prog X.w) X.A (exec st X.env) (SP X pins D) X.xe s
def PSs (X:Cx)(st:Aa Dd)(t:TS):Prop:=
 ∀ (pins:Aa (Af × AX)) (s:Ag) (σ : St) (H:Hp) (D:Ends),Inv X pins σ H s->t D σ H->Ao (Ar X.prog X.w) X.A (execs st X.env) (SP X pins D) X.xe s
theorem thn {α:Type}{t:Il α}{Q Q':α->Ag->Prop}{A:AK}{s:Ag}(h:Ao M A t Q E s)(hQ:∀ a s,Q a s->Q' a s):Ao M A t Q' E s:=Ff h hQ λ_ _ x=>x
end _L
namespace _L
open PySem PySem.Spec PyProof.Rows
variable {pins:Aa (Af × AX)}{u:Ac}{E Q:Ac->Ag->Prop}
section
variable {X:Cx}
theorem bin {a b:AM}{ta tb:TE}(ha:PE X a ta)(hb:PE X b tb){pins:Aa (Af × AX)}{s:Ag}{σ : St}{H:Hp}{R:V->V->Hp->Prop}(I:Inv X pins σ H s)(h:ta σ H λx H1=>tb σ H1 λy H2=>R x y H2)
  {α:Type} {Q:α->Ag->Prop} {f:Ac->Ac->Il α}
  (hf:∀ v u s2 x y H2,Inv X pins σ H2 s2->qK x v->qK y u->R x y H2->Ao (Ar X.prog X.w) X.A (f v u) Q X.xe s2) :
  Ao (Ar X.prog X.w) X.A (eval a X.env) (λv s₁=>Ao (Ar X.prog X.w) X.A (eval b X.env) (λu s₂=>Ao (Ar X.prog X.w) X.A (f v u) Q X.xe s₂) X.xe s₁) X.xe s:=by
 refine thn (ha pins s σ H _ I h) λv s1 ⟨x,H1,I1,r1,q1⟩=>?_;refine thn (hb pins s1 σ H1 _ I1 q1) λu s2 ⟨y,H2,I2,r2,q2⟩=>?_;exact hf v u s2 x y H2 I2 r1 r2 q2
def N4 (i:Ai):TE:=λσ H Q=>∃ v,σ[i]? = Ab (Ab v)/\Q v H
def tC (v:V):TE:=λ_ H Q=>Q v H
theorem dX {i:Ai}{x:As}{pos:CN}(hN:X.N[i]? = Ab x)(hv:Vis X.env.scope x)(hd:(x == ("__debug__" : As))=false:=by decide)(hcd:(x == ("__classdict__" : As))=false:=by decide):PE X (.Name x pos) (N4 i):=by
 intro pins s σ H Q I h;obtain⟨v,e,h⟩:=h;obtain⟨m,hn,hl⟩:=I.loc;obtain⟨u,r,l⟩:=hl i x v hN e hv;have fin:EP X pins σ Q u s:=⟨v,H,I,r,h⟩;rcases l with⟨hk,hm⟩|⟨hk,c,hc,hcell⟩
 .exact Wj (wpAny_loadName_local I.ok.kind hk hn hm fin) hd
 .rcases hk with hk|hk
  .exact Wj (wpAny_loadName_cell I.ok.kind hk hc hcell fin) hd
  .exact Wj (wpAny_loadName_free I.ok.kind hk hc hcell fin hcd) hd
theorem MR:PE X (.Constant (.int i) j pos) (tC (.int i)):=λ_ _ _ H _ I h=>wpAny_Constant_int ⟨.int i,H,I.tok _,⟨_,rfl⟩,h⟩
theorem DH:PE X (.Constant (.bool b) j pos) (tC (.bl b)):=λ_ _ _ H _ I h=>Constant_bool ⟨.bl b,H,I,rfl,h⟩
theorem MS:PE X (.Constant .none j pos) (tC .non):=λ_ _ _ H _ I h=>Constant_none ⟨.non,H,I,rfl,h⟩
theorem MU:PE X (.Constant (.str x) j pos) (tC (.str x)):=λ_ _ _ H _ I h=>Calls.Constant_str ⟨.str x,H,I.tok _,⟨_,rfl⟩,h⟩
def Gl (X:Cx)(x:As):Prop:=X.env.kindOf x=Ab .globalImplicit
theorem v3 {s:Ag}{σ:St}{H:Hp}{x:As}{pos:CN}(I:Inv X pins σ H s)(hg:Gl X x)(hm:X.mg x=Ab u)(h:Q u s)
  (hd:(x == ("__debug__" : As))=false:=by decide):Ao (Ar X.prog X.w) X.A (eval (.Name x pos) X.env) Q E s:=
 Nd I.ok.kind hg (Calls.loadGlobal_global (by rw[I.ok.glob];exact I.mod.glob.keeps I.bk) hm h) hd
theorem w4 {s:Ag}{σ:St}{H:Hp}{x:As}{pos:CN}(I:Inv X pins σ H s)(hg:Gl X x)(hm:X.mg x=none)(hv:CU x=Ab u)(h:Q u s)
  (hn:x ≠ "__name__":=by decide) (hd:(x == ("__debug__" : As))=false:=by decide):Ao (Ar X.prog X.w) X.A (eval (.Name x pos) X.env) Q E s:=by
 obtain⟨mb,h1,h2⟩:=I.mod.blt;exact Nd I.ok.kind hg (Calls.loadGlobal_builtin (by rw[I.ok.glob];exact I.mod.glob.keeps I.bk) hm (by rw[I.ok.blt];exact h1.keeps I.bk) ((h2 x hn).trans hv) h) hd
theorem K7 {x:As}{v:V}{pos:CN}(hg:Gl X x)(hm:X.mg x=Ab u)(r:qK v u)(hd:(x == ("__debug__" : As))=false:=by decide):PE X (.Name x pos) (tC v):=
 λ_ _ _ H _ I h=>v3 I hg hm ⟨v,H,I,r,h⟩ hd
theorem K6 {x:As}{v:V}{pos:CN}(hg:Gl X x)(hm:X.mg x=none)(hv:CU x=Ab u)(r:qK v u)(hn:x ≠ "__name__":=by decide)(hd:(x == ("__debug__" : As))=false:=by decide):PE X (.Name x pos) (tC v):=
 λ_ _ _ H _ I h=>w4 I hg hm hv ⟨v,H,I,r,h⟩ hn hd
variable {a b:AM}{ta tb:TE}{pos:CN}
variable {tA tB':TT}{qO:Aa AM}
theorem T3 (ha:PT X a tA):PW X (.BoolOp .Or [a] pos) tA:=by
 intro wh pins s σ H Q I h;refine isTrue_or (thn (ha pins s σ H Q I h) λc s1 e=>?_);cases c with
 |false=>exact isTrue_or_nil e
 |true=>exact e
theorem MT {t:TE}(h:PE X a t):PE X (.BoolOp op [a] pos) t:=λpins s σ H Q I hw=>BoolOp_one (h pins s σ H Q I hw)
end
end _L
namespace _L
open PySem PySem.Spec PyProof.Rows
variable {P:A5}{w:AL}{tg:AM}{es:Aa AM}{K:Aj}
def SqL (K:Aj)(H:Hp)(a:Af)(xs:Aa V):Prop:=
 Rd H a (.lst xs) \/
  ∃ (o:AX) (its:Aw Ac) (n:Ai),K.lookup a=Ab o/\o.cls=.type "list" /\ o.dict=none/\o.data=.seq its n/\its.size<=sizeLine/\qJ xs its.toList
def SqT (K:Aj)(H:Hp)(a:Af)(xs:Aa V):Prop:=
 Rd H a (.tup xs) \/
  ∃ (o:AX) (its:Aw Ac) (n:Ai),K.lookup a=Ab o/\o.cls=.type "tuple" /\ o.data=.seq its n/\its.size<=sizeLine/\qJ xs its.toList
noncomputable def R4:Ac->Al V
 |.none=>Ab .non
 |.bool b=>Ab (.bl b)
 |.int i _=>Ab (.int i)
 |.str x _=>Ab (.str x)
 |.bytes b _=>Ab (.byt b)
 |.float b _=>Ab (.flt b)
 |.ref a=>Ab (.ref a)
 |.type n=>Ab (.ty n)
 |_=>none
theorem qK.abs {x:V}{u:Ac}(r:qK x u):R4 u=Ab x:=by
 cases x with
 |non=>cases r;rfl
 |bl _=>cases r;rfl
 |int _=>obtain⟨t,rfl⟩:=r;rfl
 |str _=>obtain⟨t,rfl⟩:=r;rfl
 |byt _=>obtain⟨t,rfl⟩:=r;rfl
 |flt _=>obtain⟨t,rfl⟩:=r;rfl
 |ref _=>cases r;rfl
 |ty _=>cases r;rfl
theorem qK.inj {x y:V}{u:Ac}(r:qK x u)(q:qK y u):x=y:=Bh (r.abs.symm.trans q.abs)
theorem qJ.inj {xs ys:Aa V}{us:Aa Ac}(h:qJ xs us)(k:qJ ys us):xs=ys:=by
 induction h generalizing ys with
 |nil=>cases k;rfl
 |cons r t ih =>
  cases k with
  |cons r' t'=>rw[r.inj r',ih t']
section
variable {X:Cx}{pins:Aa (Af × AX)}{σ : St}{H:Hp}{s:Ag}{a:Af}{xs ys:Aa V}
theorem SqL.of (h:H a=Ab (.lst xs)):SqL K H a xs:=.inl (.inl h)
theorem SqT.of (h:H a=Ab (.tup xs)):SqT K H a xs:=.inl (.inl h)
theorem Inv.list (I:Inv X pins σ H s)(h:SqL X.K H a xs):∃ its:Aa Ac,qJ xs its/\PlainL s.heap a its.toArray/\xs.length<=sizeLine:=by
 rcases h with h|⟨o,its,n,hk,hc,hd,hs,hz,r⟩
 .obtain⟨z,its,n,r,e⟩:=h.ok I.hok
  exact⟨its,r,⟨_,n,e,rfl,rfl,rfl⟩,z⟩
 .refine⟨its.toList,r,⟨o,n,I.kIn a o hk,hc,hd,by simpa using hs⟩,?_⟩
  have e:=r.length;simp only[A6] at e;omega
theorem Inv.tuple (I:Inv X pins σ H s)(h:SqT X.K H a xs):∃ its:Aa Ac,qJ xs its/\Ps s.heap a its.toArray/\xs.length<=sizeLine:=by
 rcases h with h|⟨o,its,n,hk,hc,hs,hz,r⟩
 .obtain⟨z,its,r,p⟩:=h.ok I.hok
  exact⟨its,r,p,z⟩
 .refine⟨its.toList,r,⟨o,I.kIn a o hk,hc,n,by simpa using hs⟩,?_⟩
  have e:=r.length;simp only[A6] at e;omega
theorem Inv.list_inj (I:Inv X pins σ H s)(h:SqL X.K H a xs)(h':SqL X.K H a ys):xs=ys:=by
 obtain⟨its,r,⟨o,n,e,_,_,d⟩,_⟩:=I.list h;obtain⟨its',r',⟨o',n',e',_,_,d'⟩,_⟩:=I.list h';rw[e] at e';cases e';rw[d] at d';injection d' with d1 _
 have:its=its':=by simpa using congrArg Ya d1
 subst this;exact r.inj r'
theorem Inv.tuple_inj (I:Inv X pins σ H s)(h:SqT X.K H a xs)(h':SqT X.K H a ys):xs=ys:=by
 obtain⟨its,r,⟨o,e,_,n,d⟩,_⟩:=I.tuple h;obtain⟨its',r',⟨o',e',_,n',d'⟩,_⟩:=I.tuple h';rw[e] at e';cases e';rw[d] at d';injection d' with d1 _
 have:its=its':=by simpa using congrArg Ya d1
 subst this;exact r.inj r'
end
abbrev Cx.wish (X:Cx)(E:Ac->Ag->Prop):Cx:={ X with xe:=E }
abbrev Cx.nox (X:Cx):Cx:=X.wish λ_ _=>CP
theorem Cx.Ok.wish {X:Cx}(ok:X.Ok)(E:Ac->Ag->Prop):(X.wish E).Ok:=
 ⟨ok.mod,ok.kind,ok.glob,ok.blt,ok.above,ok.inj,ok.has,ok.cab,ok.hd,ok.frames,ok.stk,ok.exf,ok.bs,ok.bsz,ok.noex,ok.exfs,ok.funs,ok.frf⟩
theorem Cx.Ok.unwish {X:Cx}{E:Ac->Ag->Prop}(ok:(X.wish E).Ok):X.Ok:=
 ⟨ok.mod,ok.kind,ok.glob,ok.blt,ok.above,ok.inj,ok.has,ok.cab,ok.hd,ok.frames,ok.stk,ok.exf,ok.bs,ok.bsz,ok.noex,ok.exfs,ok.funs,ok.frf⟩
section
variable {X:Cx}{pins:Aa (Af × AX)}{σ : St}{H:Hp}{s:Ag}{E:Ac->Ag->Prop}
theorem Inv.wish (I:Inv X pins σ H s)(E:Ac->Ag->Prop):Inv (X.wish E) pins σ H s:=⟨I.ok.wish E,I.os,I.bare,I.base,I.loc,I.cell,I.free,I.freeC,I.pin,I.hok,I.len⟩
theorem Inv.unwish (I:Inv (X.wish E) pins σ H s):Inv X pins σ H s:=⟨I.ok.unwish,I.os,I.bare,I.base,I.loc,I.cell,I.free,I.freeC,I.pin,I.hok,I.len⟩
theorem SP.unwish {D:Ends}{f:Flow}{s':Ag}(h:SP (X.wish E) pins D f s'):SP X pins D f s':=by
 cases f with
 |next=>obtain⟨σ',H',I,q⟩:=h;exact⟨σ',H',I.unwish,q⟩
 |brk=>obtain⟨σ',H',I,q⟩:=h;exact⟨σ',H',I.unwish,q⟩
 |cont=>obtain⟨σ',H',I,q⟩:=h;exact⟨σ',H',I.unwish,q⟩
 |ret u=>obtain⟨v,σ',H',I,r,q⟩:=h;exact⟨v,σ',H',I.unwish,r,q⟩
theorem PE.nox {e:AM}{t:TE}(h:PE X.nox e t):PE X e t:=λpins s σ H Q I hw =>
 Ff (h pins s σ H Q (I.wish _) hw) (λ_ _ ⟨v,H',I',r,q⟩=>⟨v,H',I'.unwish,r,q⟩) λ_ _ z=>An z
theorem PT.nox {e:AM}{t:TT}(h:PT X.nox e t):PT X e t:=λpins s σ H Q I hw =>
 Ff (h pins s σ H Q (I.wish _) hw) (λ_ _ ⟨H',I',q⟩=>⟨H',I'.unwish,q⟩) λ_ _ z=>An z
theorem PSs.nox {st:Aa Dd}{t:TS}(h:PSs X.nox st t):PSs X st t:=λpins s σ H D I hw =>
 Ff (h pins s σ H D (I.wish _) hw) (λ_ _ q=>q.unwish) λ_ _ z=>An z
end
section
variable {X:Cx}{st:Dd}{qO:Aa Dd}{t u:TS}{e:AM}{te:TE}{pos:CN}
def SC:TS:=λD σ H=>D.nx σ H
def EB (t u:TS):TS:=λD σ H=>t { D with nx:=u D } σ H
theorem KD:PSs X [] SC:=λ_ _ σ H _ I h=>Ll ⟨σ,H,I,h⟩
theorem WY (h1:PS X st t)(h2:PSs X qO u):PSs X (st::qO) (EB t u):=by
 intro pins s σ H D I h;refine Uw (thn (h1 pins s σ H { D with nx:=u D } I h) λf s1 q=>?_)
 cases f with
 |next =>
  obtain⟨σ',H',I',q⟩:=q;exact h2 pins s1 σ' H' D I' q
 |ret v=>exact q
 |brk=>exact q
 |cont=>exact q
theorem KE (h1:PS X st t):PSs X [st] t:=by
 intro pins s σ H D I h;refine Uw (thn (h1 pins s σ H D I h) λf s1 q=>?_);cases f with
 |next=>exact Ll q
 |ret v=>exact q
 |brk=>exact q
 |cont=>exact q
theorem Inv.quiet {pins:Aa (Af × AX)}{σ:St}{H:Hp}{s:Ag}(I:Inv X pins σ H s):interactive X.env=false:=by simp[interactive,I.ok.kind]
end
abbrev TG:=V->St->Hp->(St->Hp->Prop)->Prop
abbrev TGs:=Aa V->St->Hp->(St->Hp->Prop)->Prop
def PG (X:Cx)(target:AM)(t:TG):Prop:=
 ∀ (pins:Aa (Af × AX)) (s:Ag) (σ : St) (H:Hp) (v:V) (u:Ac) (Q:St->Hp->Prop),Inv X pins σ H s->qK v u->t v σ H Q ->
  Ao (Ar X.prog X.w) X.A (assign target X.env u) (λ_ s'=>∃ σ' H',Inv X pins σ' H' s'/\Q σ' H') X.xe s
def PGs (X:Cx)(ts:Aa AM)(t:TGs):Prop:=
 ∀ (pins:Aa (Af × AX)) (s:Ag) (σ : St) (H:Hp) (vs:Aa V) (us:Aa Ac) (Q:St->Hp->Prop),Inv X pins σ H s->qJ vs us->t vs σ H Q ->
  Ao (Ar X.prog X.w) X.A (Rl ((Ew ts X.env).map (·.2)) us) (λ_ s'=>∃ σ' H',Inv X pins σ' H' s'/\Q σ' H') X.xe s
abbrev PC:=V->V->V->Hp->(Hp->Prop)->Prop
def lC (X:Cx)(t:PC):Prop:=
 ∀ (pins:Aa (Af × AX)) (s:Ag) (σ : St) (H:Hp) (o i v:V) (ov iv u:Ac) (Q:Hp->Prop),Inv X pins σ H s->qK o ov->qK i iv->qK v u->t o i v H Q ->
  Ao (Ar X.prog X.w) X.A (Xi ov iv u) (λ_ s'=>∃ H',Inv X pins σ H' s'/\Q H') X.xe s
section
variable {X:Cx}{pos:CN}
def LD (i:Ai):TG:=λv σ H Q=>Q (σ.set i (Ab v)) H
theorem K8 {i:Ai}{x:As}(hN:X.N.Nodup)(hi:X.N[i]? = Ab x)(hx:Loc X.env.scope x)(hf:X.fn x=true\/X.env.scope.names.lookup x=Ab .local:=by first|exact .inl rfl|exact .inr rfl|assumption):PG X (.Name x pos) (LD i):=by
 intro pins s σ H v u Q I r h;exact TW (uB I hN hi hx r (λs' I'=>⟨_,H,I',h⟩) hf)
def RI:TGs:=λvs σ H Q=>vs=[]/\Q σ H
def LC (t:TG)(u:TGs):TGs:=λvs σ H Q=>∃ v r,vs=v::r/\t v σ H λσ' H'=>u r σ' H' Q
theorem K9:PGs X [] RI:=by
 intro pins s σ H vs us Q I r h;obtain⟨e,h⟩:=h;subst e;cases r;exact Ua ⟨σ,H,I,h⟩
theorem WV {e:AM}{t:TG}{u:TGs}(h1:PG X e t)(h2:PGs X es u)
  (hs:(Ew (e::es) X.env).map (·.2)=assign e X.env::(Ew es X.env).map (·.2):=by rfl):PGs X (e::es) (LC t u):=by
 intro pins s σ H vs us Q I r h;obtain⟨v,vr,e1,h⟩:=h;subst e1;cases r with
 |cons r rr =>
  rw[hs];refine My (thn (h1 pins s σ H _ _ _ I r h) λ_ s1 ⟨σ1,H1,I1,q1⟩=>?_);exact h2 pins s1 σ1 H1 _ _ Q I1 rr q1
def RJ (K:Aj)(n:Ai)(t:TGs):TG:=λv σ H Q=>∃ a xs,v=.ref a/\SqT K H a xs/\xs.length=n/\t xs σ H Q
theorem MW {k:Ai}{t:TGs}{n:Ai}(hc:X.calm=true)(h:PGs X es t)
  (hn:(Ew es X.env).length=n:=by rfl) (hst:(Ew es X.env).findIdx? (·.1)=none:=by rfl):PG X (.Tuple es k pos) (RJ X.K n t):=by
 intro pins s σ H v u Q I r hw;obtain⟨a,xs,e1,hq,hl,hw⟩:=hw;subst e1;cases r;obtain⟨its,rv,ht,hz⟩:=I.tuple hq;refine assign_Tuple_tuple (I.ok.hd hc) ht (by simp[hn,<- hl,rv.length]) hst λh' hx=>?_
 have I1:Inv X pins σ H { s with heap:=h' }:=I.kept (t':=s.toks) λb o e=>hx b o (AZ (Az e)) e
 exact h pins _ σ H xs _ Q I1 (by simpa using rv) hw
def EA (i j:Ai)(ta:TA):TS:=λD σ H=>ta σ H λvs H1=>∃ v w,vs=[v,w]/\D.nx ((σ.set i (Ab v)).set j (Ab w)) H1
theorem MY {i j:Ai}{x y:As}{a b:AM}{ta:TA}{px py pt:CN} {kt k2 pt2} (hc:X.calm=true) (hN:X.N.Nodup) (hi:X.N[i]? = Ab x) (hj:X.N[j]? = Ab y) (hij:i≠j)
  (hx:X.env.scope.names.lookup x=Ab .local) (hy:X.env.scope.names.lookup y=Ab .local) (ha:PA X [a,b] ta)
  (hw:IL [.Tuple [.Name x px,.Name y py] kt pt] (.Tuple [a,b] k2 pt2) X.env=pure (Ab [x,y]))
  (hs:IM [.Tuple [.Name x px,.Name y py] kt pt] (.Tuple [a,b] k2 pt2) pos.line X.env=pure false:=by rfl) :
  PS X (.Assign [.Tuple [.Name x px,.Name y py] kt pt] (.Tuple [a,b] k2 pt2) pos) (EA i j ta):=by
 intro pins s σ H D I h;rw[exec_Assign_arm];refine Ad (Hw ?_);rw[hs];refine Ad (Ak ?_);rw[AC (by decide)]
 refine Ad (Tuple_ (thn (ha _ pins s σ H _ I h) λus s1 ⟨vs,H1,I1,r1,q1⟩=>?_));obtain⟨v,w,e1,q1⟩:=q1;subst e1;obtain⟨u1,u2,rfl,rv,rw'⟩:∃ u1 u2,us=[u1,u2]/\qK v u1/\qK w u2:=by
  cases r1 with
  |cons p q =>
   cases q with
   |cons p' q' =>
    cases q';exact⟨_,_,rfl,p,p'⟩
 refine Bu ?_ (by show 2<=sizeLine;decide)
 have I2:Inv X pins σ H1 { s1 with heap:=s1.heap.push { cls:=.type "tuple",data:=.seq [u1,u2].toArray } }:=I1.kept (t':=s1.toks) λb o e=>Ah _ e
 rw[hw];refine Ad (Ak ?_);show Ao (Ar X.prog X.w) X.A (do rule "assign.swapped-stores";let items <- unpackItems (.ref s1.heap.objs.size) 2 none;Rl [λv=>Sn X.env y v,λv=>Sn X.env x v] items.reverse;pure Flow.next) _ _ _
 refine Ad (Ex (Ad (unpackItems_tuple (items:=#[u1,u2]) (I.ok.hd hc) (Pv s1.heap _) λh' hx'=>?_)));have I3:=I2.kept (h':=h') (t':=s1.toks) λb o e=>hx' b o (AZ (Az e)) e;show Ao _ _ (Rl [λv=>Sn X.env y v,λv=>Sn X.env x v] [u2,u1] >>= λ_=>pure Flow.next) _ _ _;refine Ad (My (wpAny_bindName (uB I3 hN hj (.inl hy) rw' (λs2 I4=>?_) (.inr hy))));refine My (wpAny_bindName (uB I4 hN hi (.inl hx) rv (λs3 I5=>Ua (Ak ?_)) (.inr hx)));rw[List.set_comm _ _ (Ed hij)] at I5;exact⟨_,H1,I5,q1⟩
end
structure It where
 go:Ai->Hp->Prop
 yld:Ai->Hp->V->Hp->Prop
 stop:Ai->Hp->Prop
def x5 (X:Cx)(pins:Aa (Af × AX))(H:Hp)(b:Af):Prop:=
 H b=none/\b≠X.env.locals/\b ∉ X.fs/\(b∈X.ex\/X.s₀.heap.objs.size<=b)/\(∀ x c,X.env.cells.lookup x=Ab c->c≠b)/\∀ p∈X.pn++pins,p.1≠b
theorem Inv.fpOk {X:Cx}{pins:Aa (Af × AX)}{σ:St}{H H':Hp}{s:Ag}{b:Af}(I:Inv X pins σ H s)(hb:s.heap.objs.size<=b)(hn:H' b=none):x5 X pins H' b:=by
 refine⟨hn,El (Ax I.lt hb),I.nofs hb,.inr (Bp I.sz hb),λx c e z=>?_,λp hp z=>?_⟩
 .obtain⟨v,q⟩:=I.cell x c e
  exact absurd (Ax q.lt (by rw[z];exact hb)) (Dh _)
 .exact absurd (Ax (Az (I.pin p hp).1) (by rw[z];exact hb)) (Dh _)
structure Turn (P:A5)(w:AL)(K:Aj)(tg:AM)(J:It)(fp:Aa Af)(it:Af)(tn:Ai->AB->Prop):Prop where
 mem:it∈fp
 obj:∀ i h,tn i h->∀ b∈fp,∃ o,h.get? b=Ab o/\∀ v,o.data≠.cell v
 keep:∀ i h h',tn i h->(∀ b∈fp,∀ o,h.get? b=Ab o->h'.get? b=Ab o)->tn i h'
 item:∀ (X:Cx),X.prog=P->X.w=w->X.K=K->X.calm=true->∀ (i:Ai) (pins:Aa (Af × AX)) (s:Ag) (σ : St) (H:Hp) (E:Ac->Ag->Prop),Inv X pins σ H s->(∀ b∈fp,x5 X pins H b)->tn i s.heap->J.go i H ->
  Ao (Ar P w) X.A (Jt (.ref it)) (λr s1=>∃ u,r=Ab u /\
   Ao (Ar P w) X.A (Hx tg (.ref it) u) (λ_ s2=>∃ x H',Inv X pins σ H' s2/\qK x u/\J.yld i H x H'/\tn (i+1) s2.heap/\∀ b∈fp,H' b=none) E s1) E s
 done:∀ (X:Cx),X.prog=P->X.w=w->X.K=K->X.calm=true->∀ (i:Ai) (pins:Aa (Af × AX)) (s:Ag) (σ : St) (H:Hp) (E:Ac->Ag->Prop),Inv X pins σ H s->(∀ b∈fp,x5 X pins H b)->tn i s.heap->J.stop i H ->
  Ao (Ar P w) X.A (Jt (.ref it)) (λr s1=>r=none/\Inv X pins σ H s1) E s
 self:∀ (A:AK) (i:Ai) (s:Ag) (Q:Ac->Ag->Prop) (E:Ac->Ag->Prop),tn i s.heap->Q (.ref it) s->Ao (Ar P w) A (Kk (.ref it)) Q E s
abbrev TI:=St->Hp->(It->Hp->Prop)->Prop
inductive PIE (X:Cx)(pins:Aa (Af × AX))(σ : St)(tg:AM)(R:It->Hp->Prop)(itv:Ac)(s2:Ag):Prop
 |mk (it:Af) (fp:Aa Af) (tn:Ai->AB->Prop) (J:It) (H':Hp) (e:itv=.ref it) (I:Inv X pins σ H' s2) (t:Turn X.prog X.w X.K tg J fp it tn) (z:tn 0 s2.heap) (f:∀ b∈fp,x5 X pins H' b) (q:R J H'):PIE X pins σ tg R itv s2
def PI (X:Cx)(tg iter:AM)(wi:TI):Prop:=
 ∀ (pins:Aa (Af × AX)) (s:Ag) (σ : St) (H:Hp) (R:It->Hp->Prop),Inv X pins σ H s->wi σ H R ->
  Ao (Ar X.prog X.w) X.A (eval iter X.env) (λv s1=>Ao (Ar X.prog X.w) X.A (Kk v) (PIE X pins σ tg R) X.xe s1) X.xe s
theorem aD {M:Im}{A:AK}{E:Ac->Ag->Prop}{s:Ag}{it:Af}{u:Ac}{o:AX}{n:CF}{vs:Aw Ac}{Q:Mx->Ag->Prop}(ho:s.heap.get? it=Ab o)(hc:o.cls=.type n)(hd:o.data=.fields vs)
    (hn:["enumerate","zip","dict_itemiterator","dict_reverseitemiterator","odict_iterator","itertools.zip_longest","itertools.pairwise"].contains n=false) (hQ:Q () s):Ao M A (Hx tg (.ref it) u) Q E s:=by
  unfold Hx;cases tg <;> first
    |exact Ak hQ
    |(cases u <;> first
        |exact Ak hQ
        | (refine Ad (Wk ho ?_)
           rw[hc,hd];show Ao M A (if (["enumerate","zip","dict_itemiterator","dict_reverseitemiterator","odict_iterator","itertools.zip_longest","itertools.pairwise"].contains n&&vs[0]? == Ab (DL _))=true then _ else _) Q E s
           rw[AC (by intro h;rw[hn,Fz] at h;cases h)]
           exact Ak hQ))
noncomputable def Itl (K:Aj)(a:Af):It:=
 ⟨λi H=>∃ xs x,SqL K H a xs/\xs[i]? = Ab x,λi H x H'=>H'=H/\∀ xs,SqL K H a xs->xs[i]? = Ab x,λi H=>∃ xs,SqL K H a xs/\xs.length<=i⟩
noncomputable def Itt (K:Aj)(a:Af):It:=
 ⟨λi H=>∃ xs x,SqT K H a xs/\xs[i]? = Ab x,λi H x H'=>H'=H/\∀ xs,SqT K H a xs->xs[i]? = Ab x,λi H=>∃ xs,SqT K H a xs/\xs.length<=i⟩
noncomputable def Itr (lo:Am)(n:Ai):It:=⟨λi _=>i<n,λi H x H'=>H'=H/\x=.int (lo+i),λi _=>n<=i⟩
theorem nM (a it:Af):Turn P w K tg (Itl K a) [it] it (λi h=>h.IsListIter it a i) where
 mem:=by simp
 obj:=λi h st b hb=>by
  have e:b=it:=by simpa using hb
  subst e;obtain⟨o,e,c,d⟩:=st;exact⟨o,e,λv z=>by rw[d] at z;cases z⟩
 keep:=λi h h' st k=>st.at λo e=>k it (by simp) o e
 item:=by
  intro X hP hw hK hc i pins s σ H E I hf st hg;subst hP hw hK;obtain⟨xs,x,hq,hx⟩:=hg;obtain⟨its,rv,p,hz⟩:=I.list hq;obtain⟨u,hu,ru⟩:=rv.get hx;obtain⟨f0,f1,f2,f3,f4,f5⟩:=hf it (by simp)
  refine wpAny_pyNext_list_item st p.isList (x:=u) (by simpa using hu) λh' st' sb=>?_
  have I1:Inv X pins σ H { s with heap:=h' }:=I.turned (t':=s.toks) (λb o hb e=>(sb.2 b hb).trans e) f0 f1 f3 f4 f5
  obtain⟨o,e,c,d⟩:=id st';exact⟨u,rfl,aD (s:={ s with heap:=h' }) e c d (by decide) ⟨x,H,I1,ru,⟨rfl,λys hy=>by rw[I.list_inj hy hq];exact hx⟩,st',λb hb=>(hf b hb).1⟩⟩
 done:=by
  intro X hP hw hK hc i pins s σ H E I hf st hg;subst hP hw hK;obtain⟨xs,hq,hx⟩:=hg;obtain⟨its,rv,p,hz⟩:=I.list hq;obtain⟨f0,f1,f2,f3,f4,f5⟩:=hf it (by simp)
  have hl:=rv.length;exact wpAny_pyNext_list_end (I.ok.hd hc) st p.isList (by simp;omega) λh' eb=>⟨rfl,I.turned (t':=s.toks) (λb o hb e=>eb b o hb e) f0 f1 f3 f4 f5⟩
 self:=λ_ _ _ _ _ st h=>wpAny_pyIter_listiter st h
theorem iD (a it:Af):Turn P w K tg (Itt K a) [it] it (λi h=>h.IsTupleIter it a i) where
 mem:=by simp
 obj:=λi h st b hb=>by
  have e:b=it:=by simpa using hb
  subst e;obtain⟨o,e,c,d⟩:=st;exact⟨o,e,λv z=>by rw[d] at z;cases z⟩
 keep:=λi h h' st k=>st.at λo e=>k it (by simp) o e
 item:=by
  intro X hP hw hK hc i pins s σ H E I hf st hg;subst hP hw hK;obtain⟨xs,x,hq,hx⟩:=hg;obtain⟨its,rv,p,hz⟩:=I.tuple hq;obtain⟨u,hu,ru⟩:=rv.get hx;obtain⟨f0,f1,f2,f3,f4,f5⟩:=hf it (by simp)
  refine wpAny_pyNext_tuple_item st (show s.heap.IsTuple a its.toArray from p) (x:=u) (by simpa using hu) λh' st' sb=>?_
  have I1:Inv X pins σ H { s with heap:=h' }:=I.turned (t':=s.toks) (λb o hb e=>(sb.2 b hb).trans e) f0 f1 f3 f4 f5
  obtain⟨o,e,c,d⟩:=id st';exact⟨u,rfl,aD (s:={ s with heap:=h' }) e c d (by decide) ⟨x,H,I1,ru,⟨rfl,λys hy=>by rw[I.tuple_inj hy hq];exact hx⟩,st',λb hb=>(hf b hb).1⟩⟩
 done:=by
  intro X hP hw hK hc i pins s σ H E I hf st hg;subst hP hw hK;obtain⟨xs,hq,hx⟩:=hg;obtain⟨its,rv,p,hz⟩:=I.tuple hq;obtain⟨f0,f1,f2,f3,f4,f5⟩:=hf it (by simp)
  have hl:=rv.length;exact wpAny_pyNext_tuple_end (I.ok.hd hc) st (show s.heap.IsTuple a its.toArray from p) (by simp;omega) λh' eb=>⟨rfl,I.turned (t':=s.toks) (λb o hb e=>eb b o hb e) f0 f1 f3 f4 f5⟩
 self:=λ_ _ _ _ _ st h=>wpAny_pyIter_tupleiter st h
theorem iC (it:Af)(lo:Am)(n:Ai):Turn P w K tg (Itr lo n) [it] it (λi h=>IsRangeIter h it (lo+(i:Ai)*1) ((n:Am)-(i:Ai)) 1) where
 mem:=by simp
 obj:=λi h st b hb=>by
  have e:b=it:=by simpa using hb
  subst e;exact⟨_,st,λv z=>by
   have z':Data.fields _=Data.cell v:=z;cases z'⟩
 keep:=λi h h' st k=>k it (by simp) _ st
 item:=by
  intro X hP hw hK hc i pins s σ H E I hf st hg;subst hP hw hK;obtain⟨f0,f1,f2,f3,f4,f5⟩:=hf it (by simp)
  have W:=Walks.range (prog:=X.prog) (w:=X.w) (I.ok.hd hc) it lo 1 n;refine W.item i s _ _ hg st λv h' tk hv st' kk=>?_;obtain⟨t,rfl⟩:=hv;have I1:Inv X pins σ H { s with heap:=h',toks:=tk }:=I.turned (λb o hb e=>kk b o (by simpa using hb) e) f0 f1 f3 f4 f5
  refine⟨_,rfl,aD (s:={ s with heap:=h',toks:=tk }) (n:="range_iterator") st' rfl rfl (by decide) ⟨.int (lo+i),H,I1,⟨t,?_⟩,⟨rfl,rfl⟩,st',λb hb=>(hf b hb).1⟩⟩
  rw[Yn]
 done:=by
  intro X hP hw hK hc i pins s σ H E I hf st hg;subst hP hw hK;obtain⟨f0,f1,f2,f3,f4,f5⟩:=hf it (by simp)
  exact wpAny_pyNext_range_end (I.ok.hd hc) st (by have:n<=i:=hg;omega) λh' eb=>⟨rfl,I.turned (t':=s.toks) (λb o hb e=>eb b o hb e) f0 f1 f3 f4 f5⟩
 self:=λ_ _ _ _ _ st h=>wpAny_pyIter_rangeiter st h
end _L
namespace _L
open PySem PySem.Spec PyProof.Rows
variable {pins:Aa (Af × AX)}{fp:Aa Af}{s:Ag}{H:Hp}{σ:St}
section
variable {X:Cx}{tg:AM}
theorem dZ {R:It->Hp->Prop}{E:Ac->Ag->Prop}{lo hi:Am}{t u v:Os}{tk:Ai}(I:Inv X pins σ H s)(h1 : -(2 ^ 62)<=lo)(h2:lo<2 ^ 62)(h3 : -(2 ^ 62)<=hi)(h4:hi<2 ^ 62)
  (q:R (Itr lo (hi-lo).toNat) H):Ao (Ar X.prog X.w) X.A (Kk (.ref s.heap.objs.size)) (PIE X pins σ tg R) E { s with heap:=s.heap.push { cls:=.type "range",data:=.fields #[.int lo t,.int hi u,.int 1 v] },toks:=tk }:=by
 refine wpAny_pyIter_range (Ux ..) (Xj h1 h2 h3 h4) ?_;have I1:Inv X pins σ H { s with heap:=s.heap.push { cls:=.type "range",data:=.fields #[.int lo t,.int hi u,.int 1 v] },toks:=tk }:=I.kept λb o e=>Ah _ e
 refine⟨(s.heap.push { cls:=.type "range",data:=.fields #[.int lo t,.int hi u,.int 1 v] }).objs.size,[(s.heap.push { cls:=.type "range",data:=.fields #[.int lo t,.int hi u,.int 1 v] }).objs.size],_,_,H,rfl,
  I1.kept (t':=tk) λb o e=>Ah _ e,iC _ lo (hi-lo).toNat,?_,λb hb=>?_,q⟩
 .have e1:lo+((0:Ai):Am)*1=lo:=by simp
  have e2:(((hi-lo).toNat:Ai):Am)-((0:Ai):Am)=Gd lo hi 1:=by rw[rangeSize_one];split <;> omega
  show IsRangeIter _ _ (lo+((0:Ai):Am)*1) ((((hi-lo).toNat:Ai):Am)-((0:Ai):Am)) 1;rw[e1,e2];exact A7 _ rfl
 .have e:b=(s.heap.push { cls:=.type "range",data:=.fields #[.int lo t,.int hi u,.int 1 v] }).objs.size:=by simpa using hb
  subst e;exact I1.fpOk (Aq _) (I1.hok.fresh (Aq _))
def E7 (wi:TI)(g:TG)(tb:TS):TS:=λD σ H=>wi σ H λJ H1=>∃ W:Ai->Ai->St->Hp->Prop,(∃ m,W 0 m σ H1)/\∀ i m σ H,W i m σ H ->
 (J.stop i H/\D.nx σ H)\/(J.go i H/\∃ N:St->Hp->Prop,(∀ σ' H',N σ' H'->∃ m',m'<m/\W (i+1) m' σ' H')/\∀ x H',J.yld i H x H'->g x σ H' λσ2 H2=>tb { D with nx:=N,ct:=N,bk:=D.nx } σ2 H2)
noncomputable def yP (fp:Aa Af)(h:AB):Aa (Af × AX):=fp.filterMap λb=>(h.get? b).map λo=>(b,o)
theorem vF {h:AB}{b:Af}{o:AX}(hb:b∈fp)(e:h.get? b=Ab o):(b,o)∈yP fp h:=Fv.mpr ⟨b,hb,by rw[e];rfl⟩
theorem nD {h:AB}{p:Af × AX}(hp:p∈yP fp h):p.1∈fp/\h.get? p.1=Ab p.2:=by
 obtain⟨b,hb,e⟩:=Fv.mp hp;cases q:h.get? b with
 |none=>rw[q] at e;cases e
 |some o =>
  rw[q] at e;have e':(b,o)=p:=Bh e;subst e';exact⟨hb,q⟩
theorem Inv.pinned (I:Inv X pins σ H s)(hf:∀ b∈fp,x5 X pins H b)(ho:∀ b∈fp,∃ o,s.heap.get? b=Ab o/\∀ v,o.data≠.cell v):Inv X (pins++yP fp s.heap) σ H s:=
 I.pins_of λp hp=>(Ba.mp hp).elim (λz=>I.pin p (AI _ z)) λz=>by
  obtain⟨hb,e⟩:=nD z;obtain⟨f0,f1,f2,_⟩:=hf p.1 hb;obtain⟨o,e',d⟩:=ho p.1 hb;rw[e] at e';cases e';exact⟨e,f0,f1,f2,d⟩
theorem Inv.unpinned {pl:Aa (Af × AX)}(I:Inv X (pins++pl) σ H s):Inv X pins σ H s:=I.pins_of λp hp=>I.pin p (AI _ (Bk _ hp))
inductive ForI (X:Cx)(pins:Aa (Af × AX))(fp:Aa Af)(tn:Ai->AB->Prop)(W:Ai->Ai->St->Hp->Prop)(n:Ai)(s':Ag):Prop
 |mk (i:Ai) (σ' : St) (H':Hp) (I:Inv X pins σ' H' s') (t:tn i s'.heap) (f:∀ b∈fp,H' b=none) (w:W i n σ' H'):ForI X pins fp tn W n s'
theorem MX {iter:AM}{body:Aa Dd}{wi:TI}{g:TG}{tb:TS}{pos:CN}(hp:Pw (Ar X.prog X.w) X.A X.env X.xe)(hc:X.calm=true)(hi:PI X tg iter wi)(hg:PG X tg g)(hb:PSs X body tb)
  (hs:∀ x,Co iter X.env x=pure x:=by intro _;rfl):PS X (.For tg iter body [] pos) (E7 wi g tb):=by
 intro pins s σ H D I h;refine wpAny_For (thn (hi pins s σ H _ I h) λv s1 h1=>thn h1 λitv s2 h2=>?_) hs;obtain⟨it,fp,tn,J,H2,e,I2,T,st2,f2,W,⟨m0,w0⟩,turn⟩:=h2;subst e;have stat:∀ {H':Hp},(∀ b∈fp,H' b=none)->∀ b∈fp,x5 X pins H' b:=λhn b hb=>⟨hn b hb,(f2 b hb).2⟩;refine codeAny_forLoop_any (ForI X pins fp tn W) ?_ m0 ⟨0,σ,H2,I2,st2,λb hb=>(f2 b hb).1,w0⟩;rintro n s3 ⟨i,σ3,H3,I3,st3,fr3,w3⟩;rcases turn i n σ3 H3 w3 with⟨stop,qn⟩|⟨go,N,hN,step⟩
 .refine IV hp (thn (T.done X rfl rfl rfl hc i pins s3 σ3 H3 X.xe I3 (stat fr3) st3 stop) λr s4 ⟨hr,I4⟩=>?_)
  subst hr;exact Ll ⟨σ3,H3,I4,qn⟩
 .refine IV hp (thn (T.item X rfl rfl rfl hc i pins s3 σ3 H3 X.xe I3 (stat fr3) st3 go) λr s4 ⟨u,hr,h4⟩=>?_)
  subst hr;refine IV hp (thn h4 λ_ s5 ⟨x,H5,I5,r5,y5,st5,fr5⟩=>?_);have I5':=I5.pinned (stat fr5) (T.obj _ _ st5);refine IV hp (thn (hg _ s5 σ3 H5 x u _ I5' r5 (step x H5 y5)) λ_ s6 ⟨σ6,H6,I6,q6⟩=>?_);refine IV hp (thn (hb _ s6 σ6 H6 _ I6 q6) λf s7 q7=>?_);have again:∀ {σ7:St} {H7:Hp},Inv X (pins++yP fp s5.heap) σ7 H7 s7->N σ7 H7->∃ m,m<n/\ForI X pins fp tn W m s7:=λ{σ7 H7} I7 n7=>by
   obtain⟨m',hm,w7⟩:=hN σ7 H7 n7;refine⟨m',hm,i+1,σ7,H7,I7.unpinned,T.keep _ _ _ st5 λb hb o e=>(I7.pin (b,o) (AI _ (AI _ (vF hb e)))).1,λb hb=>?_,w7⟩;obtain⟨o,e,d⟩:=T.obj _ _ st5 b hb;exact(I7.pin (b,o) (AI _ (AI _ (vF hb e)))).2.1
  cases f with
  |next=>obtain⟨σ7,H7,I7,n7⟩:=q7;exact again I7 n7
  |cont=>obtain⟨σ7,H7,I7,n7⟩:=q7;exact again I7 n7
  |brk=>obtain⟨σ7,H7,I7,q7⟩:=q7;exact⟨σ7,H7,I7.unpinned,q7⟩
  |ret v=>obtain⟨x7,σ7,H7,I7,r7,q7⟩:=q7;exact⟨x7,σ7,H7,I7.unpinned,r7,q7⟩
end
end _L
namespace _L
open PySem PySem.Spec PyProof.Rows
variable {us:Aa Ac}{f:Ac->Ac->Il Ac}{g:Am->Am->Am}
abbrev R2:=V->V->Hp->VK->Prop
def OpR (X:Cx)(f:Ac->Ac->Il Ac)(r:R2):Prop:=
 ∀ (pins:Aa (Af × AX)) (s:Ag) (σ : St) (H:Hp) (x y:V) (v u:Ac) (Q:VK),Inv X pins σ H s->qK x v->qK y u->r x y H Q ->
  Ao (Ar X.prog X.w) X.A (f v u) (EP X pins σ Q) X.xe s
def UnR (X:Cx)(f:Ac->Il Ac)(r:V->Hp->VK->Prop):Prop:=
 ∀ (pins:Aa (Af × AX)) (s:Ag) (σ : St) (H:Hp) (x:V) (v:Ac) (Q:VK),Inv X pins σ H s->qK x v->r x H Q ->
  Ao (Ar X.prog X.w) X.A (f v) (EP X pins σ Q) X.xe s
def uE (X:Cx)(f:Ac)(r:Aa V->Hp->VK->Prop):Prop:=
 ∀ (pins:Aa (Af × AX)) (s:Ag) (σ : St) (H:Hp) (xs:Aa V) (us:Aa Ac) (Q:VK),Inv X pins σ H s->qJ xs us->r xs H Q ->
  Ao (Ar X.prog X.w) X.A (call f us) (EP X pins σ Q) X.xe s
def SZ (X:Cx)(r:V->Hp->(Ap->Hp->Prop)->Prop):Prop:=
 ∀ (pins:Aa (Af × AX)) (s:Ag) (σ : St) (H:Hp) (x:V) (v:Ac) (Q:Ap->Hp->Prop),Inv X pins σ H s->qK x v->r x H Q ->
  Ao (Ar X.prog X.w) X.A (truthy v) (TP X pins σ Q) X.xe s
def tOp (r:R2)(ta tb:TE):TE:=λσ H Q=>ta σ H λx H1=>tb σ H1 λy H2=>r x y H2 Q
def rI (C:Am->Am->Prop)(g:Am->Am->V):R2:=λx y H Q=>∃ i j,x=.int i/\y=.int j/\C i j/\Q (g i j) H
def rI0 (g:Am->Am->V):R2:=λx y H Q=>∃ i j,x=.int i/\y=.int j/\Q (g i j) H
def rU (g:Am->V):V->Hp->VK->Prop:=λx H Q=>∃ i,x=.int i/\Q (g i) H
section
variable {X:Cx}{a b c:AM}{ta tb tc:TE}{pos:CN}
theorem R8 (ha:PE X a ta)(hb:PE X b tb){pins:Aa (Af × AX)}{s:Ag}{σ : St}{H:Hp}{R:V->V->Hp->Prop}(I:Inv X pins σ H s)
  (h:ta σ H λx H1=>tb σ H1 λy H2=>R x y H2) {Q:Ac->Ag->Prop} {f:Ac->Ac->Il Ac}
  (hf:∀ v u s2 x y H2,Inv X pins σ H2 s2->qK x v->qK y u->R x y H2->Ao (Ar X.prog X.w) X.A (f v u) Q X.xe s2) :
  Ao (Ar X.prog X.w) X.A (eval a X.env) (λv s₁=>Ao (Ar X.prog X.w) X.A (eval b X.env) (λu s₂=>Ao (Ar X.prog X.w) X.A (f v u) Q X.xe s₂) X.xe s₁) X.xe s:=by
 refine thn (ha pins s σ H _ I h) λv s1 ⟨x,H1,I1,r1,q1⟩=>?_;refine thn (hb pins s1 σ H1 _ I1 q1) λu s2 ⟨y,H2,I2,r2,q2⟩=>?_;exact hf v u s2 x y H2 I2 r1 r2 q2
theorem opI {f:Ac->Ac->Il Ac}{C:Am->Am->Prop}
  (rule:∀ (i j:Am) (t u:Os) (s:Ag) (Q:Ac->Ag->Prop) (E:Ac->Ag->Prop),C i j->Q (.int (g i j) s.toks) { s with toks:=s.toks+1 } -> Ao (Ar X.prog X.w) X.A (f (.int i t) (.int j u)) Q E s) :
  OpR X f (rI C λi j=>.int (g i j)):=by
 intro pins s σ H x y v u Q I rx ry h;obtain⟨i,j,rfl,rfl,hc,q⟩:=h;obtain⟨t,rfl⟩:=rx;obtain⟨t',rfl⟩:=ry;exact rule i j t t' s _ _ hc ⟨.int (g i j),H,I.tok _,⟨_,rfl⟩,q⟩
theorem MH {f:Ac->Ac->Il Ac}
  (rule:∀ (i j:Am) (t u:Os) (s:Ag) (Q:Ac->Ag->Prop) (E:Ac->Ag->Prop),Q (.int (g i j) s.toks) { s with toks:=s.toks+1 } -> Ao (Ar X.prog X.w) X.A (f (.int i t) (.int j u)) Q E s) :
  OpR X f (rI0 λi j=>.int (g i j)):=by
 intro pins s σ H x y v u Q I rx ry h;obtain⟨i,j,rfl,rfl,q⟩:=h;obtain⟨t,rfl⟩:=rx;obtain⟨t',rfl⟩:=ry;exact rule i j t t' s _ _ ⟨.int (g i j),H,I.tok _,⟨_,rfl⟩,q⟩
theorem WQ {g:Am->Am->Ap}
  (rule:∀ (i j:Am) (t u:Os) (s:Ag) (Q:Ac->Ag->Prop) (E:Ac->Ag->Prop),Q (.bool (g i j)) s->Ao (Ar X.prog X.w) X.A (f (.int i t) (.int j u)) Q E s) :
  OpR X f (rI0 λi j=>.bl (g i j)):=by
 intro pins s σ H x y v u Q I rx ry h;obtain⟨i,j,rfl,rfl,q⟩:=h;obtain⟨t,rfl⟩:=rx;obtain⟨t',rfl⟩:=ry;exact rule i j t t' s _ _ ⟨.bl (g i j),H,I,rfl,q⟩
def SW (i j:Am):Prop:=0<j/\j<1073741824
def SX (i j:Am):Prop:=0<=j/\j<=1000000/\i.natAbs<2 ^ 64
def ZT (i j:Am):Prop:=(-(2 ^ 64)<i/\i<2 ^ 64)\/(-(2 ^ 64)<j/\j<2 ^ 64)
theorem ZT.ok {i j:Am}(h:ZT i j):IntMulOk i j:=by
 rcases h with⟨h1,h2⟩|⟨h1,h2⟩
 .exact .of_left (intBits_le_64 h1 h2)
 .exact .of_right (intBits_le_64 h1 h2)
theorem MI:OpR X (CS .Add) (rI0 λi j=>.int (i+j)):=MH λ_ _ _ _ _ _ _ q=>add_int q
theorem MN:OpR X (CS .Sub) (rI0 λi j=>.int (i-j)):=MH λ_ _ _ _ _ _ _ q=>sub_int q
theorem ML:OpR X (CS .Mult) (rI ZT λi j=>.int (i*j)):=opI λ_ _ _ _ _ _ _ hc q=>mul_int q hc.ok
theorem K3:OpR X (CS .FloorDiv) (rI SW λi j=>.int (i/j)):=opI λi j _ _ _ _ _ hc q=>by
 have h1:(0:Am)<j:=hc.1;have h2:j<1073741824:=hc.2;exact floordiv_int om (by rw[Int.fdiv_eq_ediv_of_nonneg i om];exact q) (.inl (PyProof.noPylong_small om))
theorem MK:OpR X (CS .Mod) (rI (λ_ j=>0<j) λi j=>.int (i % j)):=opI λi j _ _ _ _ _ hc q=>by
 have h1:(0:Am)<j:=hc;exact mod_int' om (by rw[Int.fmod_eq_emod_of_nonneg i om];exact q)
theorem MM:OpR X (CS .Pow) (rI SX λi j=>.int (i ^ j.toNat)):=opI λ_ _ _ _ _ _ _ hc q=>pow_int_small hc.1 hc.2.1 hc.2.2 q
theorem unI {f:Ac->Il Ac}{g:Am->Am}
  (rule:∀ (i:Am) (t:Os) (s:Ag) (Q:Ac->Ag->Prop) (E:Ac->Ag->Prop),Q (.int (g i) s.toks) { s with toks:=s.toks+1 } -> Ao (Ar X.prog X.w) X.A (f (.int i t)) Q E s) :
  UnR X f (rU λi=>.int (g i)):=by
 intro pins s σ H x v Q I rx h;obtain⟨i,rfl,q⟩:=h;obtain⟨t,rfl⟩:=rx;exact rule i t s _ _ ⟨.int (g i),H,I.tok _,⟨_,rfl⟩,q⟩
theorem NB:UnR X (Uy .USub) (rU λi=>.int (-i)):=unI λ_ _ _ _ _ q=>neg_int q
end
section
variable {X:Cx}{a b c:AM}{ta tb tc:TE}{pos:CN}
theorem F3 {pins:Aa (Af × AX)}{σ:St}{H:Hp}{s:Ag}{Q:VK}{k k':Ap}(I:Inv X pins σ H s)(q:Q (.bl k) H)(e:k=k'):EP X pins σ Q (.bool k') s:=by
 subst e;exact⟨.bl k,H,I,rfl,q⟩
theorem DD:OpR X (Cz .Lt) (rI0 λi j=>.bl (decide (i<j))):=WQ λ_ _ _ _ _ _ _ q=>lt_int q
theorem DC:OpR X (Cz .LtE) (rI0 λi j=>.bl (decide (i<=j))):=WQ λ_ _ _ _ _ _ _ q=>le_int q
theorem DB:OpR X (Cz .GtE) (rI0 λi j=>.bl (decide (j<=i))):=WQ λ_ _ _ _ _ _ _ q=>ge_int q
theorem MJ:OpR X (Cz .Is) (λx y H Q=>y=.non/\Q (.bl (decide (x=.non))) H):=by
 intro pins s σ H x y v u Q I rx ry h;obtain⟨rfl,q⟩:=h;cases ry;refine is_none_gen (F3 I q ?_);cases x <;> first
  |(cases rx;rfl)
  |(obtain⟨t,rfl⟩:=rx;rfl)
theorem OpR.or {r r':R2}(h:OpR X f r)(h':OpR X f r'):OpR X f (λx y H Q=>r x y H Q\/r' x y H Q):=by
 intro pins s σ H x y v u Q I rx ry q;rcases q with q|q
 .exact h pins s σ H x y v u Q I rx ry q
 .exact h' pins s σ H x y v u Q I rx ry q
theorem jM (b:AM){op:Rm}(h:op≠.In:=by decide)(h2:op≠.NotIn:=by decide):IN op b=false:=by
 have e1:(op == CmpOp.In)=false:=by cases op <;> first|rfl|exact absurd rfl h
 have e2:(op == CmpOp.NotIn)=false:=by cases op <;> first|rfl|exact absurd rfl h2
 cases b <;> simp[IN,e1,e2]
def cL (K:Aj)(x:V)(H:Hp)(k:Ap):Prop:=
 match x with
 |.non=>k=false
 |.bl b=>k=b
 |.int i=>k=(i != 0)
 |.str y=>y.length<=sizeLine/\k=((y.length:Am) != 0)
 |.byt y=>y.size<=sizeLine/\k=((y.size:Am) != 0)
 |.ref p=>(∃ xs,SqL K H p xs/\k=!xs.isEmpty)\/(∃ xs,SqT K H p xs/\k=!xs.isEmpty)\/∃ kvs,H p=Ab (.dK kvs)/\k=!kvs.isEmpty
 |_=>CP
theorem aF {κ:Type}{kvs:Aa (κ × V)}{vs:Aa (κ × Ac)}(r:KV kvs vs):(!vs.isEmpty)=!kvs.isEmpty:=by
 cases r <;> rfl
theorem f7 {xs:Aa V}{its:Aa Ac}(r:qJ xs its):(!its.toArray.isEmpty)=!xs.isEmpty:=by
 cases r <;> simp
theorem gS:(sizeLine:Ai)<2 ^ 63:=by rw[Dj];decide
theorem gX:SZ X (λx H Q=>∃ k,cL X.K x H k/\Q k H):=by
 intro pins s σ H x v Q I rx h;obtain⟨k,e,q⟩:=h;have hl:=gS;have hs:sizeLine=16777216:=Dj;cases x with
 |non =>
  cases rx;have e':k=false:=e;subst e';exact truthy_none ⟨H,I,q⟩
 |bl b =>
  cases rx;have e':k=b:=e;subst e';exact Ub ⟨H,I,q⟩
 |int i =>
  obtain⟨t,rfl⟩:=rx;have e':k=(i != 0):=e;subst e';exact PySem.P.truthy_int ⟨H,I,q⟩
 |str y =>
  obtain⟨t,rfl⟩:=rx;obtain⟨hy,e'⟩:y.length<=sizeLine/\k=((y.length:Am) != 0):=e;subst e';exact PySem.P.truthy_str om ⟨H,I.tok _,q⟩
 |byt y =>
  obtain⟨t,rfl⟩:=rx;obtain⟨hy,e'⟩:y.size<=sizeLine/\k=((y.size:Am) != 0):=e;subst e';exact PySem.W.truthy_bytes om ⟨H,I.tok _,q⟩
 |ref p =>
  cases rx;have e':(∃ xs,SqL X.K H p xs/\k=!xs.isEmpty)\/(∃ xs,SqT X.K H p xs/\k=!xs.isEmpty)\/∃ kvs,H p=Ab (.dK kvs)/\k=!kvs.isEmpty:=e;rcases e' with⟨xs,hx,e'⟩|⟨xs,hx,e'⟩|⟨kvs,hx,e'⟩
  .subst e'
   obtain⟨its,r,pl,hz⟩:=I.list hx;have hlen:=r.length;exact wpAny_truthy_list pl.isList (by simp only[AD];omega) ⟨H,I.tok _,by rw[f7 r];exact q⟩
  .subst e'
   obtain⟨its,r,pl,hz⟩:=I.tuple hx;have hlen:=r.length;exact truthy_tuple pl (by simp only[AD];omega) ⟨H,I.tok _,by rw[f7 r];exact q⟩
  .subst e'
   obtain⟨hz,hS,vs,r,m⟩:kvs.length<=sizeLine/\(p == Gi)=false/\∃ vs,KV kvs vs/\s.heap.DictOf (x9 X.prog X.w) p vs:=I.hok p _ hx;have hlen:kvs.length=vs.length:=Paired.length r;exact wpAny_truthy_dict hS m om ⟨H,I.tok _,by rw[aF r];exact q⟩
 |_=>exact(show CP from e).elim
theorem aY:OpR X (CS .Add) (λx y H Q=>∃ i j,x=.str i/\y=.str j/\i.length+j.length<=sizeLine/\Q (.str (i++j)) H):=by
 intro pins s σ H x y v u Q I rx ry h;obtain⟨i,j,rfl,rfl,hz,q⟩:=h;obtain⟨t,rfl⟩:=rx;obtain⟨t',rfl⟩:=ry;exact add_str (λt' tk=>⟨.str (i++j),H,I.tok _,⟨_,rfl⟩,q⟩) hz
theorem vI {x:V}(r:qJ [x] us):∃ u,us=[u]/\qK x u:=by
 cases r with
 |cons r1 r2=>cases r2;exact⟨_,rfl,r1⟩
theorem fT {x y:V}(r:qJ [x,y] us):∃ u w',us=[u,w']/\qK x u/\qK y w':=by
 cases r with
 |cons r1 r2 =>
  cases r2 with
  |cons r3 r4=>cases r4;exact⟨_,_,rfl,r1,r3⟩
theorem tR:uE X (.type "int") (λxs H Q=>(∃ i,xs=[.int i]/\Q (.int i) H)\/∃ k,xs=[.bl k]/\Q (.int (if k then 1 else 0)) H):=by
 intro pins s σ H xs us Q I r h;rcases h with⟨i,rfl,q⟩|⟨k,rfl,q⟩
 .obtain⟨u,rfl,t,rfl⟩:=vI r
  exact call_int_int ⟨.int i,H,I,⟨_,rfl⟩,q⟩
 .obtain⟨u,rfl,r1⟩:=vI r
  cases r1;exact call_int_bool ⟨.int (if k then 1 else 0),H,I.tok _,⟨_,rfl⟩,q⟩
def P9 (K:Aj)(x:V)(H:Hp)(n:Ai):Prop:=
 match x with
 |.str y=>y.length<=sizeLine/\n=y.length
 |.byt y=>y.size<=sizeLine/\n=y.size
 |.ref p=>(∃ xs,SqL K H p xs/\n=xs.length)\/∃ xs,SqT K H p xs/\n=xs.length
 |_=>CP
theorem ZZ:uE X (.builtin "len") (λxs H Q=>∃ x n,xs=[x]/\P9 X.K x H n/\Q (.int n) H):=by
 intro pins s σ H xs us Q I r h;obtain⟨x,n,rfl,e,q⟩:=h;obtain⟨u,rfl,rx⟩:=vI r;have hl:=gS;have hs:sizeLine=16777216:=Dj;cases x with
 |str y =>
  obtain⟨t,rfl⟩:=rx;obtain⟨hy,e'⟩:y.length<=sizeLine/\n=y.length:=e;subst e';exact len_str om ⟨.int _,H,I.tok _,⟨_,rfl⟩,q⟩
 |byt y =>
  obtain⟨t,rfl⟩:=rx;obtain⟨hy,e'⟩:y.size<=sizeLine/\n=y.size:=e;subst e';exact PySem.W.len_bytes om ⟨.int _,H,I.tok _,⟨_,rfl⟩,q⟩
 |ref p =>
  cases rx;have e':(∃ xs,SqL X.K H p xs/\n=xs.length)\/∃ xs,SqT X.K H p xs/\n=xs.length:=e;rcases e' with⟨xs,hx,e'⟩|⟨xs,hx,e'⟩
  .subst e'
   obtain⟨its,r',pl,hz⟩:=I.list hx;have hlen:=r'.length;exact Calls.call_len_list pl.isList (by simp only[AD];omega) ⟨.int xs.length,H,I.tok _,⟨_,by simp only[AD];rw[hlen]⟩,q⟩
  .subst e'
   obtain⟨its,r',pl,hz⟩:=I.tuple hx;have hlen:=r'.length;exact len_tuple pl (by simp only[AD];omega) ⟨.int xs.length,H,I.tok _,⟨_,by simp only[AD];rw[hlen]⟩,q⟩
 |_=>exact(show CP from e).elim
end
end _L
namespace _L
open PySem PySem.Spec PyProof.Rows
variable {mA:As->Al Ac}
structure ObjM (h:AB)(x dx C:Af)(mA:As->Al Ac):Prop where
 obj:h.get? x=Ab (OW C dx)
 ns:h.Ns1 dx mA
 ne:dx≠x
set_option tactic.hygienic true in
theorem oX {h:AB}{dx:Af}(n:h.Ns1 dx mA):∃ od,h.get? dx=Ab od/\∀ name,Qr name od=Ab (mA name):=by
 obtain⟨o,es,ep,ho,hd,hk,_,hm⟩:=n;refine⟨o,ho,λname=>?_⟩;have e:=hm name;unfold nsFind findBy at e;rw[<- Array.find?_toList] at e;unfold Qr;rw[hd];dsimp only
 split
 .rename_i y q
  rw[q] at e;exact congrArg Ab e
 .rename_i q
  rw[q] at e;have a:es.toList.any (·.refKey)=false:=by
   rw[List.any_eq_false];intro y hy;obtain⟨z,t,hkey⟩:=hk y (Lb.mp hy);simp[DictEntry.refKey,hkey]
  have a':¬ es.toList.any (·.refKey)=true:=by rw[a];exact Fw
  rw[AC a'];exact congrArg Ab e
theorem ObjM.look {h:AB}{x dx C:Af}(I:ObjM h x dx C mA):∃ od,PySem.W.InstAt h x (OW C dx) C (Ab od)/\∀ name,Qr name od=Ab (mA name):=
 let ⟨od,ho,hl⟩:=oX I.ns
 ⟨od,⟨I.obj,rfl,rfl,ho⟩,hl⟩
section
variable {P:A5}{w:AL}{H H':Hp}{h h':AB}{a C dx:Af}{fs fs':Aa (As × V)}
theorem J0 (hok:HOk P w H h)(e:H a=Ab (.ins C dx fs)):∃ mA,ObjM h a dx C mA/\(∀ f,gB (fs.lookup f) (mA f))/\XV mA (fs.map (·.1))/\fs.length<=1000/\H dx=Ab (.own a):=by
 obtain⟨d,z,ne,ob,mA,n,r,q⟩:=(show qZ P w H h a (.ins C dx fs) from hok a _ e)
 exact⟨mA,⟨ob,n,ne⟩,r,q,z,d⟩
end
structure Cls (K:Aj)(C:Af):Prop where
 pg:Uz K C Str.empty=true
 hd:PySem.W.hasDictIn K C=true
 po:PySem.W.plainOver K C=true
 sa:Ju K (.ref C) "__setattr__" = Ab (Ab (.builtin "object.__setattr__"))
theorem Cls.get {K:Aj}{C:Af}(c:Cls K C)(f:As):Uz K C f=true:=c.pg
section
variable {X:Cx}{pins:Aa (Af × AX)}{σ : St}{H:Hp}{s:Ag}{A:AK}{E:Ac->Ag->Prop}{Q:Ac->Ag->Prop}{c:Ac}{b:Ap}
inductive TyOf (K:Aj)(H:Hp):V->Ac->Prop where
 |non:TyOf K H .non (.type "NoneType")
 |bl (x:Ap):TyOf K H (.bl x) (.type "bool")
 |int (i:Am):TyOf K H (.int i) (.type "int")
 |str (x:As):TyOf K H (.str x) (.type "str")
 |flt (x:UInt64):TyOf K H (.flt x) (.type "float")
 |lst {a:Af} {xs:Aa V} (e:H a=Ab (.lst xs)):TyOf K H (.ref a) (.type "list")
 |frz {a:Af} {o:AX} {xs:Aa V} (e:H a=Ab (.frz o (.lst xs))):TyOf K H (.ref a) (.type "list")
 |tup {a:Af} {xs:Aa V} (e:H a=Ab (.tup xs)):TyOf K H (.ref a) (.type "tuple")
 |dK {a:Af} {kvs:Aa (Key × V)} (e:H a=Ab (.dK kvs)):TyOf K H (.ref a) (.type "dict")
 |dT {a:Af} {kvs:Aa (Aa Key × V)} (e:H a=Ab (.dT kvs)):TyOf K H (.ref a) (.type "dict")
 |ins {a C dx:Af} {fs:Aa (As × V)} (e:H a=Ab (.ins C dx fs)) (cl:Cls K C) (ha:Ju K (.ref C) "__class__" = Ab (Ab (.builtin "object.__class__")))
   (hn:Uc K (.builtin "object.__class__") "__get__" = Ab (Ab (.builtin "getset_descriptor.__get__"))) (htk:Vv K (.builtin "object.__class__")=Ab true)
   (hm:Ro K C (.type "object")=Ab true):TyOf K H (.ref a) (.ref C)
theorem oM {x:V}{u t:Ac}(I:Inv X pins σ H s)(rx:qK x u)(ty:TyOf X.K H x t)(e:IB X.K t c=Ab b)(h:∀ tk,Q (.bool b) { s with toks:=tk }) :
  Ao (Ar X.prog X.w) A (call (.builtin "isinstance") [u,c]) Q E s:=by
 cases ty with
 |non=>cases (show u=Bs from rx);exact CG Ud I.kIn Gk e (λz=>nomatch z) h
 |bl y=>cases (show u=Dt y from rx);exact CG Ue I.kIn Gk e (λz=>nomatch z) h
 |int i=>obtain⟨t,q⟩:=(show ∃ t,u=Hg i t from rx);cases q;exact CG Va I.kIn Gk e (λz=>nomatch z) h
 |str y=>obtain⟨t,q⟩:=(show ∃ t,u=Pq y t from rx);cases q;exact CG Vb I.kIn Gk e (λz=>nomatch z) h
 |flt y=>obtain⟨t,q⟩:=(show ∃ t,u=Ym y t from rx);cases q;exact CG PySem.W.kitx_float I.kIn Gk e (λz=>nomatch z) h
 |@lst a xs ea =>
  cases (show u=AU a from rx)
  obtain⟨_,_,n,_,h1⟩:=(show qZ X.prog X.w H s.heap a (.lst xs) from I.hok a _ ea)
  exact CG Hi I.kIn ⟨_,h1,rfl⟩ e (λz=>nomatch z) h
 |@frz a ob xs ea =>
  cases (show u=AU a from rx)
  obtain⟨_,_,_,n,_,h1⟩:=(show qZ X.prog X.w H s.heap a (.frz ob (.lst xs)) from I.hok a _ ea)
  exact CG Hi I.kIn ⟨_,h1,rfl⟩ e (λz=>nomatch z) h
 |@tup a xs ea =>
  cases (show u=AU a from rx)
  obtain⟨_,_,_,p⟩:=(show qZ X.prog X.w H s.heap a (.tup xs) from I.hok a _ ea)
  obtain⟨o,h1,h2,_⟩:=p;exact CG Jj I.kIn ⟨o,h1,h2⟩ e (λz=>nomatch z) h
 |@dK a kvs ea =>
  cases (show u=AU a from rx)
  obtain⟨_,_,vs,_,p⟩:=(show qZ X.prog X.w H s.heap a (.dK kvs) from I.hok a _ ea)
  obtain⟨o,es,ep,h1,h2,_⟩:=p;exact CG Jx I.kIn ⟨o,h1,h2.1⟩ e (λz=>nomatch z) h
 |@dT a kvs ea =>
  cases (show u=AU a from rx)
  obtain⟨_,_,xs,_,o,es,ep,h1,h2,_⟩:=(show qZ X.prog X.w H s.heap a (.dT kvs) from I.hok a _ ea)
  exact CG Jx I.kIn ⟨o,h1,h2.1⟩ e (λz=>nomatch z) h
 |@ins a C dx fs ea cl ha hn htk hm =>
  cases (show u=AU a from rx)
  obtain⟨mA,O,_⟩:=J0 I.hok ea;obtain⟨od,J,_⟩:=O.look;exact CG (PySem.W.kitx_own (cl.get _) cl.hd ha hn htk hm) I.kIn J e (λz=>nomatch z) h
end
end _L
namespace _L
open PySem PySem.Spec PyProof.Rows
variable {A:AK}{ps:Aa As}{K:Aj}{mg:As->Al Ac}{kindOf:As->Al Fx}{scope:Cs}
structure Room (k:Ai)(A:AK):Prop where
 hd:A.handled=none
 dp:A.depth+3*k+5<Mj
 un:A.units+16*k+200<Ee
 gd:A.guards=Ab []
theorem Room.deeper {k:Ai}(r:Room (k+1) A)(env:Gj):Room k (A.deeper env):=
 ⟨r.hd,by have:=r.dp;show A.depth+1+3*k+5<_;omega,by have:=r.un;show A.units+3+16*k+200<_;omega,r.gd⟩
theorem Room.depth {k:Ai}(r:Room k A):A.depth<Mj:=by have:=r.dp;omega
theorem Room.units {k:Ai}(r:Room k A):A.units+64<Ee:=by have:=r.un;omega
def E9:TA:=λ_ H Q=>Q [] H
section
variable {X:Cx}{e:AM}{es:Aa AM}{te:TE}{t:TA}{pos:CN}
theorem MP:PA X [] E9:=λ_ _ _ _ H Q I h=>Fc ⟨[],H,I,.nil,h⟩
def EC (t:TA):TE:=λσ H Q=>t σ H λxs H1=>xs.length<=sizeLine/\∀ p,H1 p=none->Q (.ref p) (upd H1 p (.tup xs))
def E8 (t:TA):TE:=λσ H Q=>t σ H λxs H1=>xs.length<=sizeLine/\∀ p,H1 p=none->Q (.ref p) (upd H1 p (.lst xs))
theorem MV  (h:PA X es t):PE X (.Tuple es x1 pos) (EC t):=by
 intro pins s σ H Q I hq;refine wpAny_Tuple_spliced (thn (h pos pins s σ H _ I hq) λus s1 ⟨xs,H1,I1,r,z,q⟩=>⟨by rw[<- r.length];exact z,?_⟩)
 have hf:H1 s1.heap.objs.size=none:=I1.hok.fresh (Aq _);refine⟨.ref s1.heap.objs.size,upd H1 s1.heap.objs.size (.tup xs),I1.laid (t':=s1.toks) (λb u e=>Ah _ e) (Aq _) ?_,rfl,q _ hf⟩;exact⟨z,us,r,⟨_,A7 _ rfl,rfl,_,rfl⟩⟩
theorem QH (h:PA X es t):PE X (.List es pos) (E8 t):=by
 intro pins s σ H Q I hq;refine wpAny_List_spliced (thn (h pos pins s σ H _ I hq) λus s1 ⟨xs,H1,I1,r,z,q⟩=>⟨by rw[<- r.length];exact z,?_⟩)
 have hf:H1 s1.heap.objs.size=none:=I1.hok.fresh (Aq _);refine⟨.ref s1.heap.objs.size,upd H1 s1.heap.objs.size (.lst xs),I1.laid (t':=s1.toks) (λb u e=>Ah _ e) (Aq _) ?_,rfl,q _ hf⟩;exact⟨z,us,0,r,A7 _ rfl⟩
end
abbrev Sp:=Aa V->Hp->VK->XK->Prop
abbrev CXT:=Aa Gj->Hp->Ag->XK->Ac->Ag->Prop
structure Env0 (P:A5)(w:AL)(K:Aj)(mg:As->Al Ac)(base:AB)(A:AK)(outer:Aa Gj)(s:Ag)(H:Hp):Prop where
 frames:A.frames=Ab outer
 mod:Mod K mg base
 bs:∀ b o,base.get? b=Ab o->s.heap.get? b=Ab o/\H b=none
 bsz:base.objs.size<=s.heap.objs.size
 funs:s.heap.FunFrames base outer
 frf:∀ b∈frs outer,H b=none
 hok:HOk P w H s.heap
 bare:Kj s.gens
def CE (outer:Aa Gj)(P:A5)(w:AL)(H:Hp)(s:Ag)(Q:VK)(u:Ac)(s':Ag):Prop:=
 ∃ v H',s'.os=s.os/\Kj s'.gens/\Un (frs outer) [] H H' s.heap s'.heap/\HOk P w H' s'.heap/\qK v u/\Q v H'
def CR (CX:CXT)(outer:Aa Gj)(P:A5)(w:AL)(H:Hp)(s:Ag)(Q:VK)(E:XK)(r:So)(s':Ag):Prop:=
 match r with
 |.ok (.ret u)=>CE outer P w H s Q u s'
 |.ok _=>CP
 |.error e=>CX outer H s E e s'
structure FnOk (P:A5)(w:AL)(K:Aj)(mg:As->Al Ac)(base:AB)(CX:CXT)(k:Ai)(f:Af)(fd:Dq)(ps:Aa As)(sp:Sp):Prop where
 len:∀ vs H Q E,sp vs H Q E->vs.length=ps.length
 run:∀ (A:AK) (outer:Aa Gj) (s:Ag) (H:Hp) (args:Args) (us:Aa Ac) (vs:Aa V) (Q:VK) (E:XK),Room k A->Env0 P w K mg base A outer s H->Kl s fd args (ps.zip us)->qJ vs us->sp vs H Q E ->
  Fn (Ar P w) A (.call (.ref f) args) (CR CX outer P w H s Q E) s
section
variable {X:Cx}{pins:Aa (Af × AX)}{σ : St}{H:Hp}{s s':Ag}
theorem Inv.env0 (I:Inv X pins σ H s):Env0 X.prog X.w X.K X.mg X.base X.A X.stack s H:=
 ⟨I.ok.frames,I.ok.mod,I.bs,Bp I.ok.bsz I.sz,I.stack,I.stkFree,I.hok,I.bare⟩
theorem Inv.after {Q:VK}{u:Ac}(I:Inv X pins σ H s)(h:CE X.stack X.prog X.w H s Q u s'):EP X pins σ Q u s':=by
 obtain⟨v,H',os,bare,un,hok,r,q⟩:=h;obtain⟨hh,g,d,t,os'⟩:=s';obtain rfl:os'=s.os:=os;exact⟨v,H',I.call (h':=hh) (g':=g) (d':=d) (t':=t) (ch:=[]) un hok bare (λb z=>absurd z (by simp)),r,q⟩
end
def yJ (K:Aj)(fd:Dq)(ps:Aa As)(ds:Aa Ac):Prop:=
 ∀ (s:Ag) (us:Aa Ac),K.In s.heap->(us++ds).length=ps.length->Kl s fd ⟨us,[]⟩ (ps.zip (us++ds))
theorem yJ.all {fd:Dq}(h:∀ us:Aa Ac,us.length=ps.length->OX fd ⟨us,[]⟩=pure (ps.zip us)):yJ K fd ps []:=λs us _ hl=>by
 rw[Df] at hl ⊢;exact .of_eq (h us hl)
structure FnScope (N P:Aa As)(sc:Cs):Prop where
 kind:sc.kind=.function
 co:sc.isCoroutine=false
 gen:sc.isGenerator=false
 nd:N.Nodup
 pre:N.take P.length=P
 par:∀ x∈P,sc.names.lookup x=Ab .local \/ sc.names.lookup x=Ab .cell
 nofree:∀ y∈sc.names,y.2≠.free
theorem tP {x:As}:∀ {binds:Aa (As × Ac)} {m:As->Al Ac},(∀ v,(x,v) ∉ binds)->Rp kindOf binds m x=m x
 |[],_,_=>rfl
 |(n,v)::r,m,h=>by
  unfold Rp;rw[tP λw hw=>h w (Bb _ hw)]
  split
  .have:x≠n:=by rintro rfl;exact h v Bx
   simp[this]
  .rfl
theorem tN {x:As}:∀ {binds:Aa (As × Ac)} {m:As->Al Ac},(∀ v,(x,v) ∉ binds)->Rq kindOf binds m x=m x
 |[],_,_=>rfl
 |(n,v)::r,m,h=>by
  unfold Rq;rw[tN λw hw=>h w (Bb _ hw)]
  split
  .rfl
  .have:x≠n:=by rintro rfl;exact h v Bx
   simp[this]
theorem tO {x:As}{v:Ac}:∀ {P:Aa As} {vs:Aa Ac} {i:Ai} {m:As->Al Ac},P.Nodup->P[i]? = Ab x->vs[i]? = Ab v->kindOf x=Ab .local ->
  Rp kindOf (P.zip vs) m x=Ab v
 |[],_,_,_,_,h,_,_=>by simp at h
 |_::_,[],_,_,_,_,h,_=>by simp at h
 |p::P,w::vs,0,m,nd,h1,h2,hk=>by
  simp at h1 h2;subst h1;subst h2;show Rp kindOf ((p,w)::P.zip vs) m p=_;unfold Rp;rw[tP λv hv=>(Hd.mp nd).1 (IW hv).1,AF hk];simp
 |p::P,w::vs,i+1,m,nd,h1,h2,hk=>by
  show Rp kindOf ((p,w)::P.zip vs) m x=_;unfold Rp;exact tO (i:=i) (Hd.mp nd).2 (by simpa using h1) (by simpa using h2) hk
theorem tM {x:As}{v:Ac}:∀ {P:Aa As} {vs:Aa Ac} {i:Ai} {m:As->Al Ac},P.Nodup->P[i]? = Ab x->vs[i]? = Ab v->kindOf x≠Ab .local ->
  Rq kindOf (P.zip vs) m x=Ab v
 |[],_,_,_,_,h,_,_=>by simp at h
 |_::_,[],_,_,_,_,h,_=>by simp at h
 |p::P,w::vs,0,m,nd,h1,h2,hk=>by
  simp at h1 h2;subst h1;subst h2;show Rq kindOf ((p,w)::P.zip vs) m p=_;unfold Rq;rw[tN λv hv=>(Hd.mp nd).1 (IW hv).1,AC hk];simp
 |p::P,w::vs,i+1,m,nd,h1,h2,hk=>by
  show Rq kindOf ((p,w)::P.zip vs) m x=_;unfold Rq;exact tM (i:=i) (Hd.mp nd).2 (by simpa using h1) (by simpa using h2) hk
noncomputable def xW (N:Aa As)(vs:Aa V):St:=vs.map Ab++Br (N.length-vs.length) none
noncomputable def mB (CX:CXT)(P:A5)(w:AL)(K:Aj)(mg:As->Al Ac)(base:AB)(N:Aa As)(qual:As)(scope:Cs)(f:Af)(cd:Ac)(A:AK)(outer:Aa Gj)(s:Ag)(H:Hp)(E:XK):Cx where
 prog:=P
 w:=w
 K:=K
 mg:=mg
 base:=base
 A:=A.deeper (Eb qual scope s.heap.objs.size f cd)
 N:=N
 s₀:=s
 H₀:=H
 env:=Eb qual scope s.heap.objs.size f cd
 outer:=outer
 stack:=Eb qual scope s.heap.objs.size f cd::outer
 ex:=[]
 calm:=true
 fn:=λ_=>true
 pn:=[]
 xe:=λe s'=>Ao (Ar P w) (A.deeper (Eb qual scope s.heap.objs.size f cd)) (leaving (Eb qual scope s.heap.objs.size f cd) e) (λ_ s''=>CX outer H s E e s'') (λe' s''=>CX outer H s E e' s'') s'
theorem lL {sc:Cs}{n:Ai}{x:As}(h:sc.names.lookup x=Ab .cell):∃ c,(Fo n sc.names []).lookup x=Ab c:=by
 have q:=Hy sc.names n [] (.inl h);exact Hm.mp q
theorem tZ {CX:CXT}{P:A5}{w:AL}{base:AB}{N:Aa As}{qual:As}{f:Af}{cd:Ac}{outer:Aa Gj}{s s1:Ag}{H:Hp}{E:XK}{us:Aa Ac}{vs:Aa V}
  (S:FnScope N ps scope) (hd:A.handled=none) (e0:Env0 P w K mg base A outer s H) (hl:vs.length=ps.length) (r:qJ vs us)
  (x:InCallC s s.heap.objs.size (Rp (Eb qual scope s.heap.objs.size f cd).kindOf (ps.zip us) λ_=>none) (Fo (s.heap.objs.size+1) scope.names []) (Rq (Eb qual scope s.heap.objs.size f cd).kindOf (ps.zip us) λ_=>none) s1) :
  Inv (mB CX P w K mg base N qual scope f cd A outer s H E) [] (xW N vs) H s1:=by
 have hpl:ps.length<=N.length:=by have:=congrArg Px S.pre;rw[CO] at this;omega
 obtain⟨h1,tk,rfl,hk⟩:=x.done;have noA:∀ b:Af,b ∉ (mB CX P w K mg base N qual scope f cd A outer s H E).ex:=λb z=>absurd (show b∈([]:Aa Af) from z) (by simp)
 refine⟨⟨e0.mod,S.kind,rfl,rfl,Aq _,λy z c h1 h2=>?_,λy hy=>?_,λy c _ h=>?_,λ_=>hd,Lc e0.frames,.inr ⟨rfl,rfl⟩,λb z=>absurd z (noA b),e0.bs,e0.bsz,λb _ _=>noA b,λb z=>absurd z (noA b),e0.funs,e0.frf⟩,
  rfl,e0.bare,Un.kept hk,⟨_,x.toInCall.ns,λi y v h1 h2 h3=>?_⟩,λy c h=>⟨_,x.cell y c h⟩,e0.hok.fresh (Aq _),λy c h=>?_,λp hp=>absurd (show p∈([]:Aa (Af × AX)) from hp) (by simp),e0.hok.kept hk,?_⟩
 .exact name_of_addr x.apart (Dk h1) (Dk h2)
 .have hy:scope.names.lookup y=Ab .cell\/scope.names.lookup y=Ab .free:=hy
  rcases hy with hy|hy
  .exact lL hy
  .exact absurd rfl (S.nofree _ (Dk hy))
 .exact CV (x.above y c (Dk h))
 .have hi:i<vs.length:=by
   unfold xW at h2;by_cases hi:i<vs.length
   .exact hi
   .rw[Bf (by simpa using hi)] at h2
    rw[Jo] at h2
    split at h2 <;> cases h2
  have ha:vs[i]? = Ab v:=by
   unfold xW at h2;rw[AY (by simpa using hi),By] at h2
   cases e:vs[i]? with
   |none=>rw[e] at h2;cases h2
   |some a=>rw[e] at h2;cases h2;rfl
  obtain⟨u,hu,rv⟩:=r.get ha;have hp:ps[i]? = Ab y:=by
   rw[<- S.pre,Je om];exact h1
  have ndP:ps.Nodup:=by rw[<- S.pre];exact S.nd.sublist (Nu _ _)
  refine⟨u,rv,?_⟩;rcases S.par y (AQ hp) with k|k
  .exact .inl ⟨k,tO ndP hp hu k⟩
  .obtain⟨c,e⟩:=lL (n:=s.heap.objs.size+1) k
   refine .inr ⟨.inl k,c,e,?_⟩;have q:=x.cell y c e;rw[tM ndP hp hu (by show scope.names.lookup y≠_;rw[k];decide)] at q
   exact q
 .exact e0.hok.fresh (CV (x.above y c (Dk h)))
 .unfold xW
  show _=N.length;rw[AT,A4,List.length_replicate];omega
theorem LB {CX:CXT}{P:A5}{w:AL}{base:AB}{k:Ai}{f:Af}{name qual:As}{params:Lm}{body:Aa Dd}{dV kV doc pm cdv ct oc:Ac}{an od:Al Af}
  {osl:Aw (Al Ac)} {N ps:Aa As} {sp:Sp} (lk:K.lookup f=Ab ⟨oc,od,.func (Em name qual params body scope dV kV doc pm an cdv ct),osl⟩) (hcd:IC K cdv qual=true) (S:FnScope N ps scope)
  (len:∀ vs H Q E,sp vs H Q E->vs.length=ps.length)
  (hbody:∀ (A:AK) (outer:Aa Gj) (s:Ag) (H:Hp) (vs:Aa V) (Q:VK) (E:XK),Room k (A.deeper (Eb qual scope s.heap.objs.size f cdv))->sp vs H Q E ->
   ∃ t,PSs (mB CX P w K mg base N qual scope f cdv A outer s H E) body t/\t { nx:=λ_ H'=>Q .non H',rt:=Q } (xW N vs) H) :
  FnOk P w K mg base CX (k+1) f (Em name qual params body scope dV kV doc pm an cdv ct) ps sp:=by
 refine⟨len,λA outer s H args us vs Q E hr e0 hb r hsp=>?_⟩;have hl:=len _ _ _ _ hsp;have KX:K.In s.heap:=e0.mod.kin.keeps λb o e=>(e0.bs b o e).1;have lim:s.heap.NoLimit:=e0.mod.nolimit.keeps λb o e=>(e0.bs b o e).1;have hkind:∀ y∈ps.zip us,scope.names.lookup y.1=Ab .local \/ (scope.names.lookup y.1=Ab .cell/\((Fo (s.heap.objs.size+1) scope.names []).lookup y.1).isSome=true):=λ⟨n,v⟩ hy=>by
  rcases S.par n (IW hy).1 with q|q
  .exact .inl q
  .exact .inr ⟨q,Hy _ _ _ (.inl q)⟩
 refine Py hr.depth (KX _ _ lk) rfl S.co S.gen rfl (Sw KX hcd) (hb _ _ _ _ ?_);refine Ng S.kind hkind λenv he s1 x=>?_;subst he;refine⟨lim.keeps x.toInCall.keep,codeAny_func ?_⟩;obtain⟨t,ht,hq⟩:=hbody A outer s H vs Q E (hr.deeper _) hsp;have I:Inv (mB CX P w K mg base N qual scope f cdv A outer s H E) [] (xW N vs) H s1:=tZ S hr.hd e0 hl r x;refine Ff (ht [] s1 (xW N vs) H _ I hq) (λfl s' hs=>?_) λe s' hs=>hs;have fin:∀ {σ' : St} {H':Hp} {v:V} {u:Ac},Inv (mB CX P w K mg base N qual scope f cdv A outer s H E) [] σ' H' s'->qK v u->Q v H'->CE outer P w H s Q u s':=
  λ{σ' H' v u} J rv q=>⟨v,H',J.os,J.bare,J.base,J.hok,rv,q⟩
 cases fl with
 |ret u =>
  obtain⟨v,σ',H',J,rv,q⟩:=hs;exact fin J rv q
 |next =>
  obtain⟨σ',H',J,q⟩:=hs;exact fin (v:=V.non) (u:=Bs) J rfl q
 |brk =>
  obtain⟨_,_,_,q⟩:=hs;exact An q
 |cont =>
  obtain⟨_,_,_,q⟩:=hs;exact An q
end _L
namespace _H
open PySem PyProof.Rows
variable {Q:Ac->Ag->Prop}{lo hi:Al Am}
noncomputable def lexLt:Aa Am->Aa Am->Ap
 |[],[]=>false
 |[],_::_=>true
 |_::_,[]=>false
 |x::xs,y::ys=>if x=y then lexLt xs ys else decide (x<y)
theorem lexLt_cons (x y:Am)(xs ys:Aa Am):lexLt (x::xs) (y::ys)=if x=y then lexLt xs ys else decide (x<y):=rfl
theorem GZ:lexLt [] []=false:=rfl
section
variable {prog:A5}{w:AL}{A:AK}{E:Ac->Ag->Prop}{s:Ag}
theorem cat_tup {t b:Af}{vs ws:Aa Ac}(ht:Ps s.heap t vs.toArray)(hb:Ps s.heap b ws.toArray)(hv:vs≠[])
  (h1:ws=[]->Q (.ref t) s) (h2:ws≠[]->Q (.ref s.heap.objs.size) { s with heap:=s.heap.push { cls:=.type "tuple",data:=.seq (vs++ws).toArray } })
  (hsz:vs.length+ws.length<=sizeLine):Ao (Ar prog w) A (CS .Add (.ref t) (.ref b)) Q E s:=by
 obtain⟨⟨cls,dd,data,sl⟩,ho,hc,n,hd⟩:=id ht;obtain⟨⟨cls2,dd2,data2,sl2⟩,ho2,hc2,n2,hd2⟩:=id hb;simp only at hc hd hc2 hd2;subst hc hd hc2 hd2;have e:vs.toArray++ws.toArray=(vs++ws).toArray:=by simp
 by_cases hw:ws=[]
 .exact Tn ⟨_,ho,rfl⟩ ⟨_,ho2,rfl⟩ O7 Rr Ke Jp (Jf _ _)
   (tuple_addW1 t b vs.toArray ws.toArray n n2 dd dd2 sl sl2 (by simpa using hv) (by simp[hw])) ⟨ho,ho2,h1 hw⟩
 .refine Tn ⟨_,ho,rfl⟩ ⟨_,ho2,rfl⟩ O7 Rr Ke Jp (Jf _ _)
   (tuple_addW2 t b vs.toArray ws.toArray n n2 dd dd2 sl sl2 (by simpa using hv) (by simpa using hw) (by rw[AD,AD];exact hsz)) ⟨ho,ho2,?_⟩
  rw[e];exact h2 hw
noncomputable def sIx (n d:Ai):Al Am->Ai
 |none=>d
 |some v=>if v<0 then (v+(n:Am)).toNat else min v.toNat n
theorem sIx_none (n d:Ai):sIx n d none=d:=rfl
theorem sIx_nat (n d k:Ai):sIx n d (Ab (k:Am))=min k n:=by
 show (if (k:Am)<0 then ((k:Am)+(n:Am)).toNat else min (k:Am).toNat n)=min k n
 rw[AC om,Dv]
theorem TZ (n d:Ai)(hd:d<=n)(o:Al Am):sIx n d o<=n:=by
 cases o with
 |none=>exact hd
 |some v =>
  show (if v<0 then (v+(n:Am)).toNat else min v.toNat n)<=n
  by_cases hv:v<0
  .rw[AF hv];omega
  .rw[AC hv];exact Nat.min_le_right _ _
theorem rL (v:Am)(n d:Ai):(if v<0 then max (v+(n:Am)) 0 else min v (n:Am))=((sIx n d (Ab v):Ai):Am):=by
 show (if v<0 then max (v+(n:Am)) 0 else min v (n:Am))=(((if v<0 then (v+(n:Am)).toNat else min v.toNat n):Ai):Am)
 by_cases hv:v<0
 .simp only[AF hv];omega
 .simp only[AC hv];omega
theorem cN (lo hi:Al Am)(n:Ai):Ef lo hi 1 (n:Am)=(((sIx n 0 lo:Ai):Am),((sIx n n hi:Ai):Am)):=by
 have h1:¬ ((1:Am)<0):=by omega
 unfold Ef;simp only[h1,CB];refine Prod.ext ?_ ?_
 .cases lo with
  |none=>rfl
  |some v=>exact rL v n 0
 .cases hi with
  |none=>rfl
  |some v=>exact rL v n n
theorem aZ (i j:Ai):Eg (i:Am) (j:Am) 1=j-i:=by
 unfold Eg;have h1:(1:Am)>0:=by omega
 simp only[h1,Ct,Int.ediv_one]
 split <;> omega
theorem fR {v:Ac}{o:Al Am}{Q:Al Am->Ag->Prop}(p:Nh v o)(h:Q o s):Ao (Ar prog w) A (Wl v) Q E s:=by
 cases p with
 |none=>exact Ml h
 |int i t=>exact slicePart_int h
theorem u9 {sl:Af}{vl vu:Ac}{n:Ai}{Q:Am × Am × Ai->Ag->Prop}(hs:s.heap.IsSliceOf sl vl vu .none)(pl:Nh vl lo)(pu:Nh vu hi)
  (h:Q (((sIx n 0 lo:Ai):Am),1,sIx n n hi-sIx n 0 lo) s):Ao (Ar prog w) A (Gx (.ref sl) (pure (n:Am))) Q E s:=by
 obtain⟨os,hos,hcs,hds⟩:=id hs;unfold Gx Nv;refine Ad (Ad (Cg hos hds (x:=vl) rfl (Ad (Cg hos hds (x:=vu) rfl (Ad (Cg hos hds (x:=.none) rfl (Ak ?_)))))));refine Ad (Ml ?_);show Ao _ _ (if ((1:Am) == 0)=true then _ else _) _ _ s
 rw[AC (by decide)]
 refine Ad (fR pl (Ad (fR pu (Ad (Ak ?_)))));show Ao _ _ (match Ef lo hi 1 (n:Am) with|(lo,hi)=>pure (lo,(1:Am),Eg lo hi 1)) _ _ s
 rw[cN lo hi n];show Ao _ _ (pure (((sIx n 0 lo:Ai):Am),(1:Am),Eg ((sIx n 0 lo:Ai):Am) ((sIx n n hi:Ai):Am) 1)) _ _ s;rw[aZ];exact Ak h
theorem WW (xs:Aw Ac)(i k:Ai):((Be k).filterMap λ(m:Ai)=>xs[((i:Am)+(m:Am)*1).toNat]?).toArray=((xs.toList.drop i).take k).toArray:=by
 have e:(λ(m:Ai)=>xs[((i:Am)+(m:Am)*1).toNat]?)=λm=>xs[i+m]?:=by
  funext m
  have:((i:Am)+(m:Am)*1).toNat=i+m:=by omega
  rw[this]
 rw[e];have:=pick_run xs i k;rw[List.filterMap_map] at this;have e2:((λx=>xs[x]?)∘λx=>i+x)=λm=>xs[i+m]?:=rfl;rw[e2] at this;rw[this]
theorem getItem_tuple_cut {t sl:Af}{items:Aw Ac}{vl vu:Ac}(ht:Ps s.heap t items)(hs:s.heap.IsSliceOf sl vl vu .none)(pl:Nh vl lo)(pu:Nh vu hi)
  (hw:¬ (sIx items.size 0 lo=0/\sIx items.size items.size hi=items.size))
  (h:Q (.ref s.heap.objs.size) { s with heap:=s.heap.push { cls:=.type "tuple",data:=.seq ((items.toList.drop (sIx items.size 0 lo)).take (sIx items.size items.size hi-sIx items.size 0 lo)).toArray } })
  (hsz:items.size<=sizeLine):Ao (Ar prog w) A (Km (.ref t) (.ref sl)) Q E s:=by
 have htake:sizeOk (.seq ((items.toList.drop (sIx items.size 0 lo)).take (sIx items.size items.size hi-sIx items.size 0 lo)).toArray):=by
  show ((items.toList.drop (sIx items.size 0 lo)).take (sIx items.size items.size hi-sIx items.size 0 lo)).toArray.size<=sizeLine;rw[AD,CO,Ho,A6];omega
 have hj:sIx items.size items.size hi<=items.size:=TZ _ _ (Aq _) hi;obtain⟨os,hos,hcs,hds⟩:=id hs;have hTs:s.TypeIs (.ref sl) "slice":=⟨os,hos,hcs⟩;unfold Km
 try with_reducible refine Cu ?_
 first|refine Ad (Ak ?_)|skip
 refine Ad (Nw ht.typeIs (by decide) ?_)
 refine Ad (Cj (name:=Fl "__getitem__") ht.typeIs Ca
  (Cy Ca ht.typeIs Ma ?_ (Mz _ _)))
 show Ao _ _ (IK (.ref t) >>= _) _ _ s;refine Ad (Rt ht ?_);refine Ad (IF hTs ?_);rw[AF (by decide)]
 refine Ad (u9 hs pl pu ?_);have hno:¬ ((((sIx items.size 0 lo:Ai):Am) == 0&&(1:Am) == 1&&(sIx items.size items.size hi-sIx items.size 0 lo) == items.size)=true):=by
  intro q;rw[A0,A0] at q;have q1:((sIx items.size 0 lo:Ai):Am)=0:=eq_of_beq q.1.1;have q2:sIx items.size items.size hi-sIx items.size 0 lo=items.size:=eq_of_beq q.2;exact hw ⟨by omega,by omega⟩
 show Ao _ _ (if (((sIx items.size 0 lo:Ai):Am) == 0&&(1:Am) == 1&&(sIx items.size items.size hi-sIx items.size 0 lo) == items.size)=true then _ else _) _ _ s
 rw[AC hno,WW]
 first
  |exact Ad (m:=Dc _) (Bu (Ak ⟨_,rfl,Ak h⟩) htake)
  |exact Ad (m:=Dc _) (Bu (Ad (Ak (Ak ⟨_,rfl,Ak h⟩))) htake)
  |exact Ad (Ad (m:=Dc _) (Bu (Ak (Ak ⟨_,rfl,Ak h⟩)) htake))
  |exact Ad (Ad (m:=Dc _) (Bu (Ak ⟨_,rfl,Ak h⟩) htake))
end
end _H
namespace _L
open PySem PySem.Spec PyProof.Rows
abbrev TO:=St->Hp->(Al Am->Hp->Prop)->Prop
def PO (X:Cx)(e:Al AM)(t:TO):Prop:=
 ∀ (pins:Aa (Af × AX)) (s:Ag) (σ : St) (H:Hp) (Q:Al Am->Hp->Prop),Inv X pins σ H s->t σ H Q ->
  Ao (Ar X.prog X.w) X.A (evalPart e X.env) (λu s'=>∃ o H',Inv X pins σ H' s'/\Nh u o/\Q o H') X.xe s
def GI:TO:=λ_ H Q=>Q none H
def SD (t:TE):TO:=λσ H Q=>t σ H λx H1=>∃ i,x=.int i/\Q (Ab i) H1
theorem bY {ns:Aa Am}:∀ {us:Aa Ac},qJ (ns.map V.int) us->Nx us ns:=by
 induction ns with
 |nil=>intro us r;rw[To] at r;cases r;exact .nil
 |cons n ns ih =>
  intro us r;rw[Ce] at r;cases r with
  |cons r1 r2 =>
   obtain⟨t,e⟩:=r1;subst e;exact .cons n t (ih r2)
section
variable {X:Cx}{e:AM}{te:TE}{lo hi:Al AM}{tl th:TO}{pos p2:CN}
theorem KB:PO X none GI:=by
 intro pins s σ H Q I h;rw[Ru];exact Ak ⟨none,H,I,.none,h⟩
theorem KC (h:PE X e te):PO X (Ab e) (SD te):=by
 intro pins s σ H Q I hw;rw[evalPart_some];refine thn (h pins s σ H _ I hw) λu s1 ⟨x,H1,I1,r1,q1⟩=>?_;obtain⟨i,rfl,q⟩:=q1;obtain⟨t,rfl⟩:=r1;exact⟨Ab i,H1,I1,.int i t,q⟩
def SlR (X:Cx)(r:V->Al Am->Al Am->Hp->VK->Prop):Prop:=
 ∀ (pins:Aa (Af × AX)) (s:Ag) (σ : St) (H:Hp) (x:V) (v vl vu:Ac) (lo hi:Al Am) (sl:Af) (Q:VK),Inv X pins σ H s->qK x v->s.heap.IsSliceOf sl vl vu .none->Nh vl lo->Nh vu hi->r x lo hi H Q ->
  ∃ T id,typeLookup (.type T) "__getitem__" = pure (Ab (.builtin id))/\s.TypeIs v T/\Ao (Ar X.prog X.w) X.A (Km v (.ref sl)) (EP X pins σ Q) X.xe s
theorem SlR.or {r r':V->Al Am->Al Am->Hp->VK->Prop}(h:SlR X r)(h':SlR X r'):SlR X (λx lo hi H Q=>r x lo hi H Q\/r' x lo hi H Q):=by
 intro pins s σ H x v vl vu lo hi sl Q I rx hs pl pu q;rcases q with q|q
 .exact h pins s σ H x v vl vu lo hi sl Q I rx hs pl pu q
 .exact h' pins s σ H x v vl vu lo hi sl Q I rx hs pl pu q
def tSl (r:V->Al Am->Al Am->Hp->VK->Prop)(te:TE)(tl th:TO):TE:=λσ H Q=>te σ H λx H1=>tl σ H1 λl H2=>th σ H2 λu H3=>r x l u H3 Q
theorem WU {r:V->Al Am->Al Am->Hp->VK->Prop}(hr:SlR X r)(he:PE X e te)(hl:PO X lo tl)(hu:PO X hi th):PE X (.Subscript e (.Slice lo hi none p2) pos) (tSl r te tl th):=by
 intro pins s σ H Q I h;refine Wm (thn (he pins s σ H _ I h) λv s1 ⟨x,H1,I1,r1,q1⟩=>?_);refine wpAny_Slice (thn (hl pins s1 σ H1 _ I1 q1) λvl s2 ⟨l,H2,I2,pl,q2⟩=>thn (hu pins s2 σ H2 _ I2 q2) λvu s3 ⟨u,H3,I3,pu,q3⟩=>?_);rw[Ru];refine Ak ?_;have I4:Inv X pins σ H3 { s3 with heap:=s3.heap.push { cls:=.type "slice",data:=.fields #[vl,vu,.none] } }:=I3.kept (t':=s3.toks) λb ob q=>Ah _ q
 obtain⟨T,id,hT,ht,hg⟩:=hr pins { s3 with heap:=s3.heap.push { cls:=.type "slice",data:=.fields #[vl,vu,.none] } } σ H3 x v vl vu l u s3.heap.objs.size Q I4 r1 (Sy ..) pl pu q3
 show Ao (Ar X.prog X.w) X.A (Rv e (.Slice lo hi none p2) v (.ref s3.heap.objs.size)) (EP X pins σ Q) X.xe { s3 with heap:=s3.heap.push { cls:=.type "slice",data:=.fields #[vl,vu,.none] } }
 exact tail_any (ops:=[.ref s3.heap.objs.size,v]) ht hT hg (by with_unfolding_all rfl)
noncomputable def gH (xs:Aa V)(lo hi:Al Am):Aa V:=(xs.drop (_H.sIx xs.length 0 lo)).take (_H.sIx xs.length xs.length hi-_H.sIx xs.length 0 lo)
theorem pS (xs:Aa V)(lo hi:Al Am):(gH xs lo hi).length<=xs.length:=by
 unfold gH;rw[CO,Ho];omega
def E4 (K:Aj):V->Al Am->Al Am->Hp->VK->Prop:=λx lo hi H Q=>∃ a xs,x=.ref a/\SqT K H a xs /\
 ¬ (_H.sIx xs.length 0 lo=0/\_H.sIx xs.length xs.length hi=xs.length)/\∀ p,H p=none->Q (.ref p) (upd H p (.tup (gH xs lo hi)))
theorem N1:SlR X (E4 X.K):=by
 intro pins s σ H x v vl vu lo hi sl Q I rx hs pl pu h;obtain⟨a,xs,rfl,hx,hw,q⟩:=h;cases rx;obtain⟨its,r,ht,hz⟩:=I.tuple hx;have hlen:its.toArray.size=xs.length:=by rw[AD];exact r.length.symm
 refine⟨"tuple",_,Ca.lookup,ht.typeIs,?_⟩;refine _H.getItem_tuple_cut ht hs pl pu (by rw[hlen];exact hw) ?_ (by rw[hlen];exact hz)
 rw[hlen];refine⟨.ref s.heap.objs.size,_,I.laid (t':=s.toks) (o:=.tup (gH xs lo hi)) (λb ob q=>Ah _ q) (Aq _) ?_,rfl,q _ (I.hok.fresh (Aq _))⟩;exact⟨Bp (pS xs lo hi) hz,_,(r.drop (_H.sIx xs.length 0 lo)).take (_H.sIx xs.length xs.length hi-_H.sIx xs.length 0 lo),Pv _ _⟩
end
end _L
namespace _L
open PySem PySem.Spec PyProof.Rows
variable {pins:Aa (Af × AX)}{s:Ag}{H:Hp}{σ:St}
noncomputable def ixN (n:Ai)(i:Am):Al Ai:=if 0<=i then (if i<n then Ab i.toNat else none) else if -(n:Am)<=i then Ab (i+n).toNat else none
noncomputable def atI {α:Type}(xs:Aa α)(i:Am):Al α:=(ixN xs.length i).bind λj=>xs[j]?
theorem eC {n:Ai}{i:Am}{j:Ai}(h:ixN n i=Ab j):seqIndex? i n=Ab j/\j<n /\ -(n:Am)<=i/\i<n:=by
 unfold ixN at h;by_cases h0:0<=i
 .rw[AF h0] at h
  by_cases h1:i<n
  .rw[AF h1] at h
   have e:i.toNat=j:=Bh h;exact⟨by rw[Vc h0 h1,e],by omega,by omega,h1⟩
  .rw[AC h1] at h;cases h
 .rw[AC h0] at h
  by_cases h1 : -(n:Am)<=i
  .rw[AF h1] at h
   have e:(i+n).toNat=j:=Bh h;exact⟨by rw[seqIndex_neg om h1,e],by omega,h1,by omega⟩
  .rw[AC h1] at h;cases h
theorem rF {α:Type}{xs:Aa α}{i:Am}{v:α}(h:atI xs i=Ab v):∃ j,seqIndex? i xs.length=Ab j/\xs[j]? = Ab v/\j<xs.length /\ -(xs.length:Am)<=i/\i<xs.length:=by
 unfold atI at h;cases e:ixN xs.length i with
 |none=>rw[e] at h;cases h
 |some j =>
  rw[e] at h;obtain⟨h1,h2,h3,h4⟩:=eC e;exact⟨j,h1,h,h2,h3,h4⟩
def fX (b:AM):Prop:=∀ o i,subscripted b false o i=operate [o,i] (Km o i)
def IxR (X:Cx)(r:R2):Prop:=
 ∀ (value slice:AM) (pins:Aa (Af × AX)) (s:Ag) (σ : St) (H:Hp) (x y:V) (v u:Ac) (Q:VK),Inv X pins σ H s->qK x v->qK y u->r x y H Q ->
  subscripted slice false v u=operate [v,u] (Km v u)->Ao (Ar X.prog X.w) X.A (Rv value slice v u) (EP X pins σ Q) X.xe s
def MtR (X:Cx)(id:CF)(r:V->Aa V->Hp->VK->Prop):Prop:=
 ∀ (pins:Aa (Af × AX)) (s:Ag) (σ : St) (H:Hp) (x:V) (xs:Aa V) (v:Ac) (us:Aa Ac) (Q:VK),Inv X pins σ H s->qK x v->qJ xs us->r x xs H Q ->
  Ao (Ar X.prog X.w) X.A (call (.builtin id) (v::us)) (EP X pins σ Q) X.xe s
section
variable {X:Cx}{a b:AM}{ta tb:TE}{pos:CN}
theorem IxR.or {r r':R2}(h:IxR X r)(h':IxR X r'):IxR X (λx y H Q=>r x y H Q\/r' x y H Q):=by
 intro value slice pins s σ H x y v u Q I rx ry q hs;rcases q with q|q
 .exact h value slice pins s σ H x y v u Q I rx ry q hs
 .exact h' value slice pins s σ H x y v u Q I rx ry q hs
theorem MtR.or {id:CF}{r r':V->Aa V->Hp->VK->Prop}(h:MtR X id r)(h':MtR X id r'):MtR X id (λx xs H Q=>r x xs H Q\/r' x xs H Q):=by
 intro pins s σ H x xs v us Q I rx rs q;rcases q with q|q
 .exact h pins s σ H x xs v us Q I rx rs q
 .exact h' pins s σ H x xs v us Q I rx rs q
theorem DJ {r:R2}(hr:IxR X r)(ha:PE X a ta)(hb:PE X b tb)(hs:fX b):PE X (.Subscript a b pos) (tOp r ta tb):=by
 intro pins s σ H Q I h;exact Wm (R8 ha hb I h λv u s2 x y H2 I2 rx ry q=>hr a b pins s2 σ H2 x y v u Q I2 rx ry q (hs _ _))
def RZ (K:Aj):R2:=λx y H Q=>∃ p xs i v,x=.ref p/\y=.int i/\SqL K H p xs/\atI xs i=Ab v/\Q v H
def E0 (K:Aj):R2:=λx y H Q=>∃ p xs i v,x=.ref p/\y=.int i/\SqT K H p xs/\atI xs i=Ab v/\Q v H
theorem eD:IxR X (RZ X.K):=by
 intro value slice pins s σ H x y v u Q I rx ry h hs;obtain⟨p,xs,i,z,rfl,rfl,hq,he,q⟩:=h;cases rx;obtain⟨t,rfl⟩:=ry;obtain⟨its,r,pl,hz⟩:=I.list hq;obtain⟨j,h1,h2,h3,h4,h5⟩:=rF he;obtain⟨w,ew,rw'⟩:=r.get h2;have hl:=r.length;have hn:=gS;have fin:EP X pins σ Q w s:=⟨z,H,I,rw',q⟩;by_cases h0:0<=i
 .have hj:i.toNat=j:=by
   rw[Vc h0 h5] at h1;exact Bh h1
  exact item_listR pl.isList h0 om (by rw[hj];simpa using ew) fin hs
 .have hj:(i+(its.toArray.size:Am)).toNat=j:=by
   rw[seqIndex_neg om h4] at h1;rw[AD,<- hl];exact Bh h1
  exact OY (x:=w) pl.isList.typeIs Uf.lookup
   (wpAny_getItem_list_neg (Q:=λr s'=>r=w/\EP X pins σ Q r s') pl.isList om (by rw[AD] <;> omega) om (by rw[hj];simpa using ew) ⟨rfl,fin⟩) hs
theorem FD:IxR X (E0 X.K):=by
 intro value slice pins s σ H x y v u Q I rx ry h hs;obtain⟨p,xs,i,z,rfl,rfl,hq,he,q⟩:=h;cases rx;obtain⟨t,rfl⟩:=ry;obtain⟨its,r,pl,hz⟩:=I.tuple hq;obtain⟨j,h1,h2,h3,h4,h5⟩:=rF he;obtain⟨w,ew,rw'⟩:=r.get h2;have hl:=r.length;have hn:=gS;have fin:EP X pins σ Q w s:=⟨z,H,I,rw',q⟩;exact OY (x:=w) pl.typeIs slot_tuple_getitem.lookup
  (getItem_tuple (j:=j) (Q:=λr s'=>r=w/\EP X pins σ Q r s') pl om om (by rw[AD,<- hl];exact h1) (by simpa using ew) ⟨rfl,fin⟩) hs
theorem aR (its:Aa Ac)(n j:Ai)(u:Ac):Dn (·.setIfInBounds j u) { cls:=.type "list",data:=.seq its.toArray n } = { cls:=.type "list",data:=.seq (its.set j u).toArray n }:=by
 simp[Dn]
theorem Inv.lst {p:Af}{xs:Aa V}(I:Inv X pins σ H s)(h:H p=Ab (.lst xs)) :
  ∃ (its:Aa Ac) (n:Ai),qJ xs its/\s.heap.get? p=Ab { cls:=.type "list",data:=.seq its.toArray n } /\ xs.length<=sizeLine:=by
 obtain⟨z,its,n,r,e⟩:=I.hok p _ h;exact⟨its,n,r,e,z⟩
theorem Inv.lstUpd {p:Af}{xs ys:Aa V}{its its':Aa Ac}{n n':Ai}{f:AX->AX}(I:Inv X pins σ H s)(h:H p=Ab (.lst xs))
  (ho:s.heap.get? p=Ab { cls:=.type "list",data:=.seq its.toArray n }) (hf:f { cls:=.type "list",data:=.seq its.toArray n } = { cls:=.type "list",data:=.seq its'.toArray n' }) (r:qJ ys its') (hz:ys.length<=sizeLine) (t:Ai) :
  Inv X pins σ (upd H p (.lst ys)) { s with heap:=s.heap.update p f,toks:=t }:=by
 have e:(s.heap.update p f).get? p=Ab { cls:=.type "list",data:=.seq its'.toArray n' }:=by
  rw[Dw f ho (by rw[hf] <;> rfl),hf]
 refine I.write (x:=p) (e:=p) (by rw[h];trivial) (.inl rfl) (λb u hb q=>(Cf _ _ (Ed hb)).trans q) ⟨_,e⟩ ?_
 exact⟨hz,its',n',r,e⟩
def DW:V->V->V->Hp->(Hp->Prop)->Prop:=λo i v H Q=>∃ p xs k j,o=.ref p/\i=.int k/\H p=Ab (.lst xs)/\ixN xs.length k=Ab j/\Q (upd H p (.lst (xs.set j v)))
theorem YH:lC X DW:=by
 intro pins s σ H o i v ov iv u Q I ro ri rv h;obtain⟨p,xs,k,j,rfl,rfl,hp,hj,q⟩:=h;cases ro;obtain⟨t,rfl⟩:=ri;obtain⟨its,n,r,ho,hz⟩:=I.lst hp;obtain⟨h1,h2,h3,h4⟩:=eC hj;have hl:=r.length;have hn:=gS;have I':Inv X pins σ (upd H p (.lst (xs.set j v))) { s with heap:=s.heap.update p (Dn (·.setIfInBounds j u)) }:=
  I.lstUpd hp ho (aR its n j u) (r.set rv j) (by rw[Vw];exact hz) s.toks
 by_cases h0:0<=k
 .have hk:k.toNat=j:=by
   rw[Vc h0 h4] at h1;exact Bh h1
  exact PySem.W.ki_setAt ho h0 om (by rw[AD,<- hl];exact h4) (by rw[hk];exact⟨_,I',q⟩)
 .have hk:(k+(its.toArray.size:Am)).toNat=j:=by
   rw[seqIndex_neg om h3] at h1;rw[AD,<- hl];exact Bh h1
  exact PySem.W.ki_setBack ho om (by rw[AD,<- hl];exact h3) om (by rw[hk];exact⟨_,I',q⟩)
theorem sI (lo hi:Al Am)(n:Ai):(IX lo hi none n).1=((_H.sIx n 0 lo:Ai):Am)/\(IX lo hi none n).2.1=((_H.sIx n n hi:Ai):Am)/\(IX lo hi none n).2.2=1:=by
 refine⟨?_,?_,rfl⟩
 .cases lo with
  |none=>simp[IX,_H.sIx]
  |some i =>
   simp only[IX,_H.sIx,Vd,show (1:Am)>0 by decide,Ct]
   by_cases h:i<0
   .simp only[h,Ct] <;> omega
   .simp only[h,CB] <;> omega
 .cases hi with
  |none=>simp[IX,_H.sIx]
  |some i =>
   simp only[IX,_H.sIx,Vd,show (1:Am)>0 by decide,Ct]
   by_cases h:i<0
   .simp only[h,Ct] <;> omega
   .simp only[h,CB] <;> omega
theorem nP (its:Aa Ac)(lo hi:Al Am):slicePick its.toArray lo hi none=((its.drop (_H.sIx its.length 0 lo)).take (_H.sIx its.length its.length hi-_H.sIx its.length 0 lo)).toArray:=by
 obtain⟨h1,h2,h3⟩:=sI lo hi its.toArray.size;unfold slicePick;rw[h1,h2,h3];simp only[sliceRange_one,pick_run,AD] <;> rfl
def E2 (K:Aj):V->Al Am->Al Am->Hp->VK->Prop:=λx lo hi H Q=>∃ a xs,x=.ref a/\SqL K H a xs/\∀ p,H p=none->Q (.ref p) (upd H p (.lst (gH xs lo hi)))
theorem hW:SlR X (E2 X.K):=by
 intro pins s σ H x v vl vu lo hi sl Q I rx hs pl pu h;obtain⟨a,xs,rfl,hx,q⟩:=h;cases rx;obtain⟨its,r,ht,hz⟩:=I.list hx;have hlen:=r.length;refine⟨"list",_,Uf.lookup,ht.isList.typeIs,?_⟩;refine wpAny_getItem_list_slice ht.isList hs pl pu .none (by simp) ?_ (by rw[AD] <;> omega)
 rw[nP,<- hlen];refine⟨.ref s.heap.objs.size,_,I.laid (t':=s.toks) (o:=.lst (gH xs lo hi)) (λb ob q=>Ah _ q) (Aq _) ?_,rfl,q _ (I.hok.fresh (Aq _))⟩;exact⟨Bp (pS xs lo hi) hz,_,0,(r.drop (_H.sIx xs.length 0 lo)).take (_H.sIx xs.length xs.length hi-_H.sIx xs.length 0 lo),A7 _ rfl⟩
theorem uE.or {f:Ac}{r r':Aa V->Hp->VK->Prop}(h:uE X f r)(h':uE X f r'):uE X f (λxs H Q=>r xs H Q\/r' xs H Q):=by
 intro pins s σ H xs us Q I rs q;rcases q with q|q
 .exact h pins s σ H xs us Q I rs q
 .exact h' pins s σ H xs us Q I rs q
theorem gD:uE X (.type "list") (λxs H Q=>∃ p ys,xs=[.ref p]/\(SqL X.K H p ys\/SqT X.K H p ys)/\∀ l,H l=none->Q (.ref l) (upd H l (.lst ys))):=by
 intro pins s σ H xs us Q I r h;obtain⟨p,ys,rfl,hq,q⟩:=h;obtain⟨u,rfl,rx⟩:=vI r;cases rx;have fin:∀ (its:Aa Ac),qJ ys its->ys.length<=sizeLine->∀ (h':AB) (c':Ai),(∀ b o',s.heap.get? b=Ab o'->h'.get? b=Ab o') ->
   h'.get? s.heap.objs.size=Ab { cls:=.type "list",dict:=none,data:=.seq its.toArray c',slots:=#[] } -> EP X pins σ Q (.ref s.heap.objs.size) { s with heap:=h' }:=λits r' hz h' c' kp e =>
  ⟨.ref s.heap.objs.size,_,I.laid (t':=s.toks) kp (Aq _) (show qZ X.prog X.w _ h' _ (.lst ys) from⟨hz,its,c',r',e⟩),rfl,q _ (I.hok.fresh (Aq _))⟩
 rcases hq with hq|hq
 .obtain⟨its,r',pl,hz⟩:=I.list hq
  have hlen:=r'.length;obtain⟨o,ho,hc,n,hd⟩:=pl.isList;exact call_list_seq p (.inl rfl) ho hc hd (λh' c' kp e=>fin its r' hz h' c' kp e) (by simp only[AD] <;> omega)
 .obtain⟨its,r',pl,hz⟩:=I.tuple hq
  have hlen:=r'.length;obtain⟨o,ho,hc,n,hd⟩:=pl;exact call_list_seq p (.inr rfl) ho hc hd (λh' c' kp e=>fin its r' hz h' c' kp e) (by simp only[AD] <;> omega)
theorem kW:uE X (.type "tuple") (λxs H Q=>∃ p ys,xs=[.ref p]/\((SqL X.K H p ys/\∀ l,H l=none->Q (.ref l) (upd H l (.tup ys)))\/(SqT X.K H p ys/\Q (.ref p) H))):=by
 intro pins s σ H xs us Q I r h;obtain⟨p,ys,rfl,h⟩:=h;obtain⟨u,rfl,rx⟩:=vI r;cases rx;rcases h with⟨hq,q⟩|⟨hq,q⟩
 .obtain⟨its,r',pl,hz⟩:=I.list hq
  have hlen:=r'.length;refine call_tuple_list pl.isList (λh' kp=>?_) (by simp only[AD] <;> omega)
  have I1:Inv X pins σ H { s with heap:=h' }:=I.kept (t':=s.toks) kp
  have I2:Inv X pins σ (upd H h'.objs.size (.tup ys)) { s with heap:=h'.push { cls:=.type "tuple",data:=.seq its.toArray } }:=
   I1.laid (t':=s.toks) (λb o e=>Ah _ e) (Aq _) (show qZ X.prog X.w _ _ _ (.tup ys) from⟨hz,its,r',Pv _ _⟩)
  exact⟨.ref h'.objs.size,_,I2,rfl,q _ (I1.hok.fresh (Aq _))⟩
 .obtain⟨its,r',pl,hz⟩:=I.tuple hq
  exact call_tuple_same pl ⟨.ref p,H,I,rfl,q⟩
def tyV (K:Aj)(T:CF)(x:V)(H:Hp):Prop:=match x with
 |.str _=>T = "str"
 |.int _=>T = "int"
 |.ref p=>(T = "list" /\ ∃ xs,SqL K H p xs)\/(T = "tuple" /\ ∃ o,K.lookup p=Ab o/\o.cls=.type "tuple" /\ o.dict=none) \/
   (T = "dict" /\ ((∃ kvs,H p=Ab (.dK kvs))\/∃ kvs,H p=Ab (.dT kvs)))\/(T = "set" /\ ∃ S n,H p=Ab (.set S n))
 |_=>CP
theorem N8 {T:CF}{x:V}{v:Ac}(I:Inv X pins σ H s)(r:qK x v)(ty:tyV X.K T x H) :
  s.TypeIs v T/\∀ a,v=.ref a->∃ ob,s.heap.get? a=Ab ob/\ob.dict=none:=by
 cases x with
 |str z =>
  obtain⟨t,rfl⟩:=r;cases (show T = "str" from ty)
  exact⟨typeIs_str s z t,λ_ e=>nomatch e⟩
 |int i =>
  obtain⟨t,rfl⟩:=r;cases (show T = "int" from ty)
  exact⟨Wn s i t,λ_ e=>nomatch e⟩
 |ref p =>
  cases r;rcases ty with⟨rfl,xs,hq⟩|⟨rfl,o,hk,hc,hd⟩|⟨rfl,hk⟩|⟨rfl,S,n,hk⟩
  .obtain⟨its,_,pl,_⟩:=I.list hq
   refine⟨pl.isList.typeIs,λa e=>?_⟩;cases e;obtain⟨o,n,e,c,hd,_⟩:=pl;exact⟨o,e,hd⟩
  .refine⟨⟨o,I.kIn p o hk,hc⟩,λa e=>?_⟩
   cases e;exact⟨o,I.kIn _ o hk,hd⟩
  .have z:∃ o,s.heap.get? p=Ab o/\o.ExactDict:=by
    rcases hk with⟨kvs,hk⟩|⟨kvs,hk⟩
    .obtain⟨_,_,_,_,o,_,_,e,ex,_⟩:=I.hok p _ hk
     exact⟨o,e,ex⟩
    .obtain⟨_,_,_,_,o,_,_,e,ex,_⟩:=I.hok p _ hk
     exact⟨o,e,ex⟩
   obtain⟨o,e,ex⟩:=z;refine⟨⟨o,e,ex.1⟩,λa e2=>?_⟩;cases e2;exact⟨o,e,ex.2.1⟩
  .obtain⟨o,_,_,_,e,ex,_⟩:=I.hok p _ hk
   refine⟨⟨o,e,ex.1⟩,λa e2=>?_⟩;cases e2;exact⟨o,e,ex.2.1⟩
 |_=>exact An ty
variable {o e:AM}{es:Aa AM}{to:TE}{t:TA}{name:As}{apos cpos:CN}{T id:CF}{r:V->Aa V->Hp->VK->Prop}
/- xs.append(e),list.index on a module's tuple .. are MtR facts of 06m -/
end
end _L
namespace _L
open PySem PySem.Spec PyProof.Rows
variable {us:Aa Ac}
def MtM (X:Cx)(id:CF)(r:V->Aa V->Hp->VK->Prop):Prop:=
 ∀ (pins:Aa (Af × AX)) (s:Ag) (σ : St) (H:Hp) (x:V) (xs:Aa V) (v:Ac) (us:Aa Ac) (Q:VK),Inv X pins σ H s->qK x v->qJ xs us->r x xs H Q ->
  Ao (Ar X.prog X.w) X.A (call (.builtin id) (v::us)) (EP X pins σ Q) X.xe s
theorem qJ.one {x:V}(h:qJ [x] us):∃ u,us=[u]/\qK x u:=vI h
theorem qJ.two {x y:V}(h:qJ [x,y] us):∃ u v,us=[u,v]/\qK x u/\qK y v:=fT h
theorem qJ.rep {xs:Aa V}(h:qJ xs us):∀ k:Ai,qJ (Br k xs).flatten (Br k us).flatten
 |0=>.nil
 |k+1=>by
  rw[Eh,Eh,Gb,Gb];exact qJ.append h (qJ.rep h k)
theorem tW (its:Aa Ac):∀ (k:Ai) (acc:Aa Ac),
  Wp (λx1 x2=>x1++x2) acc.toArray (Br k its.toArray)=(acc++(Br k its).flatten).toArray
 |0,acc=>by simp
 |k+1,acc=>by
  have e:acc.toArray++its.toArray=(acc++its).toArray:=by simp
  have e2:(acc++its)++(Br k its).flatten=acc++(Br (k+1) its).flatten:=by
   rw[Eh,Gb,Bc]
  rw[<- e2,<- tW its k (acc++its),<- e,Eh,IY]
section
variable {X:Cx}{pins:Aa (Af × AX)}{σ : St}{H:Hp}{s:Ag}{l b:Af}{xs ys zs:Aa V}
theorem Inv.lset {its its':Aa Ac}{n:Ai}{f:Aw Ac->Aw Ac}{t':Ai}(I:Inv X pins σ H s)(hH:H l=Ab (.lst xs))
  (e:s.heap.get? l=Ab { cls:=.type "list",data:=.seq its.toArray n }) (hf:f its.toArray=its'.toArray) (hv:qJ ys its') (hz:ys.length<=sizeLine) :
  Inv X pins σ (upd H l (.lst ys)) { s with heap:=s.heap.update l (Dn f),toks:=t' }:=by
 have q:=Ve e f;rw[hf] at q;refine I.write (x:=l) (e:=l) (by rw[hH];exact trivial) (.inl rfl) (λb' u hb hu=>(Cf s.heap (Dn f) (Ed hb)).trans hu) ⟨_,q⟩ ?_
 exact⟨hz,its',_,hv,q⟩
theorem Inv.lstM (I:Inv X pins σ H s)(hH:H l=Ab (.lst xs)):xs.length<=sizeLine/\∃ (its:Aa Ac) (n:Ai),qJ xs its/\xs.length=its.length/\s.heap.get? l=Ab { cls:=.type "list",data:=.seq its.toArray n }:=by
 obtain⟨z,its,n,r,e⟩:=I.hok l _ hH;exact⟨z,its,n,r,r.length,e⟩
theorem WM {n:Ai}(h:n<=sizeLine):Jg n=false:=by
 unfold Jg;exact Cc om
end
section
variable {X:Cx}
def KW:V->Aa V->Hp->VK->Prop:=λx vs H Q=>∃ l xs y,x=.ref l/\vs=[y]/\H l=Ab (.lst xs)/\xs.length<sizeLine/\Q .non (upd H l (.lst (xs++[y])))
theorem Q3:MtM X "list.append" KW:=by
 intro pins s σ H x vs v us Q I rx rv h;obtain⟨l,xs,y,rfl,rfl,hH,hz,q⟩:=h;cases rx;obtain⟨u,rfl,ru⟩:=rv.one;obtain⟨z,its,n,r,hl,e⟩:=I.lstM hH;refine Mb Sz ⟨_,e,rfl⟩ Rw (Rc _ _) (Ug l its.toArray n u (by rw[AD];omega)) ⟨e,?_⟩
 refine⟨.non,_,I.lset (its':=its++[u]) hH e (by simp) (r.append (.cons ru .nil)) ?_,rfl,q⟩
 rw[AT,Io];omega
theorem JL {α:Type}(xs:Aa α)(k:Ai):(Br k xs).flatten.length=k*xs.length:=by
 induction k with
 |zero=>simp
 |succ k ih=>rw[Eh,Gb,AT,ih,Yb,Lw]
end
end _L
namespace _L
open PySem PySem.Spec PyProof.Rows
variable {xs:Aa (Aa Key × Af × Ac)}{kvs:Aa (Aa Key × V)}{H':Hp}
section
variable {κ : Type}[Pr κ]
noncomputable def uD (kvs:Aa (κ × V))(k:κ):Al V:=(kvs.find? λkv=>decide (kv.1=k)).map (·.2)
noncomputable def yQ (kvs:Aa (κ × V))(k:κ)(v:V):Aa (κ × V):=
 if (kvs.any λkv=>decide (kv.1=k))=true then kvs.map (λkv=>if kv.1=k then (kv.1,v) else kv) else kvs++[(k,v)]
theorem sS {p:κ × V}{r:Aa (κ × V)}{k:κ}(e:p.1=k):uD (p::r) k=Ab p.2:=by simp[uD,Ln,e]
theorem sR {p:κ × V}{r:Aa (κ × V)}{k:κ}(e:¬ p.1=k):uD (p::r) k=uD r k:=by simp[uD,Ln,e]
theorem sQ (k:κ):∀ kvs:Aa (κ × V),(kvs.any λkv=>decide (kv.1=k))=(uD kvs k).isSome
 |[]=>rfl
 |p::r=>by
  rw[Hz];by_cases e:p.1=k
  .simp only[sS e,Bm e,Yc,Ta]
  .rw[sR e,Cc e,Bool.false_or];exact sQ k r
theorem pT (kvs:Aa (κ × V))(k:κ)(v:V):(yQ kvs k v).length<=kvs.length+1:=by
 unfold yQ
 split
 .rw[A4];omega
 .rw[AT,AO,Dr];omega
theorem gB.isSome_eq {o:Al V}{u:Al Ac}(r:gB o u):o.isSome=u.isSome:=by
 cases o with
 |none=>cases u with
  |none=>rfl
  |some _=>exact(show CP from r).elim
 |some _=>cases u with
  |none=>exact(show CP from r).elim
  |some _=>rfl
theorem gB.getD {o:Al V}{u:Al Ac}{d:V}{d':Ac}(r:gB o u)(rd:qK d d'):qK (o.getD d) (u.getD d'):=by
 cases o with
 |none=>cases u with
  |none=>exact rd
  |some _=>exact(show CP from r).elim
 |some _=>cases u with
  |none=>exact(show CP from r).elim
  |some _=>exact r
theorem KV.any {kvs:Aa (κ × V)}{vs:Aa (κ × Ac)}(r:KV kvs vs)(k:κ):(kvs.any λkv=>decide (kv.1=k))=vs.any λkv=>decide (kv.1=k):=by
 unfold KV at r
 induction r with
 |nil=>rfl
 |cons h t ih=>rw[Hz,Hz,ih,h.1]
theorem KV.repl {kvs:Aa (κ × V)}{vs:Aa (κ × Ac)}(r:KV kvs vs)(k:κ){y:V}{u:Ac}(ry:qK y u) :
  KV (kvs.map λkv=>if kv.1=k then (kv.1,y) else kv) (vs.map λkv=>if kv.1=k then (kv.1,u) else kv):=by
 unfold KV at r ⊢
 induction r with
 |nil=>exact .nil
 |@cons p q ps qs h t ih =>
  rw[Ce,Ce];refine .cons ?_ ih;obtain⟨h1,h2⟩:=h;by_cases e:p.1=k
  .rw[AF e,AF (h1.symm.trans e)];exact⟨h1,ry⟩
  .rw[AC e,AC (λz=>e (h1.trans z))];exact⟨h1,h2⟩
theorem KV.put {kvs:Aa (κ × V)}{vs:Aa (κ × Ac)}(r:KV kvs vs)(k:κ){y:V}{u:Ac}(ry:qK y u):KV (yQ kvs k y) (stored vs k u):=by
 unfold yQ stored;rw[r.any k];by_cases e:(vs.any λkv=>decide (kv.1=k))=true
 .rw[AF e,AF e];exact r.repl k ry
 .rw[AC e,AC e];exact Paired.snoc r ⟨rfl,ry⟩
theorem KV.length {kvs:Aa (κ × V)}{vs:Aa (κ × Ac)}(r:KV kvs vs):kvs.length=vs.length:=Paired.length r
end
theorem nZ {P:A5}{w:AL}{k:Key}{u:Ac}(r:qK (kV k) u):(x9 P w).is k u=true:=by
 cases k with
 |inl i=>obtain⟨t,e⟩:=(show ∃ t,u=Hg i t from r);subst e;exact r0 P w i t
 |inr x=>obtain⟨t,e⟩:=(show ∃ t,u=Pq x t from r);subst e;exact r8 P w x t
theorem n8 {P:A5}{w:AL}:∀ {ks:Aa Key} {us:Aa Ac},qJ (ks.map kV) us->ItemsAre (x9 P w) ks us
 |[],_,r=>by rw[To] at r;cases r;exact .nil
 |k::ks,_,r=>by
  rw[Ce] at r;cases r with
  |cons h t=>exact .cons (nZ h) (n8 t)
abbrev KT (H:Hp):Aa (Aa Key × V)->Aa (Aa Key × Af × Ac)->Prop:=Paired λp q=>p.1=q.1/\H q.2.1=Ab (.tup (p.1.map kV))/\qK p.2 q.2.2
theorem KT.val {H:Hp}(r:KT H kvs xs)(k:Aa Key):gB (uD kvs k) ((Uh xs k).map (·.2)):=by
 induction r with
 |nil=>exact Gk
 |@cons p q ps qs h t ih =>
  obtain⟨h1,_,h2⟩:=h;by_cases e:p.1=k
  .have e':q.1=k:=h1.symm.trans e
   have b:Uh (q::qs) k=Ab q.2:=by simp[Uh,Ln,e']
   rw[sS e,b];exact h2
  .have e':¬ q.1=k:=λz=>e (h1.trans z)
   have b:Uh (q::qs) k=Uh qs k:=by simp[Uh,Ln,e']
   rw[sR e,b];exact ih
theorem KT.repl {H:Hp}(r:KT H kvs xs)(k:Aa Key){y:V}{u:Ac}(ry:qK y u) :
  KT H (kvs.map λkv=>if kv.1=k then (kv.1,y) else kv) (xs.map (putAt k u)):=by
 induction r with
 |nil=>exact .nil
 |@cons p q ps qs h t ih =>
  rw[Ce,Ce];refine .cons ?_ ih;obtain⟨h1,h2,h3⟩:=h;unfold putAt;by_cases e:p.1=k
  .rw[AF e,AF (h1.symm.trans e)];exact⟨h1,h2,ry⟩
  .rw[AC e,AC (λz=>e (h1.trans z))];exact⟨h1,h2,h3⟩
theorem KT.put {H:Hp}(r:KT H kvs xs)(k:Aa Key){b:Af}{y:V}{u:Ac}(hb:H b=Ab (.tup (k.map kV)))(ry:qK y u) :
  KT H (yQ kvs k y) (storedH xs k b u):=by
 have e:(kvs.any λkv=>decide (kv.1=k))=(Uh xs k).isSome:=by
  rw[sQ,(r.val k).isSome_eq,Option.isSome_map]
 unfold yQ storedH;rw[e];by_cases q:(Uh xs k).isSome=true
 .rw[AF q,AF q];exact r.repl k ry
 .rw[AC q,AC q];exact Paired.snoc r ⟨rfl,hb,ry⟩
theorem KT.keeps {H:Hp}(r:KT H kvs xs)(ht:∀ b ys,H b=Ab (.tup ys)->H' b=Ab (.tup ys)):KT H' kvs xs:=
 Paired.mapP r λ_ _ z=>⟨z.1,ht _ _ z.2.1,z.2.2⟩
section
variable {P:A5}{w:AL}{H:Hp}{h:AB}{a:Af}
theorem VI {u:HO}(ok:HOk P w H h)(e:Rd H a u):qZ P w H h a u:=e.ok ok
theorem L3 {kvs:Aa (Key × V)}(ok:HOk P w H h)(e:Rd H a (.dK kvs)):kvs.length<=sizeLine/\(a == Gi)=false/\∃ vs,KV kvs vs/\h.DictOf (x9 P w) a vs:=
 show qZ P w H h a (.dK kvs) from VI ok e
theorem L0 {kvs:Aa (Key × V)}(ok:HOk P w H h)(e:H a=Ab (.dK kvs)):kvs.length<=sizeLine/\(a == Gi)=false/\∃ vs,KV kvs vs/\h.DictOf (x9 P w) a vs:=L3 ok (.inl e)
theorem oR {ks:Aa Key}(ok:HOk P w H h)(e:H a=Ab (.tup (ks.map kV))):(Pu (x9 P w)).is h ks a:=by
 obtain⟨_,its,r,o,h1,h2,n,h3⟩:=(show qZ P w H h a (.tup (ks.map kV)) from ok a _ e)
 exact⟨o,its.toArray,n,h1,h2,h3,by simpa using n8 r⟩
theorem L6 (ok:HOk P w H h)(e:Rd H a (.dT kvs)):kvs.length<=sizeLine/\(a == Gi)=false /\
  ∃ xs,KT H kvs xs/\h.DictOfH (Pu (x9 P w)) a xs:=by
 obtain⟨z,y,xs,r,o,es,ep,h1,h2,h3,h4,h5⟩:=(show qZ P w H h a (.dT kvs) from VI ok e)
 refine⟨z,y,xs,r,o,es,ep,h1,h2,h3,h4,λx hx=>?_,h5⟩;have all:∀ {l:Aa (Aa Key × V)} {m:Aa (Aa Key × Af × Ac)},KT H l m->∀ x∈m,(Pu (x9 P w)).is h x.1 x.2.1:=by
  intro l m q
  induction q with
  |nil=>intro x hx;exact nomatch hx
  |@cons p q ps qs hq t ih =>
   intro x hx;rcases Av.mp hx with e|hx
   .subst e
    exact oR ok (by rw[<- hq.1];exact hq.2.1)
   .exact ih x hx
 exact all r x hx
theorem L5 (ok:HOk P w H h)(e:H a=Ab (.dT kvs)):kvs.length<=sizeLine/\(a == Gi)=false /\
  ∃ xs,KT H kvs xs/\h.DictOfH (Pu (x9 P w)) a xs:=L6 ok (.inl e)
end
def cH (H:Hp)(a:Af)(y:V)(r:Al V):Prop:=
 (∃ kvs k,Rd H a (.dK kvs)/\y=kV k/\r=uD kvs k)\/∃ kvs k b,Rd H a (.dT kvs)/\y=.ref b/\H b=Ab (.tup (k.map kV))/\r=uD kvs k
def fV (H:Hp)(a:Af)(y v:V)(H':Hp):Prop:=
 (∃ kvs k,H a=Ab (.dK kvs)/\y=kV k/\kvs.length<sizeLine/\H'=upd H a (.dK (yQ kvs k v))) \/
 ∃ kvs k b,H a=Ab (.dT kvs)/\y=.ref b/\H b=Ab (.tup (k.map kV))/\kvs.length<sizeLine/\H'=upd H a (.dT (yQ kvs k v))
theorem cH.k {H:Hp}{a:Af}{kvs:Aa (Key × V)}{k:Key}(e:H a=Ab (.dK kvs)):cH H a (kV k) (uD kvs k):=.inl ⟨kvs,k,.inl e,rfl,rfl⟩
theorem cH.t {H:Hp}{a b:Af}{k:Aa Key}(e:H a=Ab (.dT kvs))(eb:H b=Ab (.tup (k.map kV))):cH H a (.ref b) (uD kvs k):=.inr ⟨kvs,k,b,.inl e,rfl,eb,rfl⟩
theorem fV.k {H:Hp}{a:Af}{kvs:Aa (Key × V)}{k:Key}{v:V}(e:H a=Ab (.dK kvs))(hl:kvs.length<sizeLine):fV H a (kV k) v (upd H a (.dK (yQ kvs k v))):=.inl ⟨kvs,k,e,rfl,hl,rfl⟩
theorem fV.t {H:Hp}{a b:Af}{k:Aa Key}{v:V}(e:H a=Ab (.dT kvs))(eb:H b=Ab (.tup (k.map kV)))(hl:kvs.length<sizeLine) :
  fV H a (.ref b) v (upd H a (.dT (yQ kvs k v))):=.inr ⟨kvs,k,b,e,rfl,eb,hl,rfl⟩
section
variable {X:Cx}{pins:Aa (Af × AX)}{σ : St}{H:Hp}{s:Ag}{a:Af}{y v:V}{u r:Ac}{o:Al V}{A:AK}{E:Ac->Ag->Prop}
theorem Inv.big (I:Inv X pins σ H s):Gi<s.heap.objs.size:=by
 have h:AW<s.heap.objs.size:=(I.mod.glob.keeps I.bk).lt;exact Ge (by decide) h
theorem rN {h':AB}{t':Ai}{ob:HO}(I:Inv X pins σ H s)(mu:Mut (H a))(hs:CI a s.heap h')(he:∃ q,h'.get? a=Ab q)(new:qZ X.prog X.w (upd H a ob) h' a ob) :
  Inv X pins σ (upd H a ob) { s with heap:=h',toks:=t' }:=
 I.write (x:=a) (e:=a) mu (.inl rfl) (λb q hb z=>(hs.2 b hb).trans z) he new
theorem BN {P:A5}{w:AL}{h':AB}{kvs:Aa (Key × V)}{vs:Aa (Key × Ac)}(z:kvs.length<=sizeLine)(hd:(a == Gi)=false)(rel:KV kvs vs)(dd:h'.DictOf (x9 P w) a vs) :
  qZ P w H' h' a (.dK kvs):=⟨z,hd,vs,rel,dd⟩
theorem o3 {Q:Mx->Ag->Prop}(hu:A.units+1<Ee)(I:Inv X pins σ H s)(g:fV H a y v H')(ry:qK y u)(rv:qK v r)(h:∀ s',Inv X pins σ H' s'->Q () s') :
  Ao (Ar X.prog X.w) A (Xi (.ref a) u r) Q E s:=by
 rcases g with⟨kvs,k,e,ey,l,eH⟩|⟨kvs,k,b,e,ey,eb,l,eH⟩
 .subst ey eH
  obtain⟨z,hd,vs,rel,dd⟩:=L0 I.hok e;have hz:vs.length<=sizeLine:=by rw[<- rel.length];exact z
  have hl:(yQ kvs k v).length<=sizeLine:=by have:=pT kvs k v;omega
  refine wpAny_setItem_pairs (hsz:=hz) (nZ ry) dd λh' dd' hs=>h _ ?_;have he:∃ q,h'.get? a=Ab q:=let ⟨q,_,_,hq,_⟩:=dd';⟨q,hq⟩
  exact rN I (by rw[e];exact Gk) hs he (BN hl hd (rel.put k rv) dd')
 .subst ey eH
  cases (show u=AU b from ry)
  obtain⟨z,hd,xs,rel,dd⟩:=L5 I.hok e;have hz:xs.length<=sizeLine:=by rw[<- Paired.length rel];exact z
  have hl:(yQ kvs k v).length<=sizeLine:=by have:=pT kvs k v;omega
  refine wpAny_setItem_heap (hsz:=hz) (tupleKind_room_in1 hu) (oR I.hok eb) dd λh' dd' hs=>h _ ?_;obtain⟨q,es,ep,hq,h2,h3,h4,_,h5⟩:=dd';refine rN I (by rw[e];exact Gk) hs ⟨q,hq⟩ ⟨hl,hd,_,(rel.put k eb rv).keeps λc ys ec=>?_,q,es,ep,hq,h2,h3,h4,h5⟩
  rw[qI (LU ec e (λz=>nomatch z))];exact ec
end
theorem XF {P:A5}{w:AL}{H:Hp}(h:AB)(hb:Gi<h.objs.size):qZ P w H (h.push { cls:=.type "dict",data:=.dict #[] }) h.objs.size (.dK []):=
 ⟨Dp _,Fe.mpr (Ed (AZ hb)),[],.nil,Heap.DictOf.new h⟩
def N3:TE:=λ_ H Q=>∀ p,H p=none->Q (.ref p) (upd H p (.dK []))
section
variable {X:Cx}{pos:CN}
theorem WT:PE X (.Dict [] [] pos) N3:=λpins s σ H Q I h =>
 wpAny_Dict_empty ⟨.ref s.heap.objs.size,_,I.laid (a:=s.heap.objs.size) (o:=.dK []) (t':=s.toks) (λ_ _ q=>Ah _ q) (Aq _) (XF s.heap I.big),rfl,h _ (I.hok.fresh (Aq _))⟩
end
end _L
namespace _A
open PySem PySem.W PySem.Calls PyProof.Rows
theorem bZ {P:Params}{h:AB}:∀ (ns:Aa Am) (vs:Aa Ac),WellAll P h vs (ns.map Za)->Nx vs ns:=by
 intro ns
 induction ns with
 |nil =>
  intro vs w;rw[To] at w;cases w;exact .nil
 |cons n ns ih =>
  intro vs w;rw[Ce] at w;cases w with
  |cons a b =>
   cases a;exact .cons _ _ (ih _ b)
theorem ZI {l:OpenLaw}{n:Ai}(hn:l.most=Ab n){P:Params}{h:AB}{args:Aa WData}{vals:Aa Ac}
  (hpre:l.row.toRowW.claim.pre args=true) (hwl:WellAll P h vals args) :
  ∃ a vs ns,vals=[AU a]/\args=[WData.list (ns.map Za)]/\h.get? a=Ab { cls:=.type "list",data:=.seq vs.toArray } /\ Nx vs ns/\ns.length<=n:=by
 have hsh:WShape.hasAll [] args [.list .int]=true:=(pre_splitW hpre).1;have hc:l.pre.holds [] { args:=args } = true:=(pre_splitW hpre).2;obtain⟨d,r,rfl,h1,h2⟩:=hasAllW_cons hsh;obtain rfl:=hasAllW_nil h2;obtain⟨xs,rfl,h3⟩:=hasW_list h1;obtain⟨ns,rfl⟩:=items_int h3;have hlen:ns.length<=n:=by
  unfold OpenLaw.pre at hc;have h4:(WTm.not (.lt (.lit (.int (n:Am))) (.len (.arg 0)))).holds [] { args:=[.list (ns.map .int)] } = true:=by
   have h4:=(holds_andW hc).1;rw[hn] at h4;exact h4
  have h5:=condW_of h4 (w_not (w_lt w_lit (w_len_list (w_arg rfl))));rw[A4] at h5;refine O8 λq=>?_;have q':(n:Am)<((ns.length:Ai):Am):=by omega
  first
   |(rw[Bm q'] at h5;exact absurd h5 (by decide))
   |(simp at h5;omega)
 cases hwl with
 |cons w1 w2 =>
  cases w2;cases w1 with
  |list ho hall=>exact⟨_,_,ns,rfl,rfl,ho,bZ ns _ hall,hlen⟩
theorem QM (l:OpenLaw)(args:Aa WData):l.row.toRowW.claim.post args (.bool true) args=true:=
 postW_of (r:=l.row.toRowW) (X:=(true == true))
  (show Yt [] (.bool true) .bool=true by first|rfl|decide|simp[Yt,WShape.arms,WShape.armsAll])
  (show (WTm.eq .res (.lit (.bool true))).value [] { args:=args,res:=Ab (.bool true),after:=args } = Ab (.bool (true == true)) from w_eq_bool (w_res rfl) w_lit) rfl
theorem attach_call {l:OpenLaw}{n:Ai}{q:A5}{loose:Aa As}{XP:(As->Al Ac)->AB->Prop}{YP:AL->AB->Prop}{d:DefRec}
  (hn:l.most=Ab n) (hdf:d.params.defaults=[])
  (call:∀ (w:AL) (s₀ s₁:Ag) (mg mb:As->Al Ac) (fa:Af) (o:AX) (pm cd doc:Ac) (a:Af) (vs:Aa Ac) (ns:Aa Am),
   Ground q loose [] XP w s₀ mg mb s₁.heap->YP w s₁.heap ->
   s₁.heap.get? fa=Ab o->o.data=.func (docDef d.name d.params d.body d.scope pm cd doc)->s₁.heap.CodeRec cd d.name->mg d.name=Ab (.ref fa) ->
   s₁.heap.get? a=Ab { cls:=.type "list",data:=.seq vs.toArray } -> Nx vs ns->ns.length<=n->s₁.gens=#[] ->
   Fn (Ar l.prog w) Ny (.call (.ref fa) ⟨[.ref a],[]⟩) (λr s'=>r=.ok (.ret (.bool true))/\OldK s₁.heap s'.heap/\s'.os=s₁.os/\Kj s'.gens) s₁) :
  WalkO q loose XP YP l.row.toRowW d [] (λf vs=>Wq f vs):=by
 intro w s₀ s₁ mg mb G Y fa o pm cd doc dV kV ho hd hcd hD hmg hg args vals as hpre hlay hrd hwl hlo;obtain rfl:dV=.none:=Dflts.none hD hdf;obtain rfl:kV=.none:=Dflts.noKw hD;obtain⟨a,vs,ns,rfl,rfl,hobj,hints,hlen⟩:=ZI hn hpre hwl;refine enter_call (Hb (call w s₀ s₁ mg mb fa o pm cd doc a vs ns G Y ho (fd_plain hd) hcd hmg hobj hints hlen hg) λr s' hq=>?_);obtain⟨rfl,h2,h3,h4⟩:=hq;exact⟨.inl ⟨.bool true,.bool true,[],rfl,λ_=>rfl,.bool true,QM l _,λ_=>⟨Jy,λ_ hm=>(nomatch hm)⟩⟩,h2,h3,h4⟩
end _A
namespace _L
open PySem PySem.Spec PyProof.Rows
theorem ZN {vs:Aa Ac}{ns:Aa Am}(h:Nx vs ns):qJ (ns.map V.int) vs:=by
 induction h with
 |nil=>exact .nil
 |cons n t h ih=>exact .cons ⟨t,rfl⟩ ih
def SqX (K:Aj)(H:Hp)(a:Af)(xs:Aa V):Prop:=
 Rd H a (.lst xs)\/∃ (its:Aa Ac) (n:Ai),K.lookup a=Ab { cls:=.type "list",data:=.seq its.toArray n } /\ xs.length<=sizeLine/\qJ xs its
theorem SqX.l {K:Aj}{H:Hp}{a:Af}{xs:Aa V}(h:SqX K H a xs):SqL K H a xs:=by
 rcases h with h|⟨its,n,e,l,v⟩
 .exact .inl h
 .exact .inr ⟨_,its.toArray,n,e,rfl,rfl,rfl,by rw[AD,<- v.length];exact l,by simpa using v⟩
end _L
namespace _L
open PySem PySem.Spec PyProof.Rows
variable {ps:Aa As}{f:Af}{x qual:As}{H:Hp}
noncomputable def wV (s:Dd):Lm:=match s with
 |.FunctionDef _ a _ _ _ _ _ _ _ _=>a
 |_=>{ posonlyargs:=[],args:=[],vararg:=none,kwonlyargs:=[],kw_defaults:=[],kwarg:=none,defaults:=[] }
noncomputable def zJ (s:Dd):Aa Dd:=match s with
 |.FunctionDef _ _ b _ _ _ _ _ _ _=>b
 |_=>[]
noncomputable def qH (s:Dd):Cs:=match s with
 |.FunctionDef _ _ _ _ _ _ sc _ _ _=>sc
 |_=>{ kind:=.function,names:=[],isGenerator:=false,isCoroutine:=false }
abbrev CX0:CXT:=λ_ _ _ _ _ _=>CP
structure Fun (K:Aj)(x qual:As)(st:Dd)(f:Af)(fd:Dq):Prop where
 ex:∃ (oc:Ac) (od:Al Af) (kV doc pm:Ac) (an:Al Af) (cdv ct:Ac) (osl:Aw (Al Ac)),
  fd=Em x qual (wV st) (zJ st) (qH st) .none kV doc pm an cdv ct/\K.lookup f=Ab ⟨oc,od,.func fd,osl⟩/\IC K cdv qual=true
 kp:CJ K (.ref f)=true
section
variable {P:A5}{w:AL}{K:Aj}{mg:As->Al Ac}{base:AB}
theorem Fun.ok {st:Dd}{fd:Dq}{N:Aa As}{k:Ai}{sp:Sp}(F:Fun K x qual st f fd)(S:FnScope N ps (qH st))(len:∀ vs H Q E,sp vs H Q E->vs.length=ps.length)
  (hbody:∀ (cdv:Ac) (A:AK) (outer:Aa Gj) (s:Ag) (H:Hp) (vs:Aa V) (Q:VK) (E:XK),Room k (A.deeper (Eb qual (qH st) s.heap.objs.size f cdv))->sp vs H Q E ->
   ∃ t,PSs (mB CX0 P w K mg base N qual (qH st) f cdv A outer s H E).nox (zJ st) t/\t { nx:=λ_ H'=>Q .non H',rt:=Q } (xW N vs) H):FnOk P w K mg base CX0 (k+1) f fd ps sp:=by
 obtain⟨oc,od,kV,doc,pm,an,cdv,ct,osl,rfl,lk,hcd⟩:=F.ex;refine LB lk hcd S len λA outer s H vs Q E hr hsp=>?_;obtain⟨t,h,q⟩:=hbody cdv A outer s H vs Q E hr hsp;exact⟨t,h.nox,q⟩
theorem Fun.binds {st:Dd}{fd:Dq}(F:Fun K x qual st f fd)
  (h:∀ (kV doc pm:Ac) (an:Al Af) (cdv ct:Ac) (us:Aa Ac),us.length=ps.length->OX (Em x qual (wV st) (zJ st) (qH st) .none kV doc pm an cdv ct) ⟨us,[]⟩=pure (ps.zip us)):yJ K fd ps []:=by
 obtain⟨oc,od,kV,doc,pm,an,cdv,ct,osl,rfl,lk,hcd⟩:=F.ex;exact .all (h kV doc pm an cdv ct)
theorem F8 {st:Dd}{oc:Ac}{od an:Al Af}{osl:Aw (Al Ac)}{kV doc pm cdv ct:Ac}(l:K.lookup f=Ab ⟨oc,od,.func (Em x qual (wV st) (zJ st) (qH st) .none kV doc pm an cdv ct),osl⟩)
  (c:IC K cdv qual=true) (k:CJ K (.ref f)=true):Fun K x qual st f (Em x qual (wV st) (zJ st) (qH st) .none kV doc pm an cdv ct):=⟨⟨oc,od,kV,doc,pm,an,cdv,ct,osl,rfl,l,c⟩,k⟩
end
def qF (H H':Hp):Prop:=∀ b o,H b=Ab o->H' b=Ab o
theorem qF.refl (H:Hp):qF H H:=λ_ _ h=>h
theorem qF.trans {H1 H2:Hp}(a:qF H H1)(b:qF H1 H2):qF H H2:=λc o h=>b c o (a c o h)
theorem qF.free {H':Hp}(e:qF H H'){l:Af}(h:H' l=Yo):H l=Yo:=by
 cases q:H l with
 |none=>rfl
 |some o =>
  rw[e l o q] at h;cases h
theorem qF.seq {K:Aj}{H':Hp}{a:Af}{xs:Aa V}(e:qF H H')(h:SqL K H a xs):SqL K H' a xs:=by
 rcases h with (h|⟨o,h⟩)|h
 .exact .inl (.inl (e _ _ h))
 .exact .inl (.inr ⟨o,e _ _ h⟩)
 .exact .inr h
end _L
end
section
namespace _D
open PySem PySem.Spec PyProof.Rows _L
inductive D where
 |non|bl (b:Ap)|int (i:Am)|str (x:As)|ty (n:CF)|obj (a:Af)|tup (xs:Aa D)|lst (xs:Aa D)|dct0|loc (i:Ai)|exn (c:Ac)|fd (ks:Aa Key) (ds:Aa D)|clo (a:Af) (vs:Aa V) (ds:Aa D)
noncomputable def d0 (a:Af)(c:Ac):HO:=.ext λh=>∃ ob,h.get? a=Ab ob/\ob.cls=c
inductive MO where
 |dead|lst (xs:Aa D)|dct (kvs:Aa (Key × D))|ins (C:Af) (fs:Aa (As × D))
abbrev Sto:=Aa MO
inductive Res (β : Type) where
 |ok (d:β) (S:Sto)|ex (c:Ac) (x:D) (S:Sto)|bad
@[inline] def Res.bind {β γ:Type}(r:Res β)(f:β->Sto->Res γ) : Res γ:=
 match r with
 |.ok d S=>f d S
 |.ex c x S=>.ex c x S
 |.bad=>.bad
theorem Res.bind_ok {β γ:Type}(d:β)(S:Sto)(f:β->Sto->Res γ) : (Res.ok d S).bind f=f d S:=rfl
section
variable (K:Aj)(P:Hp)(α : Aa Af)
mutual
def Rep:D->V->Prop
 |.non,v=>v=.non
 |.bl b,v=>v=.bl b
 |.int i,v=>v=.int i
 |.str x,v=>v=.str x
 |.ty n,v=>v=.ty n
 |.obj a,v=>v=.ref a/\CJ K (.ref a)=true
 |.tup ds,v=>∃ a vs,v=.ref a/\SqT K P a vs/\qD ds vs
 |.lst ds,v=>∃ a vs,v=.ref a/\SqX K P a vs/\qD ds vs
 |.dct0,v=>∃ a,v=.ref a/\P a=Ab (.dK [])
 |.loc i,v=>∃ a,v=.ref a/\α[i]? = Ab a
 |.exn c,v=>∃ a,v=.ref a/\P a=Ab (d0 a c)
 |.fd ks ds,v=>∃ a o vs,v=.ref a/\P a=Ab (.frz o (.dK (ks.zip vs)))/\ks.length=vs.length/\qD ds vs
 |.clo a vs ds,v=>v=.ref a/\qD ds vs
def qD:Aa D->Aa V->Prop
 |[],vs=>vs=[]
 |d::ds,vs=>∃ w ws,vs=w::ws/\Rep d w/\qD ds ws
end
end
section
variable {K:Aj}{P P':Hp}{α α':Aa Af}
theorem yE (e:qF P P'){a:Af}{xs:Aa V}(h:SqT K P a xs):SqT K P' a xs:=by
 rcases h with (h|⟨o,h⟩)|h
 .exact .inl (.inl (e _ _ h))
 .exact .inl (.inr ⟨o,e _ _ h⟩)
 .exact .inr h
theorem eV (e:qF P P'){a:Af}{u:HO}(h:Rd P a u):Rd P' a u:=by
 rcases h with h|⟨o,h⟩
 .exact .inl (e _ _ h)
 .exact .inr ⟨o,e _ _ h⟩
theorem xA (e:qF P P'){a:Af}{xs:Aa V}(h:SqX K P a xs):SqX K P' a xs:=by
 rcases h with h|h
 .exact .inl (eV e h)
 .exact .inr h
theorem pJ {i:Ai}{a:Af}(h:α<+:α')(e:α[i]? = Ab a):α'[i]? = Ab a:=by
 obtain⟨r,rfl⟩:=h;rw[AY (Bg.mp e).1];exact e
mutual
theorem Rep.mono (e:qF P P')(h:α<+:α'):∀ (d:D) (v:V),Rep K P α d v->Rep K P' α' d v
 |.non,_,r=>by simpa only [Rep] using r
 |.bl _,_,r=>by simpa only [Rep] using r
 |.int _,_,r=>by simpa only [Rep] using r
 |.str _,_,r=>by simpa only [Rep] using r
 |.ty _,_,r=>by simpa only [Rep] using r
 |.obj _,_,r=>by simpa only [Rep] using r
 |.tup ds,v,r=>by
  simp only[Rep] at r ⊢;obtain⟨a,vs,rfl,q,t⟩:=r;exact⟨a,vs,rfl,yE e q,qD.mono e h ds vs t⟩
 |.lst ds,v,r=>by
  simp only[Rep] at r ⊢;obtain⟨a,vs,rfl,q,t⟩:=r;exact⟨a,vs,rfl,xA e q,qD.mono e h ds vs t⟩
 |.dct0,v,r=>by
  simp only[Rep] at r ⊢;obtain⟨a,rfl,q⟩:=r;exact⟨a,rfl,e _ _ q⟩
 |.loc i,v,r=>by
  simp only[Rep] at r ⊢;obtain⟨a,rfl,q⟩:=r;exact⟨a,rfl,pJ h q⟩
 |.exn c,v,r=>by
  simp only[Rep] at r ⊢;obtain⟨a,rfl,q⟩:=r;exact⟨a,rfl,e _ _ q⟩
 |.fd ks ds,v,r=>by
  simp only[Rep] at r ⊢;obtain⟨a,o,vs,rfl,q,hl,t⟩:=r;exact⟨a,o,vs,rfl,e _ _ q,hl,qD.mono e h ds vs t⟩
 |.clo a vs ds,v,r=>by
  simp only[Rep] at r ⊢;exact⟨r.1,qD.mono e h ds vs r.2⟩
theorem qD.mono (e:qF P P')(h:α<+:α'):∀ (ds:Aa D) (vs:Aa V),qD K P α ds vs->qD K P' α' ds vs
 |[],vs,r=>by simpa only [qD] using r
 |d::ds,vs,r=>by
  simp only[qD] at r ⊢;obtain⟨w,ws,rfl,r1,r2⟩:=r;exact⟨w,ws,rfl,Rep.mono e h d w r1,qD.mono e h ds ws r2⟩
end
theorem qD.nil:qD K P α [] []:=by simp only[qD]
theorem qD.cons {d:D}{v:V}{ds:Aa D}{vs:Aa V}(r:Rep K P α d v)(t:qD K P α ds vs):qD K P α (d::ds) (v::vs):=by
 simp only[qD];exact⟨v,vs,rfl,r,t⟩
theorem qD.nil_inv {vs:Aa V}(r:qD K P α [] vs):vs=[]:=by simpa only [qD] using r
theorem qD.cons_inv {d:D}{ds:Aa D}{vs:Aa V}(r:qD K P α (d::ds) vs):∃ w ws,vs=w::ws/\Rep K P α d w/\qD K P α ds ws:=by simpa only [qD] using r
theorem qD.length:∀ {ds:Aa D} {vs:Aa V},qD K P α ds vs->ds.length=vs.length
 |[],vs,r=>by rw[r.nil_inv];rfl
 |d::ds,vs,r=>by
  obtain⟨w,ws,rfl,_,t⟩:=r.cons_inv;rw[AO,AO,t.length]
theorem qD.append:∀ {ds es:Aa D} {vs ws:Aa V},qD K P α ds vs->qD K P α es ws->qD K P α (ds++es) (vs++ws)
 |[],es,vs,ws,r,t=>by rw[r.nil_inv];exact t
 |d::ds,es,vs,ws,r,t=>by
  obtain⟨w,us,rfl,r1,r2⟩:=r.cons_inv;exact .cons r1 (r2.append t)
theorem qD.get:∀ {ds:Aa D} {vs:Aa V} {i:Ai} {d:D},qD K P α ds vs->ds[i]? = Ab d->∃ v,vs[i]? = Ab v/\Rep K P α d v
 |[],_,_,_,_,e=>by simp at e
 |d::ds,vs,i,d',r,e=>by
  obtain⟨w,ws,rfl,r1,r2⟩:=r.cons_inv;cases i with
  |zero=>simp at e;subst e;exact⟨w,rfl,r1⟩
  |succ i =>
   obtain⟨v,h1,h2⟩:=r2.get (i:=i) (d:=d') (by simpa using e)
   exact⟨v,by simpa using h1,h2⟩
theorem qD.drop:∀ {ds:Aa D} {vs:Aa V} (n:Ai),qD K P α ds vs->qD K P α (ds.drop n) (vs.drop n)
 |ds,vs,0,r=>by simpa using r
 |[],vs,n+1,r=>by rw[r.nil_inv];exact .nil
 |d::ds,vs,n+1,r=>by
  obtain⟨w,ws,rfl,_,r2⟩:=r.cons_inv;simpa using r2.drop n
theorem qD.take:∀ {ds:Aa D} {vs:Aa V} (n:Ai),qD K P α ds vs->qD K P α (ds.take n) (vs.take n)
 |ds,vs,0,r=>by simpa using qD.nil
 |[],vs,n+1,r=>by rw[r.nil_inv];exact .nil
 |d::ds,vs,n+1,r=>by
  obtain⟨w,ws,rfl,r1,r2⟩:=r.cons_inv;simpa using qD.cons r1 (r2.take n)
theorem qD.set {d:D}{v:V}(q:Rep K P α d v):∀ {ds:Aa D} {vs:Aa V} (n:Ai),qD K P α ds vs->qD K P α (ds.set n d) (vs.set n v)
 |[],vs,n,r=>by rw[r.nil_inv];exact .nil
 |e::ds,vs,0,r=>by
  obtain⟨w,ws,rfl,r1,r2⟩:=r.cons_inv;exact .cons q r2
 |e::ds,vs,n+1,r=>by
  obtain⟨w,ws,rfl,r1,r2⟩:=r.cons_inv;exact .cons r1 (r2.set q n)
end
abbrev qE:=Aa (Al D)
def qY (K:Aj)(P:Hp)(α : Aa Af)(σ : _L.St)(env:qE):Prop:=env.length=σ.length/\∀ (i:Ai) (d:D),env[i]? = Ab (Ab d)->∃ v,σ[i]? = Ab (Ab v)/\Rep K P α d v
def KVs (K:Aj)(P:Hp)(α : Aa Af){κ : Type}:Aa (κ × D)->Aa (κ × V)->Prop:=Paired λ(p:κ × D) (q:κ × V)=>p.1=q.1/\Rep K P α p.2 q.2
def MOk (K:Aj)(H P:Hp)(α : Aa Af)(a:Af):MO->Prop
 |.dead=>Jn
 |.lst ds=>∃ vs,H a=Ab (.lst vs)/\qD K P α ds vs
 |.dct kvs=>∃ vs,H a=Ab (.dK vs)/\KVs K P α kvs vs
 |.ins C fs=>∃ dx vs,H a=Ab (.ins C dx vs)/\KVs K P α fs vs
inductive TbAt (x:As)(H P:Hp)(α : Aa Af)(T:Af):Prop
 |mk (ps:Aw Ac) (e:H T=Ab (.tbl ps)) (pn:P T=none) (an:T ∉ α) (ok:IP ps.toList) (cd:∀ pos cv,Lo pos ps.toList=Ab cv->∃ c oc vs t,cv=.ref c/\H c=Ab (.frz oc (.frz oc (.own 0)))/\oc.data=.fields vs/\vs[1]? = Ab (.str (x ++ ".<locals>." ++ "<lambda>") t)):TbAt x H P α T
def cK (K:Aj)(H P:Hp)(α : Aa Af):Prop:=∀ x∈wC,∀ c T,Cd K x=Ab (c,T)->TbAt x H P α T
def FC (u:HO):Prop:=(∃ ps,u=.tbl ps)\/∃ o,u=.frz o (.frz o (.own 0))
theorem cK.keep {K:Aj}{H H' P P':Hp}{α α':Aa Af}(r:cK K H P α)(e:∀ b u,H b=Ab u->FC u->H' b=Ab u)(hp:∀ b u,H b=Ab u->FC u->P b=none->b ∉ α->P' b=none/\b ∉ α'):cK K H' P' α':=λx hx c T h =>
 let ⟨ps,e1,pn,an,ok,cd⟩:=r x hx c T h
 let z:=hp _ _ e1 (.inl ⟨_,rfl⟩) pn an
 ⟨ps,e _ _ e1 (.inl ⟨_,rfl⟩),z.1,z.2,ok,λpos cv q=>let ⟨c,oc,vs,t,a,b,d⟩:=cd pos cv q;⟨c,oc,vs,t,a,e _ _ b (.inr ⟨_,rfl⟩),d⟩⟩
structure Rel (K:Aj)(H P:Hp)(α : Aa Af)(S:Sto):Prop where
 tb:cK K H P α
 sub:qF P H
 len:α.length=S.length
 nd:α.Nodup
 sep:∀ (i:Ai) (a:Af) (o:MO),α[i]? = Ab a->S[i]? = Ab o->o≠.dead->P a=none
 at':∀ (i:Ai) (a:Af) (o:MO),α[i]? = Ab a->S[i]? = Ab o->MOk K H P α a o
 own:∀ (i:Ai) (a:Af),α[i]? = Ab a->H a≠none
section
variable {K:Aj}{H P P':Hp}{α α':Aa Af}{S:Sto}
theorem qY.mono {σ : _L.St}{env:qE}(e:qF P P')(h:α<+:α')(r:qY K P α σ env):qY K P' α' σ env:=
 ⟨r.1,λi d q=>let ⟨v,h1,h2⟩:=r.2 i d q;⟨v,h1,Rep.mono e h d v h2⟩⟩
theorem KVs.mono {κ : Type}(e:qF P P')(h:α<+:α'){kvs:Aa (κ × D)}{vs:Aa (κ × V)}(r:KVs K P α kvs vs):KVs K P' α' kvs vs:=by
 refine Paired.mapP r λp q z=>⟨z.1,Rep.mono e h _ _ z.2⟩
theorem MOk.mono {a:Af}(e:qF P P')(h:α<+:α'):∀ {o:MO},MOk K H P α a o->MOk K H P' α' a o
 |.dead,_=>trivial
 |.lst _,⟨vs,q,r⟩=>⟨vs,q,qD.mono e h _ _ r⟩
 |.dct _,⟨vs,q,r⟩=>⟨vs,q,r.mono e h⟩
 |.ins _ _,⟨dx,vs,q,r⟩=>⟨dx,vs,q,r.mono e h⟩
theorem Rel.grow {H':Hp}(r:Rel K H P α S)(e:qF H H'):Rel K H' P α S where
 tb:=r.tb.keep (λb u q _=>e _ _ q) λ_ _ _ _ p n=>⟨p,n⟩
 sub:=r.sub.trans e
 len:=r.len
 nd:=r.nd
 sep:=r.sep
 at':=λi a o q1 q2=>by
  have m:=r.at' i a o q1 q2;cases o with
  |dead=>trivial
  |lst ds=>obtain⟨vs,q,t⟩:=m;exact⟨vs,e _ _ q,t⟩
  |dct kvs=>obtain⟨vs,q,t⟩:=m;exact⟨vs,e _ _ q,t⟩
  |ins C fs=>obtain⟨dx,vs,q,t⟩:=m;exact⟨dx,vs,e _ _ q,t⟩
 own:=λi a q=>by
  have m:=r.own i a q;cases z:H a with
  |none=>exact absurd z m
  |some o=>rw[e _ _ z];intro w;cases w
theorem bM {H:Hp}{a:Af}{o:HO}(h:H a=none):qF H (upd H a o):=λb u e=>by rw[qI (qS e h)];exact e
theorem Rel.pure {a:Af}{o:HO}(r:Rel K H P α S)(h:H a=none):Rel K (upd H a o) (upd P a o) α S/\qF P (upd P a o):=by
 have hP:P a=none:=by
  cases z:P a with
  |none=>rfl
  |some u=>rw[r.sub _ _ z] at h;cases h
 have sP:qF P (upd P a o):=bM hP;have r1:=r.grow (bM (o:=o) h);refine⟨⟨r.tb.keep (λb u q _=>(qI (qS q h)).trans q) λb u q _ p n=>⟨(qI (qS q h)).trans p,n⟩,λb u e=>?_,r.len,r.nd,λi b u q1 q2 q3=>?_,λi b u q1 q2=>(r1.at' i b u q1 q2).mono sP (AA _),r1.own⟩,sP⟩
 .by_cases hb:b=a
  .subst hb;rw[qV] at e ⊢;exact e
  .rw[qI hb] at e ⊢;exact r.sub _ _ e
 .have hb:b≠a:=by rintro rfl;exact r.own i b q1 h
  rw[qI hb];exact r.sep i b u q1 q2 q3
theorem Rel.new {a:Af}{o:HO}{m:MO}(r:Rel K H P α S)(h:H a=none)(hm:MOk K (upd H a o) P (α ++ [a]) a m):Rel K (upd H a o) P (α ++ [a]) (S++[m]):=by
 have hP:P a=none:=by
  cases z:P a with
  |none=>rfl
  |some u=>rw[r.sub _ _ z] at h;cases h
 have r1:=r.grow (bM (o:=o) h);have hp:α<+:α++[a]:=Jk _ _;have split:∀ (i:Ai) (b:Af),(α++[a])[i]? = Ab b->(i<α.length/\α[i]? = Ab b)\/(i=α.length/\b=a):=λi b q=>by
  by_cases hi:i<α.length
  .rw[AY hi] at q;exact .inl ⟨hi,q⟩
  .rw[Bf om] at q
   cases hk:i-α.length with
   |zero=>rw[hk] at q;simp at q;exact .inr ⟨by omega,q.symm⟩
   |succ k=>rw[hk] at q;simp at q
 refine⟨r.tb.keep (λb u q _=>(qI (qS q h)).trans q) λb u q _ p n=>⟨p,λz=>(Ba.mp z).elim n λw=>qS q h (by simpa using w)⟩,r1.sub,by simp[r.len],?_,λi b u q1 q2 q3=>?_,λi b u q1 q2=>?_,λi b q=>?_⟩
 .rw[Nz]
  refine⟨r.nd,by simp,λb hb c hc e=>?_⟩
  simp at hc;subst hc;subst e;obtain⟨i,hi,e⟩:=Bv.mp hb;exact r.own i b (by rw[Au hi,e]) h
 .rcases split i b q1 with⟨hi,z⟩|⟨hi,rfl⟩
  .rw[AY (by rw[<- r.len];exact hi)] at q2
   exact r.sep i b u z q2 q3
  .exact hP
 .rcases split i b q1 with⟨hi,z⟩|⟨hi,rfl⟩
  .rw[AY (by rw[<- r.len];exact hi)] at q2
   exact(r1.at' i b u z q2).mono (qF.refl _) hp
  .rw[hi,r.len,Bf (Aq _)] at q2
   simp at q2;subst q2;exact hm
 .rcases split i b q with⟨_,z⟩|⟨_,rfl⟩
  .exact r1.own i b z
  .rw[qV];intro z;cases z
theorem Q8 {N:Aa Af}(hN:N.Nodup){i j:Ai}{x:Af}(a:N[i]? = Ab x)(b:N[j]? = Ab x):i=j:=by
 obtain⟨h1,e1⟩:=Bg.mp a;obtain⟨h2,e2⟩:=Bg.mp b;exact(O6 hN).mp (e1.trans e2.symm)
theorem Rel.put {a:Af}{i:Ai}{o:HO}{m m':MO}(r:Rel K H P α S)(ha:α[i]? = Ab a)(hs:S[i]? = Ab m)(hd:m≠.dead)(hm:MOk K (upd H a o) P α a m'):Rel K (upd H a o) P α (S.set i m'):=by
 have hP:=r.sep i a m ha hs hd;have hi:i<S.length:=(Bg.mp hs).1;refine⟨r.tb.keep (λb u q hu=>?_) λ_ _ _ _ p n=>⟨p,n⟩,λb u e=>?_,by simp[r.len],r.nd,λj b u q1 q2 q3=>?_,λj b u q1 q2=>?_,λj b q=>?_⟩
 .refine(qI ?_).trans q
  rintro rfl;have z:=r.at' i _ m ha hs;cases m with
  |dead=>exact hd rfl
  |lst ds=>obtain⟨vs,z,_⟩:=z;rw[q] at z;rcases hu with⟨_,rfl⟩|⟨_,rfl⟩ <;> cases z
  |dct kvs=>obtain⟨vs,z,_⟩:=z;rw[q] at z;rcases hu with⟨_,rfl⟩|⟨_,rfl⟩ <;> cases z
  |ins C fs=>obtain⟨dx,vs,z,_⟩:=z;rw[q] at z;rcases hu with⟨_,rfl⟩|⟨_,rfl⟩ <;> cases z
 .have hb:b≠a:=by rintro rfl;rw[hP] at e;cases e
  rw[qI hb];exact r.sub _ _ e
 .by_cases hj:j=i
  .subst hj;rw[ha] at q1;cases q1;exact hP
  .rw[CQ (Ed hj)] at q2;exact r.sep j b u q1 q2 q3
 .by_cases hj:j=i
  .subst hj;rw[ha] at q1;cases q1
   rw[Ea hi] at q2;cases q2;exact hm
  .rw[CQ (Ed hj)] at q2
   have hb:b≠a:=by rintro rfl;exact hj (Q8 r.nd q1 ha)
   have z:=r.at' j b u q1 q2;cases u with
   |dead=>trivial
   |lst ds=>obtain⟨vs,q,t⟩:=z;exact⟨vs,by rw[qI hb];exact q,t⟩
   |dct kvs=>obtain⟨vs,q,t⟩:=z;exact⟨vs,by rw[qI hb];exact q,t⟩
   |ins C fs=>obtain⟨dx,vs,q,t⟩:=z;exact⟨dx,vs,by rw[qI hb];exact q,t⟩
 .by_cases hb:b=a
  .subst hb;rw[qV];intro z;cases z
  .rw[qI hb];exact r.own j b q
end
theorem nn {β : Type}{a:β}{p:Prop}(h:(none:Al β) = Ab a):p:=by cases h
theorem kG {β : Type}{c:Prop}[He c]{a b:β}(h:(if c then Ab a else none)=Ab b):c/\a=b:=by
 by_cases z:c
 .rw[AF z] at h;exact⟨z,Bh h⟩
 .rw[AC z] at h;exact nn h
end _D
end
namespace _D
open PySem PySem.Spec PyProof.Rows _L
variable {more:Aa (Af × AX)}{us args cs:Aa Ac}{body:Aa Dd}{vs:Aa V}{u vv:Ac}{p C:Af}{od:Al Af}{sl:Aw (Al Ac)}{np:CN}{M:Im}{R:It->Hp->Prop}{sp:Sp}{S S1:Sto}{Q:VK}
abbrev DE:=qE->Sto->Res D
abbrev DT:=qE->Sto->Res Ap
abbrev DA:=qE->Sto->Res (Aa D)
inductive Out where
 |nx (env:qE) (S:Sto)|rt (d:D) (S:Sto)|bk (env:qE) (S:Sto)|ct (env:qE) (S:Sto)|ex (c:Ac) (x:D) (env:qE) (S:Sto)|bad
abbrev DS:=qE->Sto->Out
def Old (X:Cx)(pins:Aa (Af × AX))(H:Hp)(b:Af):Prop:=
 (∃ o,X.s₀.heap.get? b=Ab o)\/H b≠none\/(∃ p∈X.pn++pins,p.1=b)\/∃ x,X.env.cells.lookup x=Ab b
def Cv (X:Cx)(pins:Aa (Af × AX))(H:Hp)(B h:AB):Prop:=∀ b o,h.get? b=Ab o->Old X pins H b->b ∉ frs X.stack->B.get? b=Ab o
inductive FlyX (X:Cx)(pins:Aa (Af × AX))(H:Hp)(c:Ac)(e:Af)(h:AB):Prop where
 |new (g:AB) (args:Aa Ac):Qs g h e c args->g.FunFrames X.base X.stack->(∀ b o,h.get? b=Ab o->Old X pins H b->g.get? b=Ab o)->FlyX X pins H c e h
 |fly (B:AB) (a0:Ac):Lx B X.stack e c a0 h->Cv X pins H B h->FlyX X pins H c e h
inductive XOk (X:Cx)(P:Hp)(α : Aa Af)(c:Ac)(x:D)(S:Sto)(u:Ac)(s:Ag):Prop
 |mk (e:Af) (pins:Aa (Af × AX)) (σ : _L.St) (H:Hp) (P':Hp) (α' : Aa Af) (e1:u=.ref e) (I:Inv X pins σ H s) (r:Rel X.K H P' α' S) (q1:qF P P') (q2:α<+:α') (q3:X.ex=[]/\X.stack=X.env::X.outer/\X.env.frame=Ab X.env.locals) (q4:FlyX X pins H c e s.heap):XOk X P α c x S u s
theorem XOk.base {X:Cx}{P P1:Hp}{α α1:Aa Af}{c:Ac}{x:D}{s:Ag}(e:qF P P1)(h:α<+:α1)(k:XOk X P1 α1 c x S u s):XOk X P α c x S u s:=by
 obtain⟨a,pins,σ,H,P',α',e1,I,r,q1,q2,q3,q4⟩:=k;exact⟨a,pins,σ,H,P',α',e1,I,r,e.trans q1,h.trans q2,q3,q4⟩
section
variable (X:Cx)
def qG {β:Type}(P:Hp)(α : Aa Af)(r:Res β)(Ok:β->Sto->Prop):Prop:=
 match r with
 |.ok d S'=>Ok d S'
 |.ex c x S'=>∀ u s',XOk X P α c x S' u s'->X.xe u s'
 |.bad=>CP
def OkV (P:Hp)(α : Aa Af)(Q:VK)(d:D)(S':Sto):Prop:=∀ v H' P' α',Rel X.K H' P' α' S'->qF P P'->α<+:α'->Rep X.K P' α' d v->Q v H'
def OkT (P:Hp)(α : Aa Af)(Q:Ap->Hp->Prop)(b:Ap)(S':Sto):Prop:=∀ H' P' α',Rel X.K H' P' α' S'->qF P P'->α<+:α'->Q b H'
def OkA (P:Hp)(α : Aa Af)(Q:Aa V->Hp->Prop)(ds:Aa D)(S':Sto):Prop:=∀ vs H' P' α',Rel X.K H' P' α' S'->qF P P'->α<+:α'->qD X.K P' α' ds vs->Q vs H'
abbrev qU (P:Hp)(α : Aa Af)(r:Res D)(Q:VK):Prop:=qG X P α r (OkV X P α Q)
abbrev yI (P:Hp)(α : Aa Af)(r:Res Ap)(Q:Ap->Hp->Prop):Prop:=qG X P α r (OkT X P α Q)
abbrev gA (P:Hp)(α : Aa Af)(r:Res (Aa D))(Q:Aa V->Hp->Prop):Prop:=qG X P α r (OkA X P α Q)
def z9 (P:Hp)(α : Aa Af)(r:Out)(D:Ends):Prop:=
 match r with
 |.nx env' S'=>∀ σ' H' P' α',Rel X.K H' P' α' S'->qY X.K P' α' σ' env'->qF P P'->α<+:α'->D.nx σ' H'
 |.bk env' S'=>∀ σ' H' P' α',Rel X.K H' P' α' S'->qY X.K P' α' σ' env'->qF P P'->α<+:α'->D.bk σ' H'
 |.ct env' S'=>∀ σ' H' P' α',Rel X.K H' P' α' S'->qY X.K P' α' σ' env'->qF P P'->α<+:α'->D.ct σ' H'
 |.rt d S'=>∀ v H' P' α',Rel X.K H' P' α' S'->qF P P'->α<+:α'->Rep X.K P' α' d v->D.rt v H'
 |.ex c x _ S'=>∀ u s',XOk X P α c x S' u s'->X.xe u s'
 |.bad=>CP
inductive tD (f:DE)(σ : _L.St)(H:Hp)(Q:VK):Prop
 |mk (P:Hp) (α : Aa Af) (env:qE) (S:Sto) (r:Rel X.K H P α S) (re:qY X.K P α σ env) (af:qU X P α (f env S) Q):tD f σ H Q
inductive tDT (f:DT)(σ : _L.St)(H:Hp)(Q:Ap->Hp->Prop):Prop
 |mk (P:Hp) (α : Aa Af) (env:qE) (S:Sto) (r:Rel X.K H P α S) (re:qY X.K P α σ env) (af:yI X P α (f env S) Q):tDT f σ H Q
inductive tDA (f:DA)(σ : _L.St)(H:Hp)(Q:Aa V->Hp->Prop):Prop
 |mk (P:Hp) (α : Aa Af) (env:qE) (S:Sto) (r:Rel X.K H P α S) (re:qY X.K P α σ env) (af:gA X P α (f env S) Q):tDA f σ H Q
inductive tDS (f:DS)(D:Ends)(σ : _L.St)(H:Hp):Prop
 |mk (P:Hp) (α : Aa Af) (env:qE) (S:Sto) (r:Rel X.K H P α S) (re:qY X.K P α σ env) (af:z9 X P α (f env S) D):tDS f D σ H
end
section
variable {X:Cx}{P P1:Hp}{α α1:Aa Af}
theorem qU.base {r:Res D}(e:qF P P1)(h:α<+:α1)(k:qU X P α r Q):qU X P1 α1 r Q:=by
 cases r with
 |ok d S=>exact λv H' P' α' r q1 q2 q3=>k v H' P' α' r (e.trans q1) (h.trans q2) q3
 |ex c x S=>exact λu s' q=>k u s' (q.base e h)
 |bad=>exact k
theorem yI.base {r:Res Ap}{Q:Ap->Hp->Prop}(e:qF P P1)(h:α<+:α1)(k:yI X P α r Q):yI X P1 α1 r Q:=by
 cases r with
 |ok d S=>exact λH' P' α' r q1 q2=>k H' P' α' r (e.trans q1) (h.trans q2)
 |ex c x S=>exact λu s' q=>k u s' (q.base e h)
 |bad=>exact k
theorem gA.base {r:Res (Aa D)}{Q:Aa V->Hp->Prop}(e:qF P P1)(h:α<+:α1)(k:gA X P α r Q):gA X P1 α1 r Q:=by
 cases r with
 |ok d S=>exact λv H' P' α' r q1 q2 q3=>k v H' P' α' r (e.trans q1) (h.trans q2) q3
 |ex c x S=>exact λu s' q=>k u s' (q.base e h)
 |bad=>exact k
theorem z9.base {r:Out}{D:Ends}(e:qF P P1)(h:α<+:α1)(k:z9 X P α r D):z9 X P1 α1 r D:=by
 cases r with
 |nx env S=>exact λv H' P' α' r q0 q1 q2=>k v H' P' α' r q0 (e.trans q1) (h.trans q2)
 |bk env S=>exact λv H' P' α' r q0 q1 q2=>k v H' P' α' r q0 (e.trans q1) (h.trans q2)
 |ct env S=>exact λv H' P' α' r q0 q1 q2=>k v H' P' α' r q0 (e.trans q1) (h.trans q2)
 |rt d S=>exact λv H' P' α' r q1 q2 q3=>k v H' P' α' r (e.trans q1) (h.trans q2) q3
 |ex c x env S=>exact λu s' q=>k u s' (q.base e h)
 |bad=>exact k
theorem xr {v:V}{H:Hp}{d:D}(k:OkV X P α Q d S)(r:Rel X.K H P α S)(q:Rep X.K P α d v):Q v H:=k v H P α r (qF.refl _) (AA _) q
end
section
variable {X:Cx}{a b e:AM}{pos:CN}
theorem peW {t t':TE}(h:PE X e t)(w:∀ σ H Q,t' σ H Q->t σ H Q):PE X e t':=λpins s σ H Q I q=>h pins s σ H Q I (w σ H Q q)
theorem psW {st:Dd}{t t':TS}(h:PS X st t)(w:∀ D σ H,t' D σ H->t D σ H):PS X st t':=λpins s σ H D I q=>h pins s σ H D I (w D σ H q)
theorem MZ {st:Aa Dd}{t t':TS}(h:PSs X st t)(w:∀ D σ H,t' D σ H->t D σ H):PSs X st t':=λpins s σ H D I q=>h pins s σ H D I (w D σ H q)
theorem paW {es:Aa AM}{t t':TA}(h:PA X es t)(w:∀ σ H Q,t' σ H Q->t σ H Q):PA X es t':=λpos pins s σ H Q I q=>h pos pins s σ H Q I (w σ H Q q)
structure Got (X:Cx)(pins:Aa (Af × AX))(σ : _L.St)(env:qE)(P:Hp)(α : Aa Af)(u:Ac)(s1:Ag)(v:V)(H1 P1:Hp)(α1:Aa Af)(d:D)(S1:Sto):Prop where
 inv:Inv X pins σ H1 s1
 val:qK v u
 rel:Rel X.K H1 P1 α1 S1
 env:qY X.K P1 α1 σ env
 rep:Rep X.K P1 α1 d v
 same:qF P P1
 pre:α<+:α1
inductive GotG (X:Cx)(pins:Aa (Af × AX))(σ : _L.St)(env:qE)(P:Hp)(α : Aa Af)(u:Ac)(s1:Ag){γ : Type}(g:D->Sto->Res γ)(Ok:γ->Sto->Prop):Prop
 |mk (v:V) (H1 P1:Hp) (α1:Aa Af) (d:D) (S1:Sto) (G:Got X pins σ env P α u s1 v H1 P1 α1 d S1) (q:qG X P α (g d S1) Ok):GotG X pins σ env P α u s1 g Ok
inductive GotAG (X:Cx)(pins:Aa (Af × AX))(σ : _L.St)(env:qE)(P:Hp)(α : Aa Af)(us:Aa Ac)(s1:Ag){γ : Type}(g:Aa D->Sto->Res γ)(Ok:γ->Sto->Prop):Prop
 |mk (vs:Aa V) (H1 P1:Hp) (α1:Aa Af) (ds:Aa D) (S1:Sto) (I:Inv X pins σ H1 s1) (rv:qJ vs us) (r:Rel X.K H1 P1 α1 S1) (re:qY X.K P1 α1 σ env) (rp:qD X.K P1 α1 ds vs) (e1:qF P P1) (e2:α<+:α1) (q:qG X P α (g ds S1) Ok):GotAG X pins σ env P α us s1 g Ok
inductive GotT (X:Cx)(pins:Aa (Af × AX))(σ : _L.St)(env:qE)(P:Hp)(α : Aa Af)(b:Ap)(s1:Ag){γ : Type}(g:Ap->Sto->Res γ)(Ok:γ->Sto->Prop):Prop
 |mk (H1 P1:Hp) (α1:Aa Af) (S1:Sto) (I:Inv X pins σ H1 s1) (r:Rel X.K H1 P1 α1 S1) (re:qY X.K P1 α1 σ env) (e1:qF P P1) (e2:α<+:α1) (q:qG X P α (g b S1) Ok):GotT X pins σ env P α b s1 g Ok
theorem zS {γ:Type}{f:DE}{g:D->Sto->Res γ}{Ok:γ->Sto->Prop}{pins:Aa (Af × AX)}{s:Ag}{σ:_L.St}{H P:Hp}{α:Aa Af}{env:qE}(he:PE X e (tD X f))(I:Inv X pins σ H s)(r:Rel X.K H P α S)
  (re:qY X.K P α σ env) (af:qG X P α ((f env S).bind g) Ok) :
  Ao (Ar X.prog X.w) X.A (eval e X.env) (λu s1=>GotG X pins σ env P α u s1 g Ok) X.xe s:=by
 refine thn (he pins s σ H (λv H1=>∃ P1 α1 d S1,Rel X.K H1 P1 α1 S1/\qY X.K P1 α1 σ env/\Rep X.K P1 α1 d v/\qF P P1/\α<+:α1/\qG X P α (g d S1) Ok) I ⟨P,α,env,S,r,re,?_⟩) λu s1 ⟨v,H1,I1,rv,P1,α1,d,S1,q1,q2,q3,q4,q5,q6⟩=>⟨v,H1,P1,α1,d,S1,⟨I1,rv,q1,q2,q3,q4,q5⟩,q6⟩;cases q:f env S with
 |bad=>rw[q] at af;exact af
 |ex c x S'=>rw[q] at af;exact af
 |ok d S' =>
  rw[q] at af;exact λv H' P' α' r' e1 e2 rp=>⟨P',α',d,S',r',re.mono e1 e2,rp,e1,e2,af⟩
theorem xS {γ:Type}{es:Aa AM}{f:DA}{g:Aa D->Sto->Res γ}{Ok:γ->Sto->Prop}{pins:Aa (Af × AX)}{s:Ag}{σ:_L.St}{H P:Hp}{α:Aa Af}{env:qE}(he:PA X es (tDA X f))(I:Inv X pins σ H s)(r:Rel X.K H P α S)
  (re:qY X.K P α σ env) (af:qG X P α ((f env S).bind g) Ok) (pos:CN) :
  Ao (Ar X.prog X.w) X.A (spliced (Di pos (Ay es X.env))) (λus s1=>GotAG X pins σ env P α us s1 g Ok) X.xe s:=by
 refine thn (he pos pins s σ H (λvs H1=>∃ P1 α1 ds S1,Rel X.K H1 P1 α1 S1/\qY X.K P1 α1 σ env/\qD X.K P1 α1 ds vs/\qF P P1/\α<+:α1/\qG X P α (g ds S1) Ok) I ⟨P,α,env,S,r,re,?_⟩) λu s1 ⟨v,H1,I1,rv,P1,α1,d,S1,q1,q2,q3,q4,q5,q6⟩=>⟨v,H1,P1,α1,d,S1,I1,rv,q1,q2,q3,q4,q5,q6⟩;cases q:f env S with
 |bad=>rw[q] at af;exact af
 |ex c x S'=>rw[q] at af;exact af
 |ok d S' =>
  rw[q] at af;exact λv H' P' α' r' e1 e2 rp=>⟨P',α',d,S',r',re.mono e1 e2,rp,e1,e2,af⟩
theorem lU {γ:Type}{f:DT}{g:Ap->Sto->Res γ}{Ok:γ->Sto->Prop}{pins:Aa (Af × AX)}{s:Ag}{σ:_L.St}{H P:Hp}{α:Aa Af}{env:qE}{m:Il Ap}
  (he:∀ (Q:Ap->Hp->Prop),tDT X f σ H Q->Ao (Ar X.prog X.w) X.A m (TP X pins σ Q) X.xe s) (r:Rel X.K H P α S) (re:qY X.K P α σ env) (af:qG X P α ((f env S).bind g) Ok) :
  Ao (Ar X.prog X.w) X.A m (λb s1=>GotT X pins σ env P α b s1 g Ok) X.xe s:=by
 refine thn (he (λb H1=>∃ P1 α1 S1,Rel X.K H1 P1 α1 S1/\qY X.K P1 α1 σ env/\qF P P1/\α<+:α1/\qG X P α (g b S1) Ok) ⟨P,α,env,S,r,re,?_⟩) λb s1 ⟨H1,I1,P1,α1,S1,q1,q2,q4,q5,q6⟩=>⟨H1,P1,α1,S1,I1,q1,q2,q4,q5,q6⟩;cases q:f env S with
 |bad=>rw[q] at af;exact af
 |ex c x S'=>rw[q] at af;exact af
 |ok d S' =>
  rw[q] at af;exact λH' P' α' r' e1 e2=>⟨P',α',S',r',re.mono e1 e2,e1,e2,af⟩
noncomputable def dC (d:D):DE:=λ_ S=>.ok d S
noncomputable def qC (i:Ai):DE:=λenv S=>match env[i]? with
 |some (Ab d)=>.ok d S
 |_=>.bad
theorem BB:PE X (.Constant (.int i) j pos) (tD X (dC (.int i))):=peW MR λσ H Q ⟨P,α,env,S,r,re,af⟩=>xr af r (by simp only[Rep])
theorem NS:PE X (.Constant (.bool i) j pos) (tD X (dC (.bl i))):=peW DH λσ H Q ⟨P,α,env,S,r,re,af⟩=>xr af r (by simp only[Rep])
theorem BG:PE X (.Constant (.str i) j pos) (tD X (dC (.str i))):=peW MU λσ H Q ⟨P,α,env,S,r,re,af⟩=>xr af r (by simp only[Rep])
theorem BD:PE X (.Constant .none j pos) (tD X (dC .non)):=peW MS λσ H Q ⟨P,α,env,S,r,re,af⟩=>xr af r (by simp only[Rep])
set_option tactic.hygienic true in
theorem GJ {i:Ai}{σ:_L.St}{H:Hp}(h:tD X (qC i) σ H Q):N4 i σ H Q:=by
 obtain⟨P,α,env,S,r,re,af⟩:=h;unfold qC at af
 split at af
 .rename_i d q
  obtain⟨v,h1,h2⟩:=re.2 i d q;exact⟨v,h1,xr af r h2⟩
 .exact An af
theorem dv (i:Ai){x:As}(hN:X.N[i]? = Ab x:=by rfl)(hv:Vis X.env.scope x:=by first|exact Xc rfl|exact Vf (Xc rfl)|exact Vf (Vf rfl))(hd:(x == ("__debug__" : As))=false:=by decide)
  (hcd:(x == ("__classdict__" : As))=false:=by decide):PE X (.Name x pos) (tD X (qC i)):=peW (dX hN hv hd hcd) λσ H Q h=>GJ h
theorem rO {x:As}{d:D}{v:V}(hg:Gl X x)(hm:X.mg x=Ab u)(r:qK v u)(q:∀ P α,Rep X.K P α d v)(hd:(x == ("__debug__" : As))=false:=by decide):PE X (.Name x pos) (tD X (dC d)):=
 peW (K7 hg hm r hd) λσ H Q ⟨P,α,env,S,r,re,af⟩=>xr af r (q _ _)
theorem U6 {x:As}{n:CF}(hg:Gl X x)(hm:X.mg x=none)(hv:CU x=Ab (.type n))(hn:x ≠ "__name__":=by decide)(hd:(x == ("__debug__" : As))=false:=by decide):PE X (.Name x pos) (tD X (dC (.ty n))):=
 peW (K6 (v:=.ty n) hg hm hv rfl hn hd) λσ H Q ⟨P,α,env,S,r,re,af⟩=>xr af r (by simp only[Rep])
abbrev G2:=D->D->Sto->Res D
def OpD (X:Cx)(f:Ac->Ac->Il Ac)(g:G2):Prop:=
 ∀ (pins:Aa (Af × AX)) (σ : _L.St) (H:Hp) (s:Ag) (P:Hp) (α : Aa Af) (S:Sto) (v u:V) (vv uu:Ac) (a b:D) (Q:VK),Inv X pins σ H s->Rel X.K H P α S->qK v vv->qK u uu->Rep X.K P α a v->Rep X.K P α b u->qU X P α (g a b S) Q ->
  Ao (Ar X.prog X.w) X.A (f vv uu) (EP X pins σ Q) X.xe s
theorem OpD.of {f:Ac->Ac->Il Ac}{r:R2}{g:G2}(h:OpR X f r)(w:∀ H P α S v u a b Q,Rel X.K H P α S->Rep X.K P α a v->Rep X.K P α b u->qU X P α (g a b S) Q->r v u H Q):OpD X f g:=
 λpins σ H s P α S v u vv uu a b Q I rl r1 r2 p1 p2 af=>h pins s σ H v u vv uu Q I r1 r2 (w H P α S v u a b Q rl p1 p2 af)
def UnD (X:Cx)(f:Ac->Il Ac)(g:D->Sto->Res D):Prop:=
 ∀ (pins:Aa (Af × AX)) (σ : _L.St) (H:Hp) (s:Ag) (P:Hp) (α : Aa Af) (S:Sto) (v:V) (vv:Ac) (a:D) (Q:VK),Inv X pins σ H s->Rel X.K H P α S->qK v vv->Rep X.K P α a v->qU X P α (g a S) Q ->
  Ao (Ar X.prog X.w) X.A (f vv) (EP X pins σ Q) X.xe s
def IxD (X:Cx)(g:G2):Prop:=
 ∀ (value slice:AM) (pins:Aa (Af × AX)) (σ : _L.St) (H:Hp) (s:Ag) (P:Hp) (α : Aa Af) (S:Sto) (v u:V) (vv uu:Ac) (a b:D) (Q:VK),Inv X pins σ H s->Rel X.K H P α S->qK v vv->qK u uu->Rep X.K P α a v->Rep X.K P α b u->qU X P α (g a b S) Q ->
  subscripted slice false vv uu=operate [vv,uu] (Km vv uu)->Ao (Ar X.prog X.w) X.A (Rv value slice vv uu) (EP X pins σ Q) X.xe s
def wJ (X:Cx)(f:Ac)(g:Aa D->Sto->Res D):Prop:=
 ∀ (pins:Aa (Af × AX)) (σ : _L.St) (H:Hp) (s:Ag) (P:Hp) (α : Aa Af) (S:Sto) (vs:Aa V) (us:Aa Ac) (ds:Aa D) (Q:VK),Inv X pins σ H s->Rel X.K H P α S->qJ vs us->qD X.K P α ds vs->qU X P α (g ds S) Q ->
  Ao (Ar X.prog X.w) X.A (call f us) (EP X pins σ Q) X.xe s
noncomputable def d2 (g:G2)(fa fb:DE):DE:=λenv S=>(fa env S).bind λx S1=>(fb env S1).bind λy S2=>g x y S2
noncomputable def d1 (g:D->Sto->Res D)(fa:DE):DE:=λenv S=>(fa env S).bind g
variable {fa fb:DE}
theorem lT {g:G2}{f:Ac->Ac->Il Ac}{pins:Aa (Af × AX)}{s:Ag}{σ:_L.St}{H:Hp}(ho:OpD X f g)(ha:PE X a (tD X fa))(hb:PE X b (tD X fb))(I:Inv X pins σ H s)(h:tD X (d2 g fa fb) σ H Q) :
  Ao (Ar X.prog X.w) X.A (eval a X.env) (λv s₁=>Ao (Ar X.prog X.w) X.A (eval b X.env) (λu s₂=>Ao (Ar X.prog X.w) X.A (f v u) (EP X pins σ Q) X.xe s₂) X.xe s₁) X.xe s:=by
 obtain⟨P,α,env,S,r,re,af⟩:=h;refine thn (zS ha I r re af) λvv s1 ⟨v,H1,P1,α1,d,S1,G1,af1⟩=>?_;refine thn (zS hb G1.inv G1.rel G1.env (P:=P1) (α:=α1) (Ok:=OkV X P1 α1 Q) (g:=λy S2=>g d y S2) ?_) λuu s2 ⟨u,H2,P2,α2,d',S2,G2,af2⟩=>?_
 .exact qU.base G1.same G1.pre af1
 .exact ho pins σ H2 s2 P2 α2 S2 v u vv uu d d' Q G2.inv G2.rel G1.val G2.val (Rep.mono G2.same G2.pre _ _ G1.rep) G2.rep (qU.base G2.same G2.pre af2)
theorem NV {op:Operator}{g:G2}(ho:OpD X (CS op) g)(ha:PE X a (tD X fa))(hb:PE X b (tD X fb)):PE X (.BinOp a op b pos) (tD X (d2 g fa fb)):=
 λpins s σ H Q I h=>wpAny_BinOp (lT ho ha hb I h)
theorem B9 {op:Rm}{g:G2}(ho:OpD X (Cz op) g)(ha:PE X a (tD X fa))(hb:PE X b (tD X fb))(hm:IN op b=false:=by first|exact jM _|with_unfolding_all rfl):PE X (.Compare a [op] [b] pos) (tD X (d2 g fa fb)):=
 λpins s σ H Q I h=>wpAny_Compare1 (lT ho ha hb I h) hm
theorem NW {op:UnaryOp}{g:D->Sto->Res D}(ho:UnD X (Uy op) g)(ha:PE X a (tD X fa)):PE X (.UnaryOp op a pos) (tD X (d1 g fa)):=by
 intro pins s σ H Q I h;obtain⟨P,α,env,S,r,re,af⟩:=h;exact UnaryOp_ (thn (zS ha I r re af) λvv s1 ⟨v,H1,P1,α1,d,S1,G1,af1⟩=>ho pins σ H1 s1 P1 α1 S1 v vv d Q G1.inv G1.rel G1.val G1.rep (qU.base G1.same G1.pre af1))
theorem NU {g:G2}(ho:IxD X g)(ha:PE X a (tD X fa))(hb:PE X b (tD X fb))(hs:fX b:=by intro _ _;rfl):PE X (.Subscript a b pos) (tD X (d2 g fa fb)):=by
 intro pins s σ H Q I h;obtain⟨P,α,env,S,r,re,af⟩:=h;have IxR':IxR X (λx y H Q=>∃ P α S a b,Rel X.K H P α S/\Rep X.K P α a x/\Rep X.K P α b y/\qU X P α (g a b S) Q):=λvalue slice pins s σ H x y v u Q I rx ry ⟨P,α,S,a,b,r,p1,p2,af⟩ hsl =>
  ho value slice pins σ H s P α S x y v u a b Q I r rx ry p1 p2 af hsl
 refine peW (DJ IxR' ha hb hs) (t':=tD X (d2 g fa fb)) (λσ H Q h=>?_) pins s σ H Q I ⟨P,α,env,S,r,re,af⟩;obtain⟨P,α,env,S,r,re,af⟩:=h;refine⟨P,α,env,S,r,re,?_⟩;unfold d2 at af;cases q:fa env S with
 |bad=>rw[q] at af;exact af
 |ex c x S'=>rw[q] at af;exact af
 |ok d S1 =>
  rw[q] at af;intro v H1 P1 α1 r1 e1 e2 rp;refine⟨P1,α1,env,S1,r1,re.mono e1 e2,?_⟩;have af':qU X P α ((fb env S1).bind λy S2=>g d y S2) Q:=af;cases q2:fb env S1 with
  |bad=>rw[q2] at af';exact af'
  |ex c x S'=>rw[q2] at af';exact λu s' z=>af' u s' (z.base e1 e2)
  |ok d' S2 =>
   rw[q2] at af';intro u H2 P2 α2 r2 e3 e4 rp2;exact⟨P2,α2,S2,d,d',r2,Rep.mono e3 e4 _ _ rp,rp2,qU.base (e1.trans e3) (e2.trans e4) af'⟩
noncomputable def qB:DA:=λ_ S=>.ok [] S
noncomputable def qA (f:DE)(g:DA):DA:=λenv S=>(f env S).bind λx S1=>(g env S1).bind λxs S2=>.ok (x::xs) S2
theorem B0:PA X [] (tDA X qB):=paW MP λσ H Q ⟨P,α,env,S,r,re,af⟩=>af [] H P α r (qF.refl _) (AA _) .nil
theorem U5 {es:Aa AM}{g:DA}(ha:PE X e (tD X fa))(hr:PA X es (tDA X g))(hs:Ay (e::es) X.env=(false,eval e X.env)::Ay es X.env:=by rfl):PA X (e::es) (tDA X (qA fa g)):=by
 intro pos pins s σ H Q I h;obtain⟨P,α,env,S,r,re,af⟩:=h;rw[hs];show Ao _ _ (spliced ((false,eval e X.env)::Di pos (Ay es X.env))) _ _ s;refine Et (thn (zS ha I r re af) λu s1 ⟨x,H1,P1,α1,d,S1,G1,af1⟩=>?_);refine thn (xS hr G1.inv G1.rel G1.env (P:=P1) (α:=α1) (Ok:=OkA X P1 α1 Q) (gA.base G1.same G1.pre af1) pos) λus s2 ⟨xs,H2,P2,α2,ds,S2,I2,rv,r2,re2,rp2,e1,e2,af2⟩=>?_;exact⟨x::xs,H2,I2,.cons G1.val rv,af2 _ _ _ _ r2 e1 e2 (.cons (Rep.mono e1 e2 _ _ G1.rep) rp2)⟩
noncomputable def lim:Ai:=16777216
theorem zX:lim=sizeLine:=Dj.symm
noncomputable def zL (f:DA):DE:=λenv S=>(f env S).bind λxs S1=>if xs.length<=lim then .ok (.tup xs) S1 else .bad
noncomputable def zT (f:DA):DE:=λenv S=>(f env S).bind λxs S1=>if xs.length<=lim then .ok (.lst xs) S1 else .bad
noncomputable def nW (f:DA):DE:=λenv S=>(f env S).bind λxs S1=>if xs.length<=lim then .ok (.loc S1.length) (S1++[.lst xs]) else .bad
theorem t7 {K:Aj}{P:Hp}{α:Aa Af}{a:Af}{ds:Aa D}(h:SqT K P a vs)(r:qD K P α ds vs):Rep K P α (.tup ds) (.ref a):=by simp only[Rep];exact⟨a,vs,rfl,h,r⟩
theorem mZ {K:Aj}{P:Hp}{α:Aa Af}{a:Af}{ds:Aa D}(h:SqX K P a vs)(r:qD K P α ds vs):Rep K P α (.lst ds) (.ref a):=by simp only[Rep];exact⟨a,vs,rfl,h,r⟩
theorem u0 {H P:Hp}{α:Aa Af}{ds:Aa D}(r:Rel X.K H P α S)(hp:H p=none)(rp:qD X.K P α ds vs)(af:OkV X P α Q (.tup ds) S):Q (.ref p) (upd H p (.tup vs)):=by
 obtain⟨r1,e1⟩:=r.pure (o:=.tup vs) hp;exact af _ _ _ α r1 e1 (AA _) (t7 (.of qV) (qD.mono e1 (AA _) _ _ rp))
theorem wD {H P:Hp}{α:Aa Af}{ds:Aa D}(r:Rel X.K H P α S)(hp:H p=none)(rp:qD X.K P α ds vs)(af:OkV X P α Q (.lst ds) S):Q (.ref p) (upd H p (.lst vs)):=by
 obtain⟨r1,e1⟩:=r.pure (o:=.lst vs) hp;exact af _ _ _ α r1 e1 (AA _) (mZ (.inl (.inl qV)) (qD.mono e1 (AA _) _ _ rp))
theorem mT {H P:Hp}{α:Aa Af}{ds:Aa D}(r:Rel X.K H P α S)(hp:H p=none)(rp:qD X.K P α ds vs)(af:OkV X P α Q (.loc S.length) (S++[.lst ds])):Q (.ref p) (upd H p (.lst vs)):=by
 have hpre:α<+:α++[p]:=Jk _ _;have r1:=r.new (o:=.lst vs) (m:=.lst ds) hp ⟨vs,qV,qD.mono (qF.refl _) hpre _ _ rp⟩;refine af _ _ _ _ r1 (qF.refl _) hpre ?_;simp only[Rep];exact⟨p,rfl,by rw[<- r.len];simp⟩
theorem mC {f:DA}{σ:_L.St}{H:Hp}{G:Aa D->Sto->Res D}{mk:Aa V->HO}(h:tD X (λenv S=>(f env S).bind λxs S1=>if xs.length<=lim then G xs S1 else .bad) σ H Q)
  (k:∀ H1 P1 α1 S1 ds vs p,Rel X.K H1 P1 α1 S1->H1 p=none->qD X.K P1 α1 ds vs->qU X P1 α1 (G ds S1) Q->Q (.ref p) (upd H1 p (mk vs))) :
  tDA X f σ H λvs H1=>vs.length<=sizeLine/\∀ p,H1 p=none->Q (.ref p) (upd H1 p (mk vs)):=by
 obtain⟨P,α,env,S,r,re,af⟩:=h;refine⟨P,α,env,S,r,re,?_⟩;have af':qU X P α ((f env S).bind λxs S1=>if xs.length<=lim then G xs S1 else .bad) Q:=af
 cases q:f env S with
 |bad=>rw[q] at af';exact af'
 |ex c x S'=>rw[q] at af';exact af'
 |ok ds S1 =>
  rw[q] at af';intro vs H1 P1 α1 r1 e1 e2 rp;have af2:qU X P α (if ds.length<=lim then G ds S1 else .bad) Q:=af'
  by_cases hl:ds.length<=lim
  .rw[AF hl] at af2
   exact⟨by rw[<- rp.length,<- zX];exact hl,λp hp=>k H1 P1 α1 S1 ds vs p r1 hp rp (qU.base e1 e2 af2)⟩
  .rw[AC hl] at af2;exact An af2
theorem BH {es:Aa AM}{f:DA} {x1} (h:PA X es (tDA X f)):PE X (.Tuple es x1 pos) (tD X (zL f)):=
 peW (MV h) λσ H Q q=>mC (G:=λxs S1=>.ok (.tup xs) S1) (mk:=.tup) q λH1 P1 α1 S1 ds vs p r hp rp af=>u0 r hp rp af
theorem BC {es:Aa AM}{f:DA}(h:PA X es (tDA X f)):PE X (.List es pos) (tD X (zT f)):=
 peW (QH h) λσ H Q q=>mC (G:=λxs S1=>.ok (.lst xs) S1) (mk:=.lst) q λH1 P1 α1 S1 ds vs p r hp rp af=>wD r hp rp af
theorem UA {es:Aa AM}{f:DA}(h:PA X es (tDA X f)):PE X (.List es pos) (tD X (nW f)):=
 peW (QH h) λσ H Q q=>mC (G:=λxs S1=>.ok (.loc S1.length) (S1++[MO.lst xs])) (mk:=.lst) q λH1 P1 α1 S1 ds vs p r hp rp af=>mT r hp rp af
end
section
variable {X:Cx}{a b c e:AM}{pos:CN}{fa fb fc:DE}{ta tb:DT}
noncomputable def xO:D->Sto->Al Ap
 |.non,_=>Ab false
 |.bl b,_=>Ab b
 |.int i,_=>Ab (i != 0)
 |.str x,_=>if x.length<=lim then Ab ((x.length:Am) != 0) else none
 |.tup xs,_=>Ab (!xs.isEmpty)
 |.lst xs,_=>Ab (!xs.isEmpty)
 |.dct0,_=>Ab false
 |.loc i,S=>match S[i]? with
  |some (.lst xs)=>Ab (!xs.isEmpty)
  |some (.dct kvs)=>Ab (!kvs.isEmpty)
  |_=>none
 |_,_=>none
theorem qD.isEmpty {K:Aj}{P:Hp}{α:Aa Af}{ds:Aa D}(r:qD K P α ds vs):(!ds.isEmpty)=!vs.isEmpty:=by
 cases ds with
 |nil=>rw[r.nil_inv];rfl
 |cons d ds=>obtain⟨w,ws,rfl,_,_⟩:=r.cons_inv;rfl
theorem xG {K:Aj}{H P:Hp}(e:qF P H){a:Af}{xs:Aa V}(h:SqT K P a xs):SqT K H a xs:=yE e h
theorem vK {H P:Hp}{α:Aa Af}{v:V}{d:D}{k:Ap}(r:Rel X.K H P α S)(p:Rep X.K P α d v)(h:xO d S=Ab k):cL X.K v H k:=by
 cases d with
 |non=>simp only[Rep] at p;subst p;cases h;rfl
 |bl b=>simp only[Rep] at p;subst p;cases h;rfl
 |int i=>simp only[Rep] at p;subst p;cases h;rfl
 |str x =>
  simp only[Rep] at p;subst p;obtain⟨hl,rfl⟩:=kG h;exact⟨by rw[<- zX];exact hl,rfl⟩
 |tup xs =>
  simp only[Rep] at p;obtain⟨a,vs,rfl,q,t⟩:=p;cases h;exact .inr (.inl ⟨vs,xG r.sub q,t.isEmpty⟩)
 |lst xs =>
  simp only[Rep] at p;obtain⟨a,vs,rfl,q,t⟩:=p;cases h;exact .inl ⟨vs,(xA r.sub q).l,t.isEmpty⟩
 |dct0 =>
  simp only[Rep] at p;obtain⟨a,rfl,q⟩:=p;cases h;exact .inr (.inr ⟨[],r.sub _ _ q,rfl⟩)
 |loc i =>
  simp only[Rep] at p;obtain⟨a,rfl,q⟩:=p;have h:(match S[i]? with|some (.lst xs)=>Ab (!xs.isEmpty)|some (.dct kvs)=>Ab (!kvs.isEmpty)|_=>none)=Ab k:=h
  cases hs:S[i]? with
  |none=>rw[hs] at h;exact nn h
  |some m =>
   rw[hs] at h;cases m with
   |lst xs =>
    cases h;obtain⟨vs,z,t⟩:=r.at' i a _ q hs;exact .inl ⟨vs,.of z,t.isEmpty⟩
   |dct kvs =>
    cases h;obtain⟨vs,z,t⟩:=r.at' i a _ q hs;refine .inr (.inr ⟨vs,z,?_⟩);cases t <;> rfl
   |_=>exact nn h
 |ty n=>exact nn h
 |obj a=>exact nn h
 |exn c=>exact nn h
 |fd ks ds=>exact nn h
 |clo a vs ds=>exact nn h
theorem VM {pins:Aa (Af × AX)}{s:Ag}{σ:_L.St}{H P:Hp}{α:Aa Af}{v:V}{d:D}{k:Ap}{Q:Ap->Hp->Prop}(I:Inv X pins σ H s)(r:Rel X.K H P α S)(rv:qK v vv)(p:Rep X.K P α d v)(h:xO d S=Ab k)(q:Q k H) :
  Ao (Ar X.prog X.w) X.A (truthy vv) (TP X pins σ Q) X.xe s:=gX pins s σ H v vv Q I rv ⟨k,vK r p h,q⟩
noncomputable def jA (o:Al Ap)(S:Sto):Res Ap:=match o with
 |some b=>.ok b S
 |none=>.bad
noncomputable def dTr (f:DE):DT:=λenv S=>(f env S).bind λd S1=>jA (xO d S1) S1
theorem t8 {o:Al Ap}{P:Hp}{α:Aa Af}{Ok:Ap->Sto->Prop}(h:qG X P α (jA o S) Ok):∃ b,o=Ab b/\Ok b S:=by
 cases o with
 |none=>exact An h
 |some b=>exact⟨b,rfl,h⟩
theorem BZ (ha:PE X a (tD X fa))(he:∀ whole,isTrue a X.env whole=(do let v <- whole;NE a.pos;holding [v] (truthy v)):=by intro _;rfl):PT X a (tDT X (dTr fa)):=by
 intro pins s σ H Q I h;obtain⟨P,α,env,S,r,re,af⟩:=h;refine isTrue_plain (thn (zS ha I r re af) λvv s1 ⟨v,H1,P1,α1,d,S1,G1,af1⟩=>?_) (he _);obtain⟨k,e1,q⟩:=t8 af1;exact VM G1.inv G1.rel G1.val G1.rep e1 (q H1 P1 α1 G1.rel G1.same G1.pre)
theorem BX {op:Rm}{g:G2}(ho:OpD X (Cz op) g)(ha:PE X a (tD X fa))(hb:PE X b (tD X fb))(hm:IN op b=false:=by first|exact jM _|with_unfolding_all rfl):PT X (.Compare a [op] [b] pos) (tDT X (dTr (d2 g fa fb))):=by
 intro pins s σ H Q I h;obtain⟨P,α,env,S,r,re,af⟩:=h;refine wpAny_isTrue_Compare1 ?_ hm;have key:tD X (d2 g fa fb) σ H (λv H1=>∃ k,cL X.K v H1 k/\Q k H1):=by
  refine⟨P,α,env,S,r,re,?_⟩;have af':qG X P α ((d2 g fa fb env S).bind λd S1=>jA (xO d S1) S1) (OkT X P α Q):=af;cases q:d2 g fa fb env S with
  |bad=>rw[q] at af';exact af'
  |ex c x S'=>rw[q] at af';exact af'
  |ok d S1 =>
   rw[q] at af';obtain⟨k,e1,qk⟩:=t8 (X:=X) af';exact λv H1 P1 α1 r1 e3 e4 rp=>⟨k,vK r1 rp e1,qk H1 P1 α1 r1 e3 e4⟩
 exact thn (lT ho ha hb I key) λv s1 h1=>thn h1 λu s2 h2=>thn h2 λx s3 ⟨y,H3,I3,r3,k,tk,qk⟩=>gX pins s3 σ H3 y x Q I3 r3 ⟨k,tk,qk⟩
noncomputable def wG (g g':G2)(fa fb fc:DE):DE:=λenv S=>(fa env S).bind λx S1=>(fb env S1).bind λy S2=>(g x y S2).bind λz S3 =>
 match xO z S3 with
 |some true=>(fc env S3).bind λw S4=>g' y w S4
 |some false=>.ok z S3
 |none=>.bad
inductive GotO (X:Cx)(pins:Aa (Af × AX))(σ : _L.St)(P:Hp)(α : Aa Af)(w:Ac)(s1:Ag){γ : Type}(k:D->Sto->Res γ)(Ok:γ->Sto->Prop):Prop
 |mk (y:V) (H1 P1:Hp) (α1:Aa Af) (d:D) (S1:Sto) (I:Inv X pins σ H1 s1) (rv:qK y w) (r:Rel X.K H1 P1 α1 S1) (rp:Rep X.K P1 α1 d y) (e1:qF P P1) (e2:α<+:α1) (q:qG X P α (k d S1) Ok):GotO X pins σ P α w s1 k Ok
theorem dW {γ:Type}{f:Ac->Ac->Il Ac}{g:G2}{k:D->Sto->Res γ}{Ok:γ->Sto->Prop}{pins:Aa (Af × AX)}{σ:_L.St}{H:Hp}{s:Ag}{P:Hp}{α:Aa Af}{v u:V}{uu:Ac}{a b:D}(ho:OpD X f g)(I:Inv X pins σ H s)(r:Rel X.K H P α S)
  (rv:qK v vv) (ru:qK u uu) (pa:Rep X.K P α a v) (pb:Rep X.K P α b u) (af:qG X P α ((g a b S).bind k) Ok) :
  Ao (Ar X.prog X.w) X.A (f vv uu) (λw s1=>GotO X pins σ P α w s1 k Ok) X.xe s:=by
 refine thn (ho pins σ H s P α S v u vv uu a b (λy H1=>∃ P1 α1 d S1,Rel X.K H1 P1 α1 S1/\Rep X.K P1 α1 d y/\qF P P1/\α<+:α1/\qG X P α (k d S1) Ok) I r rv ru pa pb ?_) λw s1 ⟨y,H1,I1,r1,P1,α1,d,S1,q1,q2,q3,q4,q5⟩=>⟨y,H1,P1,α1,d,S1,I1,r1,q1,q2,q3,q4,q5⟩;cases q:g a b S with
 |bad=>rw[q] at af;exact af
 |ex c x S'=>rw[q] at af;exact af
 |ok d S' =>
  rw[q] at af;exact λv H' P' α' r' e1 e2 rp=>⟨P',α',d,S',r',rp,e1,e2,af⟩
theorem qG.base' {β:Type}{P P1:Hp}{α α1:Aa Af}{r:Res β}{Ok Ok1:β->Sto->Prop}(e:qF P P1)(h:α<+:α1)(ho:∀ d S,Ok d S->Ok1 d S)(k:qG X P α r Ok):qG X P1 α1 r Ok1:=by
 cases r with
 |ok d S=>exact ho d S k
 |ex c x S=>exact λu s' q=>k u s' (q.base e h)
 |bad=>exact k
theorem XA {op op':Rm}{g g':G2}(ho:OpD X (Cz op) g)(ho':OpD X (Cz op') g')(ha:PE X a (tD X fa))(hb:PE X b (tD X fb))(hc:PE X c (tD X fc))
  (hm:Ui [op,op'] [b,c]=false:=by with_unfolding_all rfl):PE X (.Compare a [op,op'] [b,c] pos) (tD X (wG g g' fa fb fc)):=by
 intro pins s σ H Q I h;obtain⟨P,α,env,S,r,re,af⟩:=h;refine Compare_chain (thn (zS ha I r re af) λvv s1 ⟨v,H1,P1,α1,d,S1,G1,af1⟩=>chain_link (thn (zS hb G1.inv G1.rel G1.env (qU.base G1.same G1.pre af1)) λuu s2 ⟨u,H2,P2,α2,d',S2,G2,af2⟩ =>
  thn (dW ho G2.inv G2.rel G1.val G2.val (Rep.mono G2.same G2.pre _ _ G1.rep) G2.rep (qU.base G2.same G2.pre af2)) λw s3 ⟨y,H3,P3,α3,z,S3,I3,r3,rl3,rp3,e3,e4,af3⟩=>?_)) hm
 cases ht:xO z S3 with
 |none=>simp only[ht] at af3;exact An af3
 |some k =>
  simp only[ht] at af3;have tv:=vK rl3 rp3 ht;refine thn (gX pins s3 σ H3 y w (λk' H'=>k'=k/\H'=H3) I3 r3 ⟨k,tv,rfl,rfl⟩) λk' s4 ⟨H4,I4,hk,hH⟩=>?_;subst hk;subst hH;cases k' with
  |false=>exact ite_ff ⟨y,H4,I4,r3,af3 y H4 P3 α3 rl3 e3 e4 rp3⟩
  |true =>
   refine ite_tt (chain_last (thn (zS hc I4 rl3 (G2.env.mono e3 e4) (qU.base e3 e4 af3)) λww s5 ⟨w',H5,P5,α5,d5,S5,G5,af5⟩=>?_));exact ho' pins σ H5 s5 P5 α5 S5 u w' uu ww d' d5 Q G5.inv G5.rel G2.val G5.val (Rep.mono (e3.trans G5.same) (e4.trans G5.pre) _ _ G2.rep) G5.rep (qU.base G5.same G5.pre af5)
theorem XJ {op op':Rm}{g g':G2}(ho:OpD X (Cz op) g)(ho':OpD X (Cz op') g')(ha:PE X a (tD X fa))(hb:PE X b (tD X fb))(hc:PE X c (tD X fc))
  (hm:Ui [op,op'] [b,c]=false:=by with_unfolding_all rfl):PT X (.Compare a [op,op'] [b,c] pos) (tDT X (dTr (wG g g' fa fb fc))):=by
 intro pins s σ H Q I h;obtain⟨P,α,env,S,r,re,af⟩:=h;have af':qG X P α ((wG g g' fa fb fc env S).bind λd S1=>jA (xO d S1) S1) (OkT X P α Q):=af;have assoc:(wG g g' fa fb fc env S).bind (λd S1=>jA (xO d S1) S1)=(fa env S).bind λx S1=>(fb env S1).bind λy S2=>(g x y S2).bind λz S3 =>
   match xO z S3 with
   |some true=>((fc env S3).bind λw S4=>g' y w S4).bind λd S1=>jA (xO d S1) S1
   |some false=>.ok false S3
   |none=>.bad:=by
  unfold wG;cases fa env S with
  |bad=>rfl
  |ex _ _ _=>rfl
  |ok x S1 =>
   show Res.bind (Res.bind (fb env S1) _) _=Res.bind (fb env S1) _;cases fb env S1 with
   |bad=>rfl
   |ex _ _ _=>rfl
   |ok y S2 =>
    show Res.bind (Res.bind (g x y S2) _) _=Res.bind (g x y S2) _;cases g x y S2 with
    |bad=>rfl
    |ex _ _ _=>rfl
    |ok z S3 =>
     show Res.bind (match xO z S3 with|some true=>(fc env S3).bind λw S4=>g' y w S4|some false=>.ok z S3|none=>.bad) _=_
     cases ht:xO z S3 with
     |none=>simp only[ht,Res.bind]
     |some k=>cases k <;> simp only[ht,Res.bind,jA]
 rw[assoc] at af';refine isTrue_chain (thn (zS ha I r re af') λvv s1 ⟨v,H1,P1,α1,d,S1,G1,af1⟩=>test_link (thn (zS hb G1.inv G1.rel G1.env (yI.base G1.same G1.pre af1)) λuu s2 ⟨u,H2,P2,α2,d',S2,G2,af2⟩ =>
  thn (dW ho G2.inv G2.rel G1.val G2.val (Rep.mono G2.same G2.pre _ _ G1.rep) G2.rep (yI.base G2.same G2.pre af2)) λw s3 ⟨y,H3,P3,α3,z,S3,I3,r3,rl3,rp3,e3,e4,af3⟩=>?_)) hm
 cases ht:xO z S3 with
 |none=>simp only[ht] at af3;exact An af3
 |some k =>
  simp only[ht] at af3;have tv:=vK rl3 rp3 ht;refine thn (gX pins s3 σ H3 y w (λk' H'=>k'=k/\H'=H3) I3 r3 ⟨k,tv,rfl,rfl⟩) λk' s4 ⟨H4,I4,hk,hH⟩=>?_;subst hk;subst hH;cases k' with
  |false=>exact ite_ff ⟨H4,I4,af3 H4 P3 α3 rl3 e3 e4⟩
  |true =>
   have af4:qG X P2 α2 ((fc env S3).bind λw S4=>(g' d' w S4).bind λd S1=>jA (xO d S1) S1) (OkT X P2 α2 Q):=by
    have e:((fc env S3).bind λw S4=>(g' d' w S4).bind λd S1=>jA (xO d S1) S1)=(((fc env S3).bind λw S4=>g' d' w S4).bind λd S1=>jA (xO d S1) S1):=by
     cases fc env S3 <;> rfl
    rw[e];exact af3
   refine ite_tt (test_last (thn (zS hc I4 rl3 (G2.env.mono e3 e4) (yI.base e3 e4 af4)) λww s5 ⟨w',H5,P5,α5,d5,S5,G5,af5⟩ =>
    thn (dW ho' G5.inv G5.rel G2.val G5.val (Rep.mono (e3.trans G5.same) (e4.trans G5.pre) _ _ G2.rep) G5.rep (yI.base G5.same G5.pre af5)) λx6 s6 ⟨y6,H6,P6,α6,d6,S6,I6,r6,rl6,rp6,e5,e6,af6⟩=>?_))
   obtain⟨k6,q6,z6⟩:=t8 af6;exact VM I6 rl6 r6 rp6 q6 (z6 H6 P6 α6 rl6 e5 e6)
noncomputable def xK (t:DT):DT:=λenv S=>(t env S).bind λb S1=>.ok (!b) S1
noncomputable def k8 (t u:DT):DT:=λenv S=>(t env S).bind λb S1=>if b then .ok true S1 else u env S1
theorem BY (ha:PT X a (tDT X ta)):PT X (.UnaryOp .Not a pos) (tDT X (xK ta)):=by
 intro pins s σ H Q I h;obtain⟨P,α,env,S,r,re,af⟩:=h;refine isTrue_not (thn (lU (λQ' q=>ha pins s σ H Q' I q) r re af) λb s1 ⟨H1,P1,α1,S1,I1,r1,re1,e1,e2,af1⟩=>⟨H1,I1,af1 H1 P1 α1 r1 e1 e2⟩)
def PWD (X:Cx)(e:AM)(t:DT):Prop:=PW X e (tDT X t)
theorem PWD.pt {t:DT}(h:PWD X e t):PT X e (tDT X t):=h _
theorem F0 (ha:PT X a (tDT X ta)):PWD X (.BoolOp .Or [a] pos) ta:=T3 ha
theorem L7 {qO:Aa AM}(ha:PT X a (tDT X ta))(hb:PWD X (.BoolOp .Or (b::qO) pos) tb):PWD X (.BoolOp .Or (a::b::qO) pos) (k8 ta tb):=by
 intro wh pins s σ H Q I h;obtain⟨P,α,env,S,r,re,af⟩:=h;refine isTrue_or (thn (lU (λQ' q=>ha pins s σ H Q' I q) r re af) λk s1 ⟨H1,P1,α1,S1,I1,r1,re1,e1,e2,af1⟩=>?_);cases k with
 |true=>exact⟨H1,I1,af1 H1 P1 α1 r1 e1 e2⟩
 |false=>exact hb wh pins s1 σ H1 Q I1 ⟨P1,α1,env,S1,r1,re1,yI.base e1 e2 af1⟩
noncomputable def uZ (f g:DE):DE:=λenv S=>(f env S).bind λx S1=>match xO x S1 with
 |some true=>g env S1
 |some false=>.ok x S1
 |none=>.bad
noncomputable def cS (f:DE):DE:=λenv S=>(f env S).bind λx S1=>match xO x S1 with
 |some b=>.ok (.bl (!b)) S1
 |none=>.bad
theorem BF  (h:PE X a (tD X fa)):PE X (.BoolOp op [a] pos) (tD X fa):=MT h
theorem N6 {pins:Aa (Af × AX)}{s:Ag}{σ:_L.St}{H:Hp}{v:V}{k:Ap}{R:Ap->Ag->Prop}(I:Inv X pins σ H s)(rv:qK v vv)(t:cL X.K v H k)(h:∀ s',Inv X pins σ H s'->R k s') :
  Ao (Ar X.prog X.w) X.A (truthy vv) R X.xe s:=thn (gX pins s σ H v vv (λk' H'=>k'=k/\H'=H) I rv ⟨k,t,rfl,rfl⟩) λk' s4 ⟨H4,I4,hk,hH⟩=>by subst hk;subst hH;exact h s4 I4
theorem B6 {qO:Aa AM}(ha:PE X a (tD X fa))(hb:PE X (.BoolOp .And (b::qO) pos) (tD X fb)):PE X (.BoolOp .And (a::b::qO) pos) (tD X (uZ fa fb)):=by
 intro pins s σ H Q I h;obtain⟨P,α,env,S,r,re,af⟩:=h;refine BoolOp_and (thn (zS ha I r re af) λvv s1 ⟨v,H1,P1,α1,d,S1,G1,af1⟩=>?_);cases ht:xO d S1 with
 |none=>simp only[ht] at af1;exact An af1
 |some k =>
  simp only[ht] at af1;refine N6 G1.inv G1.val (vK G1.rel G1.rep ht) λs2 I2=>?_;cases k with
  |true=>exact hb pins s2 σ H1 Q I2 ⟨P1,α1,env,S1,G1.rel,G1.env,qU.base G1.same G1.pre af1⟩
  |false=>exact⟨v,H1,I2,G1.val,af1 v H1 P1 α1 G1.rel G1.same G1.pre G1.rep⟩
theorem BE (ha:PE X a (tD X fa)):PE X (.UnaryOp .Not a pos) (tD X (cS fa)):=by
 intro pins s σ H Q I h;obtain⟨P,α,env,S,r,re,af⟩:=h;refine UnaryOp_ (thn (zS ha I r re af) λvv s1 ⟨v,H1,P1,α1,d,S1,G1,af1⟩=>?_);cases ht:xO d S1 with
 |none=>simp only[ht] at af1;exact An af1
 |some k =>
  simp only[ht] at af1;exact not_of (N6 G1.inv G1.val (vK G1.rel G1.rep ht) λs2 I2=>⟨.bl (!k),H1,I2,rfl,af1 (.bl (!k)) H1 P1 α1 G1.rel G1.same G1.pre (by simp only[Rep])⟩)
end
@[inline] def Res.toS {β:Type}(env:qE)(r:Res β)(k:β->Sto->Out):Out:=
 match r with
 |.ok d S=>k d S
 |.ex c x S=>.ex c x env S
 |.bad=>.bad
section
variable {X:Cx}{a b c e:AM}{pos:CN}{fa fb fc:DE}{ta tb:DT}{f g:DS}{st:Dd}{qO:Aa Dd}
noncomputable def zN:DS:=λenv S=>.nx env S
noncomputable def qQ (f g:DS):DS:=λenv S=>match f env S with
 |.nx env1 S1=>g env1 S1
 |o=>o
theorem BQ:PSs X [] (tDS X zN):=MZ KD λD σ H ⟨P,α,env,S,r,re,af⟩=>af σ H P α r re (qF.refl _) (AA _)
theorem UM (h1:PS X st (tDS X f))(h2:PSs X qO (tDS X g)):PSs X (st::qO) (tDS X (qQ f g)):=MZ (WY h1 h2) λD σ H ⟨P,α,env,S,r,re,af⟩=>by
 refine⟨P,α,env,S,r,re,?_⟩;unfold qQ at af;cases q:f env S with
 |nx env1 S1 =>
  rw[q] at af;exact λσ' H' P' α' r' re' e1 e2=>⟨P',α',env1,S1,r',re',z9.base e1 e2 af⟩
 |rt d S1=>rw[q] at af;exact af
 |bk env1 S1=>rw[q] at af;exact af
 |ct env1 S1=>rw[q] at af;exact af
 |ex c x env1 S1=>rw[q] at af;exact af
 |bad=>rw[q] at af;exact af
theorem BR (h1:PS X st (tDS X f)):PSs X [st] (tDS X f):=KE h1
theorem wR {β:Type}{P:Hp}{α:Aa Af}{env:qE}{r:Res β}{k:β->Sto->Out}{D:Ends}(h:z9 X P α (r.toS env k) D):qG X P α r λd S=>z9 X P α (k d S) D:=by
 cases r with
 |ok d S=>exact h
 |ex c x S=>exact h
 |bad=>exact h
inductive GotS (X:Cx)(pins:Aa (Af × AX))(σ : _L.St)(env:qE)(P:Hp)(α : Aa Af)(u:Ac)(s1:Ag)(k:D->Sto->Out)(E:Ends):Prop
 |mk (v:V) (H1 P1:Hp) (α1:Aa Af) (d:D) (S1:Sto) (G:Got X pins σ env P α u s1 v H1 P1 α1 d S1) (q:z9 X P1 α1 (k d S1) E):GotS X pins σ env P α u s1 k E
theorem bR {k:D->Sto->Out}{pins:Aa (Af × AX)}{s:Ag}{σ:_L.St}{H P:Hp}{α:Aa Af}{env:qE}{D:Ends}(he:PE X e (tD X fa))(I:Inv X pins σ H s)(r:Rel X.K H P α S)
  (re:qY X.K P α σ env) (af:z9 X P α ((fa env S).toS env k) D) :
  Ao (Ar X.prog X.w) X.A (eval e X.env) (λu s1=>GotS X pins σ env P α u s1 k D) X.xe s:=by
 have af1:qG X P α ((fa env S).bind λd S=>.ok d S) λd S=>z9 X P α (k d S) D:=by
  have:=wR af;cases q:fa env S <;> rw[q] at this <;> exact this
 exact thn (zS he I r re af1) λu s1 ⟨v,H1,P1,α1,d,S1,G,q⟩=>⟨v,H1,P1,α1,d,S1,G,z9.base G.same G.pre q⟩
noncomputable def yD (f:DE):DS:=λenv S=>(f env S).toS env λ_ S1=>.nx env S1
theorem UN (he:PE X e (tD X fa))(hs:Jz e none pos.line X.env=pure false:=by rfl):PS X (.Expr e pos) (tDS X (yD fa)):=by
 intro pins s σ H D I h;obtain⟨P,α,env,S,r,re,af⟩:=h;exact wpAny_Expr_any (thn (bR he I r re af) λv s1 ⟨x,H1,P1,α1,d,S1,G,q⟩=>⟨σ,H1,G.inv,q σ H1 P1 α1 G.rel G.env (qF.refl _) (AA _)⟩) I.quiet hs
noncomputable def z0 (f:DE):DS:=λenv S=>(f env S).toS env λd S1=>.rt d S1
theorem BU (he:PE X e (tD X fa)):PS X (.Return (Ab e) pos) (tDS X (z0 fa)):=by
 intro pins s σ H D I h;obtain⟨P,α,env,S,r,re,af⟩:=h;exact wpAny_Return_some (thn (bR he I r re af) λv s1 ⟨x,H1,P1,α1,d,S1,G,q⟩=>⟨x,σ,H1,G.inv,G.val,q x H1 P1 α1 G.rel (qF.refl _) (AA _) G.rep⟩)
noncomputable def sIf (t:DT)(f g:DS):DS:=λenv S=>(t env S).toS env λb S1=>if b then f env S1 else g env S1
theorem L4 {as bs:Aa Dd}(hc:PT X c (tDT X ta))(ha:PSs X as (tDS X f))(hb:PSs X bs (tDS X g)):PS X (.If c as bs pos) (tDS X (sIf ta f g)):=by
 intro pins s σ H D I h;obtain⟨P,α,env,S,r,re,af⟩:=h;have af1:qG X P α ((ta env S).bind λd S=>.ok d S) λb S=>z9 X P α (if b then f env S else g env S) D:=by
  have:=wR af;cases q:ta env S <;> rw[q] at this <;> exact this
 refine wpAny_If (thn (lU (λQ' q=>hc pins s σ H Q' I q) r re af1) λk s1 ⟨H1,P1,α1,S1,I1,r1,re1,e1,e2,af2⟩=>?_);cases k with
 |true=>exact ha pins s1 σ H1 D I1 ⟨P1,α1,env,S1,r1,re1,z9.base e1 e2 af2⟩
 |false=>exact hb pins s1 σ H1 D I1 ⟨P1,α1,env,S1,r1,re1,z9.base e1 e2 af2⟩
abbrev DG:=D->qE->Sto->Res qE
abbrev DGs:=Aa D->qE->Sto->Res qE
def OkE (X:Cx)(P:Hp)(α : Aa Af)(Q:_L.St->Hp->Prop)(env':qE)(S':Sto):Prop:=∀ σ' H' P' α',Rel X.K H' P' α' S'->qY X.K P' α' σ' env'->qF P P'->α<+:α'->Q σ' H'
def tDG (X:Cx)(g:DG):TG:=λv σ H Q=>∃ P α env S d,Rel X.K H P α S/\qY X.K P α σ env/\Rep X.K P α d v/\qG X P α (g d env S) (OkE X P α Q)
def sL (X:Cx)(g:DGs):TGs:=λvs σ H Q=>∃ P α env S ds,Rel X.K H P α S/\qY X.K P α σ env/\qD X.K P α ds vs/\qG X P α (g ds env S) (OkE X P α Q)
theorem qY.set {K:Aj}{P:Hp}{α:Aa Af}{σ:_L.St}{env:qE}{d:D}{v:V}(re:qY K P α σ env)(i:Ai)(rp:Rep K P α d v):qY K P α (σ.set i (Ab v)) (env.set i (Ab d)):=by
 refine⟨by simp[re.1],λj d' e=>?_⟩
 by_cases hj:i=j
 .subst hj
  by_cases hi:i<env.length
  .rw[Ea hi] at e
   cases e;exact⟨v,by rw[Ea (by rw[<- re.1];exact hi)],rp⟩
  .rw[Kn (by simp;omega)] at e;cases e
 .rw[CQ hj] at e ⊢
  exact re.2 j d' e
noncomputable def gNm (i:Ai):DG:=λd env S=>.ok (env.set i (Ab d)) S
theorem UF {i:Ai}{x:As}(hN:X.N.Nodup)(hi:X.N[i]? = Ab x:=by rfl)(hx:Loc X.env.scope x:=by first|exact Xc rfl|exact Vf rfl)(hf:X.fn x=true\/X.env.scope.names.lookup x=Ab .local:=by first|exact .inl rfl|exact .inr rfl|assumption):PG X (.Name x pos) (tDG X (gNm i)):=by
 intro pins s σ H v u Q I rv h;obtain⟨P,α,env,S,d,r,re,rp,af⟩:=h;exact K8 hN hi hx hf pins s σ H v u Q I rv (af _ H P α r (re.set i rp) (qF.refl _) (AA _))
noncomputable def yM:DGs:=λds env S=>match ds with
 |[]=>.ok env S
 |_=>.bad
noncomputable def zU (g:DG)(gs:DGs):DGs:=λds env S=>match ds with
 |d::r=>(g d env S).bind λenv1 S1=>gs r env1 S1
 |[]=>.bad
theorem UG:PGs X [] (sL X yM):=by
 intro pins s σ H vs us Q I rv h;obtain⟨P,α,env,S,ds,r,re,rp,af⟩:=h;cases ds with
 |nil=>exact K9 pins s σ H vs us Q I rv ⟨rp.nil_inv,af σ H P α r re (qF.refl _) (AA _)⟩
 |cons d ds=>exact An af
theorem XD {es:Aa AM}{g:DG}{gs:DGs}(h1:PG X e (tDG X g))(h2:PGs X es (sL X gs))(hs:(Ew (e::es) X.env).map (·.2)=assign e X.env::(Ew es X.env).map (·.2):=by rfl):PGs X (e::es) (sL X (zU g gs)):=by
 intro pins s σ H vs us Q I rv h;obtain⟨P,α,env,S,ds,r,re,rp,af⟩:=h;cases ds with
 |nil=>exact An af
 |cons d ds =>
  obtain⟨w,ws,rfl,p1,p2⟩:=rp.cons_inv;refine WV h1 h2 hs pins s σ H _ us Q I rv ⟨w,ws,rfl,P,α,env,S,d,r,re,p1,?_⟩;have af':qG X P α ((g d env S).bind λenv1 S1=>gs ds env1 S1) (OkE X P α Q):=af;cases q:g d env S with
  |bad=>rw[q] at af';exact af'
  |ex c x S'=>rw[q] at af';exact af'
  |ok env1 S1 =>
   rw[q] at af';intro σ' H' P' α' r' re' e1 e2;refine⟨P',α',env1,S1,ds,r',re',qD.mono e1 e2 _ _ p2,qG.base' e1 e2 (λenv' S' ok σ2 H2 P2 α2 r2 re2 e3 e4=>ok σ2 H2 P2 α2 r2 re2 (e1.trans e3) (e2.trans e4)) af'⟩
noncomputable def gTp (n:Ai)(gs:DGs):DG:=λd env S=>match d with
 |.tup xs=>if xs.length=n then gs xs env S else .bad
 |_=>.bad
set_option tactic.hygienic true in
theorem BK {es:Aa AM}{k:Ai}{gs:DGs}{n:Ai}(hc:X.calm=true)(h:PGs X es (sL X gs))(hn:(Ew es X.env).length=n:=by rfl)(hst:(Ew es X.env).findIdx? (·.1)=none:=by rfl):PG X (.Tuple es k pos) (tDG X (gTp n gs)):=by
 intro pins s σ H v u Q I rv hw;obtain⟨P,α,env,S,d,r,re,rp,af⟩:=hw;cases d with
 |tup xs =>
  simp only[Rep] at rp;obtain⟨a,vs,rfl,q,t⟩:=rp;simp only[gTp] at af
  split at af
  .rename_i hl
   exact MW hc h hn hst pins s σ H _ u Q I rv ⟨a,vs,rfl,xG r.sub q,by rw[<- t.length];exact hl,P,α,env,S,xs,r,re,t,af⟩
  .exact An af
 |_=>exact An af
abbrev G3:=D->D->D->Sto->Res Mx
def OkU (X:Cx)(P:Hp)(α : Aa Af)(Q:Hp->Prop)(_:Mx)(S':Sto):Prop:=∀ H' P' α',Rel X.K H' P' α' S'->qF P P'->α<+:α'->Q H'
def l9 (X:Cx)(g:G3):PC:=λo i v H Q=>∃ P α S a b d,Rel X.K H P α S/\Rep X.K P α a o/\Rep X.K P α b i/\Rep X.K P α d v/\qG X P α (g a b d S) (OkU X P α Q)
noncomputable def gSb (fo fi:DE)(g:G3):DG:=λd env S=>(fo env S).bind λo S1=>(fi env S1).bind λi S2=>(g o i d S2).bind λ_ S3=>.ok env S3
theorem BJ {o i:AM}{fo fi:DE}{g:G3}(ho:PE X o (tD X fo))(hi:PE X i (tD X fi))(hs:lC X (l9 X g))
  (ha:∀ v,assign (.Subscript o i pos) X.env v=(do
   let ov <- holding [v] (eval o X.env)
   let iv <- holding [v,ov] (eval i X.env)
   NE pos
   holding [v,ov,iv] (Xi ov iv v)
   release [v,ov,iv] []):=by intro _;rfl):PG X (.Subscript o i pos) (tDG X (gSb fo fi g)):=by
 intro pins s σ H v u Q I rv h;obtain⟨P,α,env,S,d,r,re,rp,af⟩:=h;rw[ha];refine Ad (Cu (thn (zS ho I r re af) λov s1 ⟨x,H1,P1,α1,d1,S1,G1,af1⟩=>?_));refine Ad (Cu (thn (zS hi G1.inv G1.rel G1.env (P:=P1) (α:=α1) (Ok:=OkE X P1 α1 Q) (qG.base' G1.same G1.pre (λenv' S' ok σ2 H2 P2 α2 r2 re2 e3 e4=>ok σ2 H2 P2 α2 r2 re2 (G1.same.trans e3) (G1.pre.trans e4)) af1)) λiv s2 ⟨y,H2,P2,α2,d2,S2,G2,af2⟩=>?_));refine Ad (Hw (Ad (Cu (thn (hs pins s2 σ H2 x y v ov iv u (λH3=>Q σ H3) G2.inv G1.val G2.val rv ⟨P2,α2,S2,d1,d2,d,G2.rel,Rep.mono G2.same G2.pre _ _ G1.rep,G2.rep,Rep.mono (G1.same.trans G2.same) (G1.pre.trans G2.pre) _ _ rp,?_⟩) λ_ s3 ⟨H3,I3,q3⟩=>?_))))
 .cases q:g d1 d2 d S2 with
  |bad=>rw[q] at af2;exact af2
  |ex c x S'=>rw[q] at af2;exact λu s' z=>af2 u s' (z.base G2.same G2.pre)
  |ok w S3 =>
   rw[q] at af2;exact λH' P' α' r' e1 e2=>af2 σ H' P' α' r' (G2.env.mono e1 e2) (G2.same.trans e1) (G2.pre.trans e2)
 .exact wpAny_release ⟨σ,H3,I3,q3⟩
noncomputable def zG (f:DE)(g:DG):DS:=λenv S=>(f env S).toS env λd S1=>(g d env S1).toS env λenv' S2=>.nx env' S2
theorem iN {g:DG}{d:D}{env:qE}{P:Hp}{α:Aa Af}{D':Ends}(h:z9 X P α ((g d env S).toS env λenv' S2=>.nx env' S2) D'):qG X P α (g d env S) (OkE X P α D'.nx):=by
 cases q:g d env S with
 |bad=>rw[q] at h;exact h
 |ex c x S'=>rw[q] at h;exact h
 |ok env1 S1=>rw[q] at h;exact h
theorem BO {tg:AM}{g:DG}(he:PE X e (tD X fa))(hg:PG X tg (tDG X g))(hs:IM [tg] e pos.line X.env=pure false:=by rfl)(hw:IL [tg] e X.env=pure none:=by rfl)
  (h1:(Ew [tg] X.env).map (·.2)=[assign tg X.env]:=by rfl):PS X (.Assign [tg] e pos) (tDS X (zG fa g)):=by
 intro pins s σ H D I h;obtain⟨P,α,env,S,r,re,af⟩:=h;refine wpAny_Assign_stores (thn (bR he I r re af) λv s1 ⟨x,H1,P1,α1,d,S1,G,q⟩=>?_) hs hw;rw[h1];exact thn (hg pins s1 σ H1 x v _ G.inv G.val ⟨P1,α1,env,S1,d,G.rel,G.env,G.rep,iN q⟩) λ_ s2 q=>q
theorem BV {i:Ai}{x:As}{pos':CN}(hN:X.N.Nodup)(he:PE X e (tD X fa))(hi:X.N[i]? = Ab x:=by rfl)(hx:Loc X.env.scope x:=by first|exact Xc rfl|exact Vf rfl)(hs:Jz e (Ab (.Name x pos')) pos.line X.env=pure false:=by rfl)
  (hf:X.fn x=true\/X.env.scope.names.lookup x=Ab .local:=by first|exact .inl rfl|exact .inr rfl|assumption):PS X (.Assign [.Name x pos'] e pos) (tDS X (zG fa (gNm i))):=by
 intro pins s σ H D I h;obtain⟨P,α,env,S,r,re,af⟩:=h;refine wpAny_Assign_Name (thn (bR he I r re af) λv s1 ⟨y,H1,P1,α1,d,S1,G,q⟩=>?_) hs;exact uB G.inv hN hi hx G.val (λs2 I2=>⟨_,H1,I2,q _ H1 P1 α1 G.rel (G.env.set i G.rep) (qF.refl _) (AA _)⟩) hf
noncomputable def QF (i j:Ai)(env:qE)(S1:Sto):Aa D->Out
 |[x,y]=>.nx ((env.set i (Ab x)).set j (Ab y)) S1
 |_=>.bad
noncomputable def gV (i j:Ai)(f:DA):DS:=λenv S=>(f env S).toS env λds S1=>QF i j env S1 ds
theorem BS {i j:Ai}{x y:As}{f:DA}{px py pt:CN} {kt k2 pt2} (hc:X.calm=true) (hN:X.N.Nodup) (ha:PA X [a,b] (tDA X f)) (hi:X.N[i]? = Ab x:=by rfl) (hj:X.N[j]? = Ab y:=by rfl) (hij:i≠j:=by decide)
  (hx:X.env.scope.names.lookup x=Ab .local:=by rfl) (hy:X.env.scope.names.lookup y=Ab .local:=by rfl)
  (hw:IL [.Tuple [.Name x px,.Name y py] kt pt] (.Tuple [a,b] k2 pt2) X.env=pure (Ab [x,y]):=by rfl)
  (hs:IM [.Tuple [.Name x px,.Name y py] kt pt] (.Tuple [a,b] k2 pt2) pos.line X.env=pure false:=by rfl) :
  PS X (.Assign [.Tuple [.Name x px,.Name y py] kt pt] (.Tuple [a,b] k2 pt2) pos) (tDS X (gV i j f)):=psW (MY hc hN hi hj hij hx hy ha hw hs) λD σ H ⟨P,α,env,S,r,re,af⟩=>by
 refine⟨P,α,env,S,r,re,?_⟩;have af1:=wR af;cases q:f env S with
 |bad=>rw[q] at af1;exact af1
 |ex c x S'=>rw[q] at af1;exact af1
 |ok ds S1 =>
  rw[q] at af1;intro vs H' P' α' r' e1 e2 rp;have af2:z9 X P α (QF i j env S1 ds) D:=af1;cases ds with
  |nil=>exact An af2
  |cons d ds=>cases ds with
   |nil=>exact An af2
   |cons d' ds=>cases ds with
    |cons _ _=>exact An af2
    |nil =>
     obtain⟨w,ws,rfl,p1,t⟩:=rp.cons_inv;obtain⟨w',ws',rfl,p2,t⟩:=t.cons_inv;rw[t.nil_inv];exact⟨w,w',rfl,af2 _ _ P' α' r' (((re.mono e1 e2).set i p1).set j p2) e1 e2⟩
end
structure ItD (K:Aj)(J:It)(P:Hp)(α : Aa Af)(ds:Aa D):Prop where
 go:∀ i H P1 α1 S,i<ds.length->Rel K H P1 α1 S->qF P P1->α<+:α1->J.go i H
 yld:∀ i H x H' P1 α1 S,i<ds.length->Rel K H P1 α1 S->qF P P1->α<+:α1->J.yld i H x H'->∃ P2 d,ds[i]? = Ab d/\Rel K H' P2 α1 S/\qF P1 P2/\Rep K P2 α1 d x
 stop:∀ i H P1 α1 S,ds.length<=i->Rel K H P1 α1 S->qF P P1->α<+:α1->J.stop i H
abbrev DI:=qE->Sto->Res (Aa D)
def OkI (X:Cx)(P:Hp)(α : Aa Af)(R:It->Hp->Prop)(ds:Aa D)(S':Sto):Prop:=∀ J H' P' α',Rel X.K H' P' α' S'->qF P P'->α<+:α'->ItD X.K J P' α' ds->R J H'
inductive tDI (X:Cx)(f:DI)(σ : _L.St)(H:Hp)(R:It->Hp->Prop):Prop
 |mk (P:Hp) (α : Aa Af) (env:qE) (S:Sto) (r:Rel X.K H P α S) (re:qY X.K P α σ env) (af:qG X P α (f env S) (OkI X P α R)):tDI X f σ H R
noncomputable def v7 {β:Type}(o:Al β)(S:Sto):Res β:=match o with
 |some b=>.ok b S
 |none=>.bad
theorem v8 {X:Cx}{β:Type}{o:Al β}{P:Hp}{α:Aa Af}{Ok:β->Sto->Prop}(h:qG X P α (v7 o S) Ok):∃ b,o=Ab b/\Ok b S:=by
 cases o with
 |none=>exact An h
 |some b=>exact⟨b,rfl,h⟩
theorem xZ {X:Cx}{β:Type}{c:Prop}[He c]{r:Res β}{P:Hp}{α : Aa Af}{Ok:β->Sto->Prop}(h:qG X P α (if c then r else .bad) Ok):c/\qG X P α r Ok:=by
 by_cases z:c
 .rw[AF z] at h;exact⟨z,h⟩
 .rw[AC z] at h;exact An h
theorem dU {X:Cx}{β:Type}{ds:Aa D}{g:D->Res β}{P:Hp}{α:Aa Af}{Ok:β->Sto->Prop}(h:qG X P α (match ds with|[d]=>g d|_=>.bad) Ok):∃ d,ds=[d]/\qG X P α (g d) Ok:=by
 cases ds with
 |nil=>exact An h
 |cons d ds =>
  cases ds with
  |nil=>exact⟨d,rfl,h⟩
  |cons _ _=>exact An h
theorem mS {β:Type}{i:Ai}{f:Aa D->Al β}{g:Aa (Key × D)->Al β}{b:β}(h:(match S[i]? with|some (.lst xs)=>f xs|some (.dct kvs)=>g kvs|_=>none)=Ab b):(∃ xs,S[i]? = Ab (.lst xs)/\f xs=Ab b)\/∃ kvs,S[i]? = Ab (.dct kvs)/\g kvs=Ab b:=by
 cases e:S[i]? with
 |none=>rw[e] at h;exact nn h
 |some m =>
  rw[e] at h;cases m with
  |lst xs=>exact .inl ⟨xs,rfl,h⟩
  |dct kvs=>exact .inr ⟨kvs,rfl,h⟩
  |_=>exact nn h
theorem FS {β:Type}{i:Ai}{f:Aa D->Al β}{b:β}(h:(match S[i]? with|some (.lst xs)=>f xs|_=>none)=Ab b):∃ xs,S[i]? = Ab (.lst xs)/\f xs=Ab b:=by
 cases e:S[i]? with
 |none=>rw[e] at h;exact nn h
 |some m =>
  rw[e] at h;cases m with
  |lst xs=>exact⟨xs,rfl,h⟩
  |_=>exact nn h
inductive ItV (d:D)(xs:Aa D):Prop
 |tup (e:d=.tup xs)
 |lst (e:d=.lst xs)
noncomputable def VE {β:Type}(S:Sto)(n:Ai)(f:Aa D->Res β) : Res β:=match S[n]? with
 |some (.lst xs)=>f xs
 |_=>.bad
theorem kP {X:Cx}{β:Type}{n:Ai}{f:Aa D->Res β}{P:Hp}{α:Aa Af}{Ok:β->Sto->Prop}(h:qG X P α (VE S n f) Ok):∃ xs,S[n]? = Ab (.lst xs)/\qG X P α (f xs) Ok:=by
 unfold VE at h;cases e:S[n]? with
 |none=>rw[e] at h;exact An h
 |some m =>
  rw[e] at h;cases m with
  |lst xs=>exact⟨xs,rfl,h⟩
  |_=>exact An h
noncomputable def zW:D->Al (Aa D)
 |.tup xs=>Ab xs
 |.lst xs=>Ab xs
 |_=>none
theorem itV {d:D}{xs:Aa D}(h:zW d=Ab xs):ItV d xs:=by
 cases d with
 |tup ys=>exact .tup (congrArg D.tup (Bh h))
 |lst ys=>exact .lst (congrArg D.lst (Bh h))
 |_=>exact nn h
noncomputable def gL (f:DE):DI:=λenv S=>(f env S).bind λd S1=>v7 (zW d) S1
section
variable {X:Cx}{K:Aj}{tg e:AM}{fa:DE}{pos:CN}
theorem W4 {P:Hp}{α:Aa Af}{a:Af}{ds:Aa D}(q:SqL K P a vs)(t:qD K P α ds vs):ItD K (Itl K a) P α ds where
 go:=λi H P1 α1 S hi r e _=>⟨vs,vs[i]'(by rw[<- t.length];exact hi),(e.trans r.sub).seq q,by simp⟩
 yld:=λi H x H' P1 α1 S hi r e e2 y=>by
  obtain⟨rfl,y⟩:=y;have hx:=y vs ((e.trans r.sub).seq q);obtain⟨v,h1,h2⟩:=t.get (Au hi);rw[hx] at h1;cases h1;exact⟨P1,_,Au hi,r,qF.refl _,Rep.mono e e2 _ _ h2⟩
 stop:=λi H P1 α1 S hi r e _=>⟨vs,(e.trans r.sub).seq q,by rw[<- t.length];exact hi⟩
theorem JB {P:Hp}{α:Aa Af}{a:Af}{ds:Aa D}(q:SqT K P a vs)(t:qD K P α ds vs):ItD K (Itt K a) P α ds where
 go:=λi H P1 α1 S hi r e _=>⟨vs,vs[i]'(by rw[<- t.length];exact hi),yE (e.trans r.sub) q,by simp⟩
 yld:=λi H x H' P1 α1 S hi r e e2 y=>by
  obtain⟨rfl,y⟩:=y;have hx:=y vs (yE (e.trans r.sub) q);obtain⟨v,h1,h2⟩:=t.get (Au hi);rw[hx] at h1;cases h1;exact⟨P1,_,Au hi,r,qF.refl _,Rep.mono e e2 _ _ h2⟩
 stop:=λi H P1 α1 S hi r e _=>⟨vs,yE (e.trans r.sub) q,by rw[<- t.length];exact hi⟩
theorem dE {pins:Aa (Af × AX)}{σ:_L.St}{H P:Hp}{α:Aa Af}{s:Ag}{v:V}{d:D}{ds:Aa D}(I:Inv X pins σ H s)(r:Rel X.K H P α S)(rv:qK v vv)(rp:Rep X.K P α d v)(hd:zW d=Ab ds)
  (q:OkI X P α R ds S):Ao (Ar X.prog X.w) X.A (Kk vv) (PIE X pins σ tg R) X.xe s:=by
 cases d with
 |tup xs =>
  cases hd;simp only[Rep] at rp;obtain⟨a,vs,rfl,sq,t⟩:=rp;cases rv;obtain⟨its,rv,p,hz⟩:=I.tuple (xG r.sub sq);refine Eu (show s.heap.IsTuple a its.toArray from p) ?_
  refine⟨s.heap.objs.size,[s.heap.objs.size],_,_,H,rfl,I.kept (t':=s.toks) λb o e=>Ah _ e,iD a _,⟨_,A7 _ rfl,rfl,rfl⟩,λb hb=>?_,q _ _ P α r (qF.refl _) (AA _) (JB sq t)⟩;have e:b=s.heap.objs.size:=by simpa using hb
  subst e;exact I.fpOk (Aq _) (I.hok.fresh (Aq _))
 |lst xs =>
  cases hd;simp only[Rep] at rp;obtain⟨a,vs,rfl,sq,t⟩:=rp;cases rv;obtain⟨its,rv,p,hz⟩:=I.list ((xA r.sub sq).l);refine Ei p.isList ?_;refine⟨s.heap.objs.size,[s.heap.objs.size],_,_,H,rfl,I.kept (t':=s.toks) λb o e=>Ah _ e,nM a _,⟨_,A7 _ rfl,rfl,rfl⟩,λb hb=>?_,q _ _ P α r (qF.refl _) (AA _) (W4 sq.l t)⟩;have e:b=s.heap.objs.size:=by simpa using hb
  subst e;exact I.fpOk (Aq _) (I.hok.fresh (Aq _))
 |_=>cases hd
theorem OkI.base {P P1:Hp}{α α1:Aa Af}{ds:Aa D}(e:qF P P1)(h:α<+:α1)(k:OkI X P α R ds S):OkI X P1 α1 R ds S:=λJ H' P' α' r q1 q2 q3=>k J H' P' α' r (e.trans q1) (h.trans q2) q3
theorem BL (ha:PE X e (tD X fa)):PI X tg e (tDI X (gL fa)):=by
 intro pins s σ H R I h;obtain⟨P,α,env,S,r,re,af⟩:=h;refine thn (zS ha I r re af) λvv s1 ⟨v,H1,P1,α1,d,S1,G1,af1⟩=>?_;obtain⟨ds,e1,q⟩:=v8 af1;exact dE G1.inv G1.rel G1.val G1.rep e1 (q.base G1.same G1.pre)
noncomputable def xV (lo:Am)(n:Ai):Aa D:=(Be n).map λ(i:Ai)=>D.int (lo+(i:Am))
theorem yR (lo:Am)(n:Ai):(xV lo n).length=n:=by simp[xV]
theorem n6 {P:Hp}{α:Aa Af}{lo:Am}{n:Ai}:ItD K (Itr lo n) P α (xV lo n) where
 go:=λi H P1 α1 S hi r e _=>by rw[yR] at hi;exact hi
 yld:=λi H x H' P1 α1 S hi r e e2 y=>by
  obtain⟨rfl,rfl⟩:=y;rw[yR] at hi;exact⟨P1,.int (lo+i),by simp[xV,hi],r,qF.refl _,by simp only[Rep]⟩
 stop:=λi H P1 α1 S hi r e _=>by rw[yR] at hi;exact hi
noncomputable def u7 (ds:Aa D):Al (Aa D):=match ds with
 |[.int j]=>if -(2 ^ 62)<=j/\j<2 ^ 62 then Ab (xV 0 j.toNat) else none
 |[.int i,.int j]=>if -(2 ^ 62)<=i/\i<2 ^ 62 /\ -(2 ^ 62)<=j/\j<2 ^ 62 then Ab (xV i (j-i).toNat) else none
 |_=>none
noncomputable def vO (f:DA):DI:=λenv S=>(f env S).bind λds S1=>v7 (u7 ds) S1
noncomputable def asI:D->Al Am
 |.int i=>Ab i
 |_=>none
theorem pY {d:D}{i:Am}(h:asI d=Ab i):d=.int i:=by
 cases d with
 |int k=>exact congrArg D.int (Bh h)
 |_=>exact nn h
inductive RngV:Aa D->Aa D->Prop
 |one (j:Am) (h : -(2 ^ 62)<=j/\j<2 ^ 62):RngV [.int j] (xV 0 j.toNat)
 |two (i j:Am) (h : -(2 ^ 62)<=i/\i<2 ^ 62 /\ -(2 ^ 62)<=j/\j<2 ^ 62):RngV [.int i,.int j] (xV i (j-i).toNat)
theorem DX (d:D):u7 [d]=(asI d).bind λj=>if -(2 ^ 62)<=j/\j<2 ^ 62 then Ab (xV 0 j.toNat) else none:=by cases d <;> rfl
theorem DY (d d':D):u7 [d,d']=(asI d).bind λi=>(asI d').bind λj=>if -(2 ^ 62)<=i/\i<2 ^ 62 /\ -(2 ^ 62)<=j/\j<2 ^ 62 then Ab (xV i (j-i).toNat) else none:=by
 cases d with
 |int i=>cases d' <;> rfl
 |_=>rfl
theorem eX {ds its:Aa D}(h:u7 ds=Ab its):RngV ds its:=by
 cases ds with
 |nil=>exact nn h
 |cons d ds =>
  cases ds with
  |nil =>
   obtain⟨j,e,h⟩:=Cn.mp ((DX d).symm.trans h);obtain⟨c,rfl⟩:=kG h;rw[pY e];exact .one j c
  |cons d' ds =>
   cases ds with
   |nil =>
    obtain⟨i,e,h⟩:=Cn.mp ((DY d d').symm.trans h);obtain⟨j,e',h⟩:=Cn.mp h;obtain⟨c,rfl⟩:=kG h;rw[pY e,pY e'];exact .two i j c
   |cons _ _ =>
    have h0:∀ d'' t,u7 (d::d'::d''::t)=none:=λd'' t=>by cases d <;> first|rfl|(cases d' <;> rfl)
    exact nn ((h0 _ _).symm.trans h)
theorem vJ {P:Hp}{α:Aa Af}{i:Am}{ds:Aa D}(r:qD K P α (.int i::ds) vs):∃ ws,vs=.int i::ws/\qD K P α ds ws:=by
 obtain⟨w,ws,rfl,p,t⟩:=r.cons_inv;exact⟨ws,congrArg (· :: ws) (by simpa only [Rep] using p),t⟩
theorem PI.weak {iter:AM}{t t':TI}(h:PI X tg iter t)(w:∀ σ H R,t' σ H R->t σ H R):PI X tg iter t':=λpins s σ H R I q=>h pins s σ H R I (w σ H R q)
end
section
variable {X:Cx}{tg a b:AM}{f:DA}{p pos:CN}
theorem XE {e:AM}{es:Aa AM}(hg:Gl X "range")(hm:X.mg "range" = none)(ha:PA X (e::es) (tDA X f))(hs:Ay (e::es) X.env=(false,eval e X.env)::Ay es X.env:=by rfl)(hpl:(Di pos (Ay es X.env)).any (·.1)=false:=by rfl) :
  PI X tg (.Call (.Name "range" p) (e::es) [] pos) (tDI X (vO f)):=by
 intro pins s σ H R I h;obtain⟨P,α,env,S,r,re,af⟩:=h;refine Vx (w4 I hg hm boot_range (CK (thn (xS ha I r re af pos) λus s1 ⟨vs,H1,P1,α1,ds,S1,I1,rv,r1,re1,rp,e1,e2,af1⟩=>?_) hs hpl));obtain⟨its,hi,q⟩:=v8 af1;cases eX hi with
 |one j c =>
  obtain⟨ws,rfl,t1⟩:=vJ rp;cases t1.nil_inv;obtain⟨u,rfl,t,rfl⟩:=vI rv;refine call_range_1 (dZ I1 om om c.1 c.2 ?_);have z:=q (Itr 0 j.toNat) H1 P1 α1 r1 e1 e2 n6;rw[Tp];exact z
 |two i j c =>
  obtain⟨ws,rfl,t1⟩:=vJ rp;obtain⟨ws2,rfl,t2⟩:=vJ t1;cases t2.nil_inv;obtain⟨u,u',rfl,⟨t,rfl⟩,t',rfl⟩:=fT rv;exact call_range_2 (dZ I1 c.1 c.2.1 c.2.2.1 c.2.2.2 (q (Itr i (j-i).toNat) H1 P1 α1 r1 e1 e2 n6))
noncomputable def uO (g:DG)(f:DS):Aa D->qE->Sto->Out
 |[],env,S=>.nx env S
 |d::ds,env,S=>(g d env S).toS env λenv1 S1=>match f env1 S1 with
  |.nx env2 S2=>uO g f ds env2 S2
  |.ct env2 S2=>uO g f ds env2 S2
  |.bk env2 S2=>.nx env2 S2
  |o=>o
noncomputable def tF (fi:DI)(g:DG)(f:DS):DS:=λenv S=>(fi env S).toS env λds S1=>uO g f ds env S1
inductive LoopW (X:Cx)(P1:Hp)(α1:Aa Af)(g:DG)(f:DS)(ds:Aa D)(D:Ends)(i m:Ai)(σ : _L.St)(H:Hp):Prop
 |mk (hi:i<=ds.length) (hm:m=ds.length-i) (P2:Hp) (α2:Aa Af) (env2:qE) (S2:Sto) (r:Rel X.K H P2 α2 S2) (re:qY X.K P2 α2 σ env2) (e1:qF P1 P2) (e2:α1<+:α2) (af:z9 X P2 α2 (uO g f (ds.drop i) env2 S2) D):LoopW X P1 α1 g f ds D i m σ H
theorem BP {iter:AM}{fi:DI}{g:DG}{f:DS}(hp:Pw (Ar X.prog X.w) X.A X.env X.xe)(hc:X.calm=true)(hi:PI X tg iter (tDI X fi))(hg:PG X tg (tDG X g))(hb:PSs X body (tDS X f))
  (hs:∀ x,Co iter X.env x=pure x:=by intro _;rfl):PS X (.For tg iter body [] pos) (tDS X (tF fi g f)):=psW (MX hp hc hi hg hb hs) λD σ H ⟨P,α,env,S,r,re,af⟩=>by
 refine⟨P,α,env,S,r,re,?_⟩;have af1:=wR af;cases q:fi env S with
 |bad=>rw[q] at af1;exact af1
 |ex c x S'=>rw[q] at af1;exact af1
 |ok ds S1 =>
  rw[q] at af1;have af2:z9 X P α (uO g f ds env S1) D:=af1;intro J H1 P1 α1 r1 e1 e2 it;refine⟨LoopW X P1 α1 g f ds D,
   ⟨ds.length,Dp _,rfl,P1,α1,env,S1,r1,re.mono e1 e2,qF.refl _,AA _,z9.base e1 e2 af2⟩,?_⟩
  rintro i m σ2 H2 ⟨hi,rfl,P2,α2,env2,S2,r2,re2,e3,e4,af3⟩;by_cases hlt:i<ds.length
  .refine .inr ⟨it.go i H2 P2 α2 S2 hlt r2 e3 e4,LoopW X P1 α1 g f ds D (i+1) (ds.length-(i+1)),λσ' H' w=>⟨_,?_,w⟩,λx H3 y=>?_⟩
   .omega
   .obtain⟨P3,d,hd,r3,e5,rp⟩:=it.yld i H2 x H3 P2 α2 S2 hlt r2 e3 e4 y
    have hdr:ds.drop i=d::ds.drop (i+1):=by
     rw[Fp hlt];rw[Au hlt] at hd;rw[Bh hd]
    rw[hdr] at af3;have af4:=wR (z9.base e5 (AA _) af3);refine⟨P3,α2,env2,S2,d,r3,re2.mono e5 (AA _),rp,?_⟩;cases q2:g d env2 S2 with
    |bad=>rw[q2] at af4;exact af4
    |ex c x S'=>rw[q2] at af4;exact af4
    |ok env3 S3 =>
     rw[q2] at af4;intro σ4 H4 P4 α4 r4 re4 e6 e7;refine⟨P4,α4,env3,S3,r4,re4,?_⟩;have af5:=z9.base e6 e7 af4;cases q3:f env3 S3 with
     |bad=>simp only[q3] at af5;exact af5
     |ex c x env4 S4=>simp only[q3] at af5;exact af5
     |rt d4 S4=>simp only[q3] at af5;exact af5
     |bk env4 S4=>simp only[q3] at af5;exact af5
     |nx env4 S4 =>
      simp only[q3] at af5;exact λσ5 H5 P5 α5 r5 re5 e8 e9=>⟨hlt,rfl,P5,α5,env4,S4,r5,re5,((e3.trans e5).trans e6).trans e8,(e4.trans e7).trans e9,z9.base e8 e9 af5⟩
     |ct env4 S4 =>
      simp only[q3] at af5;exact λσ5 H5 P5 α5 r5 re5 e8 e9=>⟨hlt,rfl,P5,α5,env4,S4,r5,re5,((e3.trans e5).trans e6).trans e8,(e4.trans e7).trans e9,z9.base e8 e9 af5⟩
  .have hdr:ds.drop i=[]:=Kg om
   rw[hdr] at af3;exact .inl ⟨it.stop i H2 P2 α2 S2 om r2 e3 e4,af3 σ2 H2 P2 α2 r2 re2 (qF.refl _) (AA _)⟩
end
abbrev DF:=Aa D->Sto->Res D
section
variable {X:Cx}{x:As}{p pos:CN}{e:AM}{es:Aa AM}{F:DF}{fa:DA}
noncomputable def qL (F:DF)(fa:DA):DE:=λenv S=>(fa env S).bind λds S1=>F ds S1
theorem tQ {pins:Aa (Af × AX)}{s1:Ag}{σ:_L.St}{H1 P P1:Hp}{α α1:Aa Af}{ds:Aa D}(hc:wJ X u F)(I1:Inv X pins σ H1 s1)(r1:Rel X.K H1 P1 α1 S1)(rv:qJ vs us)
  (rp:qD X.K P1 α1 ds vs) (e1:qF P P1) (e2:α<+:α1) (af:qG X P α (F ds S1) (OkV X P α Q)):Ao (Ar X.prog X.w) X.A (call u us) (EP X pins σ Q) X.xe s1:=hc pins σ H1 s1 P1 α1 S1 vs us ds Q I1 r1 rv rp (qU.base e1 e2 af)
theorem X7 {id:CF}(hc:wJ X (.builtin id) F)(hg:Gl X x)(hm:X.mg x=none)(hv:CU x=Ab (.builtin id))(ha:PA X (e::es) (tDA X fa))(hn:x ≠ "__name__":=by decide)(hdb:(x == ("__debug__" : As))=false:=by decide)
  (he:Ay (e::es) X.env=(false,eval e X.env)::Ay es X.env:=by rfl) (hpl:(Di pos (Ay es X.env)).any (·.1)=false:=by rfl):PE X (.Call (.Name x p) (e::es) [] pos) (tD X (qL F fa)):=by
 intro pins s σ H Q I h;obtain⟨P,α,env,S,r,re,af⟩:=h;refine CW (w4 I hg hm hv ?_ hn hdb);exact Ga (thn (xS ha I r re af pos) λus s1 ⟨vs,H1,P1,α1,ds,S1,I1,rv,r1,re1,rp,e1,e2,af1⟩=>tQ hc I1 r1 rv rp e1 e2 af1) he hpl
theorem o4 {T:CF}(hc:wJ X (.type T) F)(hg:Gl X x)(hm:X.mg x=none)(hv:CU x=Ab (.type T))(ha:PA X (e::es) (tDA X fa))(hn:x ≠ "__name__":=by decide)(hdb:(x == ("__debug__" : As))=false:=by decide)
  (he:Ay (e::es) X.env=(false,eval e X.env)::Ay es X.env:=by rfl) (hpl:(Di pos (Ay es X.env)).any (·.1)=false:=by rfl):PE X (.Call (.Name x p) (e::es) [] pos) (tD X (qL F fa)):=by
 intro pins s σ H Q I h;obtain⟨P,α,env,S,r,re,af⟩:=h;refine CW (w4 I hg hm hv ?_ hn hdb);exact CK (thn (xS ha I r re af pos) λus s1 ⟨vs,H1,P1,α1,ds,S1,I1,rv,r1,re1,rp,e1,e2,af1⟩=>tQ hc I1 r1 rv rp e1 e2 af1) he hpl
end
theorem qZ.there {P:A5}{w:AL}{H:Hp}{h:AB}{a:Af}{o:HO}(x:qZ P w H h a o):∃ ob,h.get? a=Ab ob:=by
 cases o with
 |lst xs=>obtain⟨_,_,_,_,e⟩:=x;exact⟨_,e⟩
 |tup xs=>obtain⟨_,_,_,ob,e,_⟩:=x;exact⟨_,e⟩
 |dK kvs=>obtain⟨_,_,_,_,o,_,_,e,_⟩:=x;exact⟨_,e⟩
 |dT kvs=>obtain⟨_,_,_,_,o,_,_,e,_⟩:=x;exact⟨_,e⟩
 |set S n=>obtain⟨o,_,_,_,e,_⟩:=x;exact⟨_,e⟩
 |ins C dx fs=>obtain⟨_,_,_,e,_⟩:=x;exact⟨_,e⟩
 |own y=>obtain⟨_,e⟩:=x;exact⟨_,e⟩
 |xd fs=>obtain⟨_,⟨_,_,_,e,_⟩,_⟩:=x;exact⟨_,e⟩
 |rng lo hi=>obtain⟨_,_,_,e⟩:=x;exact⟨_,e⟩
 |frz ob u=>obtain⟨e,_⟩:=x;exact⟨_,e⟩
 |tbl ps=>exact⟨_,show h.get? a=Ab _ from x⟩
 |met f y=>exact⟨_,show h.get? a=Ab _ from x⟩
 |ext φ => obtain⟨_,e,_⟩:=x;exact e
section
variable {X:Cx}{pins:Aa (Af × AX)}{σ : _L.St}{H:Hp}{s:Ag}{B h':AB}
abbrev Fn1 (X:Cx):Prop:=X.ex=[]/\X.stack=X.env::X.outer/\X.env.frame=Ab X.env.locals
theorem Fn1.mem (F:Fn1 X){b:Af}:b∈frs X.stack↔b=X.env.locals\/b∈X.fs:=by
 rw[F.2.1];unfold frs;rw[Ec,F.2.2];exact Av
theorem Old.there (I:Inv X pins σ H s)(F:Fn1 X){b:Af}(o:Old X pins H b):∃ ob,s.heap.get? b=Ab ob:=by
 rcases o with⟨o,e⟩|e|⟨p,hp,rfl⟩|⟨x,e⟩
 .exact I.base.there b o e (by rw[F.1];simp)
 .cases q:H b with
  |none=>exact absurd q e
  |some u=>exact qZ.there (I.hok b u q)
 .exact⟨_,(I.pin p hp).1⟩
 .obtain⟨v,ob,ho,_⟩:=I.cell x b e
  exact⟨ob,ho⟩
theorem Inv.fly (I:Inv X pins σ H s)(F:Fn1 X)(cv:Cv X pins H B s.heap)(st:B.StaysIn h')(up:s.heap.UpToSlots h'):Inv X pins σ H { s with heap:=h' } /\ Cv X pins H B h':=by
 have kp:∀ b o,s.heap.get? b=Ab o->Old X pins H b->b ∉ frs X.stack->h'.get? b=Ab o:=λb o e q n=>st b o (cv b o e q n);have neL:∀ b o,X.s₀.heap.get? b=Ab o->b≠X.env.locals:=λb o e=>AZ (Ax (Az e) I.ok.above);have nofr:∀ b o,X.s₀.heap.get? b=Ab o->b ∉ X.fs->b ∉ frs X.stack:=λb o e n z=>(F.mem.mp z).elim (neL b o e) n;have nx:∀ b,b ∉ X.ex:=λb=>by rw[F.1];simp
 have frU:∀ b,b∈frs X.stack->∀ o,s.heap.get? b=Ab o->∃ sl,h'.get? b=Ab { o with slots:=sl }:=λb hb o e=>by
  obtain⟨_,o',e',nf⟩:=I.stack.mem hb;rw[e] at e';cases e';exact up b o e nf
 have cellK:∀ x c,X.env.cells.lookup x=Ab c->∀ v,s.heap.IsCell c v->h'.IsCell c v:=λx c e v ⟨o,ho,hd⟩=>by
  obtain⟨sl,q⟩:=up c o ho λvs z=>by rw[hd] at z;cases z
  exact⟨_,q,hd⟩
 refine⟨⟨I.ok,I.os,I.bare,⟨λb o e n hb hx=>?_,λb o e n hb hx=>?_,I.base.free,λb o e hx=>?_,I.base.tups,I.base.frzs,I.base.tbls⟩,?_,λx c e=>?_,I.free,I.freeC,λp hp=>?_,λa o e=>?_,I.len⟩,λb o e q n=>?_⟩
 .exact kp b o (I.base.keep b o e n hb hx) (.inl ⟨o,e⟩) (nofr b o e hb)
 .obtain⟨sl,e1⟩:=I.base.slot b o e n hb hx
  obtain⟨sl',e2⟩:=frU b (F.mem.mpr (.inr hb)) _ e1;exact⟨sl',e2⟩
 .obtain⟨o',e1⟩:=I.base.there b o e hx
  by_cases hb:b∈frs X.stack
  .obtain⟨sl,e2⟩:=frU b hb _ e1
   exact⟨_,e2⟩
  .exact⟨o',kp b o' e1 (.inl ⟨o,e⟩) hb⟩
 .obtain⟨m,hn,hl⟩:=I.loc
  refine⟨m,up.ns hn,λi x v e1 e2 e3=>?_⟩;obtain⟨u,r,l⟩:=hl i x v e1 e2 e3;refine⟨u,r,?_⟩;rcases l with l|⟨k,c,e,z⟩
  .exact .inl l
  .exact .inr ⟨k,c,e,cellK x c e _ z⟩
 .obtain⟨v,z⟩:=I.cell x c e
  exact⟨v,cellK x c e v z⟩
 .obtain⟨e,n,ne,nf,d⟩:=I.pin p hp
  exact⟨kp p.1 p.2 e (.inr (.inr (.inl ⟨p,hp,rfl⟩))) λz=>(F.mem.mp z).elim ne nf,n,ne,nf,d⟩
 .refine(I.hok a o e).stay (λb u hb q=>?_) (λ_ q=>q) λ_ _ q=>q
  have hn:H b≠none:=by
   rcases hb with rfl|hb
   .rw[e];intro z;cases z
   .rw[hb];intro z;cases z
  exact kp b u q (.inr (.inl hn)) λz=>hn (I.stkFree b z)
 .obtain⟨o1,e1⟩:=Old.there I F q
  have e2:=cv b o1 e1 q n;have e3:=st b o1 e2;rw[e] at e3;cases e3;exact e2
theorem Q6 {c:Ac}{e:Af}{g:AB}(I:Inv X pins σ H s)(hm:Qs g s.heap e c args)(hf:g.FunFrames X.base X.stack)(hk:∀ b o,s.heap.get? b=Ab o->Old X pins H b->g.get? b=Ab o) :
  (Lj g (frs X.stack)).StaysIn g/\g.FunFrames (Lj g (frs X.stack)) X.stack/\Cv X pins H (Lj g (frs X.stack)) s.heap:=
 ⟨λb o q=>Sv _ q,PySem.W.funFrames_hide hf λenv he a ha=>Fv.mpr ⟨env,he,ha⟩,λb o e q n=>Rk _ (hk b o e q) n⟩
theorem oT {M:Im}{A:AK}{E:Ac->Ag->Prop}{c:Ac}{e:Af}{Q:Mx->Ag->Prop}(I:Inv X pins σ H s)(F:Fn1 X)(hA:A.frames=Ab X.stack)(f:FlyX X pins H c e s.heap)
  (hQ:∀ h' B a0,Lx B X.outer e c a0 h'->Inv X pins σ H { s with heap:=h' } -> Cv X pins H B h'->Q () { s with heap:=h' }) : Ao M A (leaving X.env (.ref e)) Q E s:=by
 cases f with
 |new g args hm hf hk =>
  obtain⟨k1,k2,k3⟩:=Q6 I hm hf hk;rw[F.2.1] at hA;refine wpAny_leaves_madeW hA F.2.2 k1 (by rw[<- F.2.1];exact k2) hm λh' t x1 x2 x3 x4=>?_
  obtain⟨I1,cv1⟩:=Inv.fly I F k3 x1.1 x4;exact hQ h' _ _ x1 I1 cv1
 |fly B a0 fl cv =>
  rw[F.2.1] at hA;refine wpAny_leaves_onW hA F.2.2 (by rw[<- F.2.1];exact fl) λh' x1 x2=>?_
  obtain⟨I1,cv1⟩:=Inv.fly I F cv x1.1 x2;exact hQ h' _ _ x1 I1 cv1
end
def CXd (P:A5)(w:AL):CXT:=λouter H s E u s' =>
 ∃ e c H' B a0,u=.ref e/\s'.os=s.os/\Kj s'.gens/\Un (frs outer) [] H H' s.heap s'.heap/\HOk P w H' s'.heap/\Lx B outer e c a0 s'.heap /\
  (∀ b o,s'.heap.get? b=Ab o->((∃ o,s.heap.get? b=Ab o)\/H' b≠none)->b ∉ frs outer->B.get? b=Ab o)/\E c none H'
section
variable {X:Cx}{pins:Aa (Af × AX)}{σ : _L.St}{H:Hp}{s s':Ag}
theorem F4 {E:XK}(I:Inv X pins σ H s)(F:Fn1 X)(h:CXd X.prog X.w X.stack H s E u s'):∃ e c H',u=.ref e/\Inv X pins σ H' s'/\FlyX X pins H' c e s'.heap/\E c none H':=by
 obtain⟨e,c,H',B,a0,rfl,os,bare,un,hok,fl,cov,q⟩:=h;have I':Inv X pins σ H' s':=Inv.call' I os un hok bare (ch:=[]) λb z=>absurd z (by simp)
 refine⟨e,c,H',rfl,I',.fly B a0 fl λb o eb old n=>cov b o eb ?_ n,q⟩;rcases old with⟨o,z⟩|z|⟨p,hp,rfl⟩|⟨x,z⟩
 .exact .inl (I.base.there b o z (by rw[F.1];simp))
 .exact .inr z
 .exact .inl ⟨_,(I.pin p hp).1⟩
 .obtain⟨v,ob,ho,_⟩:=I.cell x b z
  exact .inl ⟨ob,ho⟩
end
structure RoomC (cm:Ap)(k:Ai)(A:AK):Prop where
 hd:cm=true->A.handled=none
 dp:A.depth+3*k+5<Mj
 un:A.units+16*k+200<Ee
 gd:A.guards=Ab []
theorem RoomC.mono {cm:Ap}{j k:Ai}{A:AK}(r:RoomC cm k A)(h:j<=k:=by decide):RoomC cm j A:=⟨r.hd,by have:=r.dp;omega,by have:=r.un;omega,r.gd⟩
theorem RoomC.deeper {cm:Ap}{k:Ai}{A:AK}(r:RoomC cm (k+1) A)(env:Gj):RoomC cm k (A.deeper env):=
 ⟨r.hd,by have:=r.dp;show A.depth+1+3*k+5<_;omega,by have:=r.un;show A.units+3+16*k+200<_;omega,r.gd⟩
theorem RoomC.depth {cm:Ap}{k:Ai}{A:AK}(r:RoomC cm k A):A.depth<Mj:=by have:=r.dp;omega
theorem RoomC.units {cm:Ap}{k:Ai}{A:AK}(r:RoomC cm k A):A.units+64<Ee:=by have:=r.un;omega
theorem RoomC.of {k:Ai}{A:AK}(r:Room k A):RoomC true k A:=⟨λ_=>r.hd,r.dp,r.un,r.gd⟩
theorem RoomC.any {cm:Ap}{k:Ai}{A:AK}(r:RoomC cm k A):RoomC false k A:=⟨(λz=>nomatch z),r.dp,r.un,r.gd⟩
theorem RoomC.mark {cm:Ap}{k:Ai}{A:AK}(r:RoomC cm k A)(h:Al Ac):RoomC false k (A.mark h):=⟨(λz=>nomatch z),r.dp,r.un,r.gd⟩
abbrev Cx.re (X:Cx)(A:AK)(cm:Ap)(E:Ac->Ag->Prop):Cx:={ X with A:=A,calm:=cm,xe:=E }
theorem Inv.re {X:Cx}{pins:Aa (Af × AX)}{σ:_L.St}{H:Hp}{s:Ag}(I:Inv X pins σ H s)(A:AK)(cm:Ap)(E:Ac->Ag->Prop)(hf:A.frames=Ab X.stack)(hh:cm=true->A.handled=none):Inv (Cx.re X A cm E) pins σ H s:=
 ⟨⟨I.ok.mod,I.ok.kind,I.ok.glob,I.ok.blt,I.ok.above,I.ok.inj,I.ok.has,I.ok.cab,hh,hf,I.ok.stk,I.ok.exf,I.ok.bs,I.ok.bsz,I.ok.noex,I.ok.exfs,I.ok.funs,I.ok.frf⟩,I.os,I.bare,I.base,I.loc,I.cell,I.free,I.freeC,I.pin,I.hok,I.len⟩
theorem Inv.unre {X:Cx}{pins:Aa (Af × AX)}{σ:_L.St}{H:Hp}{s:Ag}{A:AK}{cm:Ap}{E:Ac->Ag->Prop}(I:Inv (Cx.re X A cm E) pins σ H s)(hf:X.A.frames=Ab X.stack)(hh:X.calm=true->X.A.handled=none):Inv X pins σ H s:=
 ⟨⟨I.ok.mod,I.ok.kind,I.ok.glob,I.ok.blt,I.ok.above,I.ok.inj,I.ok.has,I.ok.cab,hh,hf,I.ok.stk,I.ok.exf,I.ok.bs,I.ok.bsz,I.ok.noex,I.ok.exfs,I.ok.funs,I.ok.frf⟩,I.os,I.bare,I.base,I.loc,I.cell,I.free,I.freeC,I.pin,I.hok,I.len⟩
structure FnX (P:A5)(w:AL)(K:Aj)(mg:As->Al Ac)(base:AB)(cm:Ap)(k:Ai)(f:Af)(fd:Dq)(ps:Aa As)(sp:Sp):Prop where
 len:∀ vs H Q E,sp vs H Q E->vs.length=ps.length
 run:∀ (A:AK) (outer:Aa Gj) (s:Ag) (H:Hp) (args:Args) (us:Aa Ac) (vs:Aa V) (Q:VK) (E:XK),RoomC cm k A->Env0 P w K mg base A outer s H->Kl s fd args (ps.zip us)->qJ vs us->sp vs H Q E ->
  Fn (Ar P w) A (.call (.ref f) args) (CR (CXd P w) outer P w H s Q E) s
theorem FnX.ok {P:A5}{w:AL}{K:Aj}{mg:As->Al Ac}{base:AB}{k:Ai}{f:Af}{fd:Dq}{ps:Aa As}(F:FnX P w K mg base true k f fd ps sp):FnOk P w K mg base (CXd P w) k f fd ps sp:=
 ⟨F.len,λA outer s H args us vs Q E hr=>F.run A outer s H args us vs Q E (.of hr)⟩
theorem FnX.any {P:A5}{w:AL}{K:Aj}{mg:As->Al Ac}{base:AB}{cm:Ap}{k:Ai}{f:Af}{fd:Dq}{ps:Aa As}(F:FnX P w K mg base false k f fd ps sp):FnX P w K mg base cm k f fd ps sp:=
 ⟨F.len,λA outer s H args us vs Q E hr=>F.run A outer s H args us vs Q E hr.any⟩
theorem FnX.imp {P:A5}{w:AL}{K:Aj}{mg:As->Al Ac}{base:AB}{cm:Ap}{k:Ai}{f:Af}{fd:Dq}{ps:Aa As}{sp':Sp}(F:FnX P w K mg base cm k f fd ps sp)
  (h:∀ vs H Q E,sp' vs H Q E->sp vs H Q E):FnX P w K mg base cm k f fd ps sp':=
 ⟨λvs H Q E q=>F.len vs H Q E (h _ _ _ _ q),λA outer s H args us vs Q E hr he hb hv hs=>F.run A outer s H args us vs Q E hr he hb hv (h _ _ _ _ hs)⟩
noncomputable def cxC (cm:Ap)(P:A5)(w:AL)(K:Aj)(mg:As->Al Ac)(base:AB)(N:Aa As)(qual:As)(scope:Cs)(f:Af)(cd:Ac)(A:AK)(outer:Aa Gj)(s:Ag)(H:Hp)(E:XK):Cx where
 prog:=P
 w:=w
 K:=K
 mg:=mg
 base:=base
 A:=A.deeper (Eb qual scope s.heap.objs.size f cd)
 N:=N
 s₀:=s
 H₀:=H
 env:=Eb qual scope s.heap.objs.size f cd
 outer:=outer
 stack:=Eb qual scope s.heap.objs.size f cd::outer
 ex:=[]
 calm:=cm
 fn:=λ_=>true
 pn:=[]
 xe:=λe s'=>Ao (Ar P w) (A.deeper (Eb qual scope s.heap.objs.size f cd)) (leaving (Eb qual scope s.heap.objs.size f cd) e) (λ_ s''=>CXd P w outer H s E e s'') (λe' s''=>CXd P w outer H s E e' s'') s'
section
variable {P:A5}{w:AL}{K:Aj}{mg:As->Al Ac}{base:AB}{cm:Ap}{N:Aa As}{qual:As}{scope:Cs}{f:Af}{cd:Ac}{A:AK}{outer:Aa Gj}{s:Ag}{H:Hp}{E:XK}
theorem X5:Pw (Ar P w) (A.deeper (Eb qual scope s.heap.objs.size f cd)) (Eb qual scope s.heap.objs.size f cd) (cxC cm P w K mg base N qual scope f cd A outer s H E).xe:=PassesOwn.leaving (Q₁:=λe s''=>CXd P w outer H s E e s'')
abbrev xeL (P:A5)(w:AL)(A:AK)(env:Gj)(outer:Aa Gj)(H:Hp)(s:Ag)(E:XK):Ac->Ag->Prop:=λe s'=>Ao (Ar P w) (A.deeper env) (leaving env e) (λ_ s''=>CXd P w outer H s E e s'') (λe' s''=>CXd P w outer H s E e' s'') s'
theorem lS {X:Cx}{P0:Hp}{α:Aa Af}{c:Ac}{x:D}{s':Ag}(hA:X.A=A.deeper X.env)(k:XOk X P0 α c x S u s')
  (q:∀ H' P' α',Rel X.K H' P' α' S->qF P0 P'->α<+:α'->E c none H'):xeL X.prog X.w A X.env X.outer X.H₀ X.s₀ E u s':=by
 obtain⟨e,pins,σ,H1,P1,α1,rfl,I,r,e1,e2,F,fl⟩:=k;unfold xeL;rw[<- hA];refine oT I F I.ok.frames fl λh' B a0 x1 I1 cv=>?_;refine⟨e,c,H1,B,a0,rfl,I1.os,I1.bare,by have z:=I1.base;rw[F.1] at z;exact z,I1.hok,x1,λb o eb hb n=>cv b o eb ?_ λz=>?_,q H1 P1 α1 r e1 e2⟩
 .rcases hb with z|z
  .exact .inl z
  .exact .inr (.inl z)
 .rcases (Fn1.mem F).mp z with z|z
  .subst z
   rcases hb with⟨o',e'⟩|z
   .exact absurd (Az e') (Kh.mpr I1.ok.above)
   .exact z I1.free
  .exact n z
theorem aE {ps:Aa As}{s1:Ag}(S:FnScope N ps scope)(hd:cm=true->A.handled=none)(e0:Env0 P w K mg base A outer s H)(hl:vs.length=ps.length)(r:qJ vs us)
  (x:InCallC s s.heap.objs.size (Rp (Eb qual scope s.heap.objs.size f cd).kindOf (ps.zip us) λ_=>none) (Fo (s.heap.objs.size+1) scope.names []) (Rq (Eb qual scope s.heap.objs.size f cd).kindOf (ps.zip us) λ_=>none) s1) :
  Inv (cxC cm P w K mg base N qual scope f cd A outer s H E) [] (_L.xW N vs) H s1:=by
 have I:=tZ (CX:=CXd P w) (E:=E) (A:={ A with handled:=none }) S rfl ⟨e0.frames,e0.mod,e0.bs,e0.bsz,e0.funs,e0.frf,e0.hok,e0.bare⟩ hl r x
 have J:=Inv.re I (A.deeper (Eb qual scope s.heap.objs.size f cd)) cm (cxC cm P w K mg base N qual scope f cd A outer s H E).xe (Lc e0.frames) hd;exact J
end
theorem oF {P:A5}{w:AL}{K:Aj}{mg:As->Al Ac}{base:AB}{cm:Ap}{k:Ai}{f:Af}{qual:As}{params:Lm}{scope:Cs}{oc:Ac}{an:Al Af}{osl:Aw (Al Ac)}{x:As}{kV doc pm cdv ct:Ac}{N ps:Aa As}
  {A:AK} {outer:Aa Gj} {s:Ag} {H:Hp} {args:Args} {us:Aa Ac} {vs:Aa V} {Q:VK} {E:XK} (lk:K.lookup f=Ab ⟨oc,od,.func (Em x qual params body scope .none kV doc pm an cdv ct),osl⟩) (hcd:IC K cdv qual=true) (S:FnScope N ps scope) (hl:vs.length=ps.length) (hr:RoomC cm (k+1) A)
  (e0:Env0 P w K mg base A outer s H) (hb:Kl s (Em x qual params body scope .none kV doc pm an cdv ct) args (ps.zip us)) (r:qJ vs us)
  (hbody:∃ t,PSs (cxC cm P w K mg base N qual scope f cdv A outer s H E) body t/\t { nx:=λ_ H'=>Q .non H',rt:=Q } (_L.xW N vs) H) :
  Fn (Ar P w) A (.call (.ref f) args) (CR (CXd P w) outer P w H s Q E) s:=by
 have KX:K.In s.heap:=e0.mod.kin.keeps λb o e=>(e0.bs b o e).1;have lim:s.heap.NoLimit:=e0.mod.nolimit.keeps λb o e=>(e0.bs b o e).1;have hkind:∀ y∈ps.zip us,scope.names.lookup y.1=Ab .local \/ (scope.names.lookup y.1=Ab .cell/\((Fo (s.heap.objs.size+1) scope.names []).lookup y.1).isSome=true):=λ⟨n,v⟩ hy=>by
  rcases S.par n (IW hy).1 with q|q
  .exact .inl q
  .exact .inr ⟨q,Hy _ _ _ (.inl q)⟩
 refine Py hr.depth (KX _ _ lk) rfl S.co S.gen rfl (Sw KX hcd) (hb _ _ _ _ ?_);refine Ng S.kind hkind λenv he s1 x=>?_;subst he;refine⟨lim.keeps x.toInCall.keep,codeAny_func ?_⟩;obtain⟨t,ht,hq⟩:=hbody;have I:Inv (cxC cm P w K mg base N qual scope f cdv A outer s H E) [] (_L.xW N vs) H s1:=aE S hr.hd e0 hl r x;refine Ff (ht [] s1 (_L.xW N vs) H _ I hq) (λfl s' hs=>?_) λe s' hs=>hs;have fin:∀ {σ' : _L.St} {H':Hp} {v:V} {u:Ac},Inv (cxC cm P w K mg base N qual scope f cdv A outer s H E) [] σ' H' s'->qK v u->Q v H'->CE outer P w H s Q u s':=
  λ{σ' H' v u} J rv q=>⟨v,H',J.os,J.bare,J.base,J.hok,rv,q⟩
 cases fl with
 |ret u =>
  obtain⟨v,σ',H',J,rv,q⟩:=hs;exact fin J rv q
 |next =>
  obtain⟨σ',H',J,q⟩:=hs;exact fin (v:=V.non) (u:=Bs) J rfl q
 |brk =>
  obtain⟨_,_,_,q⟩:=hs;exact An q
 |cont =>
  obtain⟨_,_,_,q⟩:=hs;exact An q
def jU (K:Aj)(x:As)(cdv:Ac):Prop:=∀ c T,Cd K x=Ab (c,T)->cdv=.ref c
theorem F5 {P:A5}{w:AL}{K:Aj}{mg:As->Al Ac}{base:AB}{cm:Ap}{k:Ai}{f:Af}{x qual:As}{st:Dd}{fd:Dq}{N ps:Aa As}(F:Fun K x qual st f fd)(S:FnScope N ps (qH st))
  (len:∀ vs H Q E,sp vs H Q E->vs.length=ps.length)
  (hbody:∀ (cdv:Ac) (A:AK) (outer:Aa Gj) (s:Ag) (H:Hp) (vs:Aa V) (Q:VK) (E:XK),fd.code=cdv/\Mod K mg base->RoomC cm k (A.deeper (Eb qual (qH st) s.heap.objs.size f cdv))->sp vs H Q E ->
   ∃ t,PSs (cxC cm P w K mg base N qual (qH st) f cdv A outer s H E) (zJ st) t/\t { nx:=λ_ H'=>Q .non H',rt:=Q } (_L.xW N vs) H) :
  FnX P w K mg base cm (k+1) f fd ps sp:=by
 obtain⟨oc,od,kV,doc,pm,an,cdv,ct,osl,rfl,lk,hcd⟩:=F.ex;exact⟨len,λA outer s H args us vs Q E hr e0 hb r hsp=>oF lk hcd S (len _ _ _ _ hsp) hr e0 hb r (hbody cdv A outer s H vs Q E ⟨rfl,e0.mod⟩ (hr.deeper _) hsp)⟩
noncomputable def yV (n:Ai)(ds:Aa D):qE:=ds.map Ab++Br (n-ds.length) none
noncomputable def RW:Out->Res D
 |.rt d S=>.ok d S
 |.nx _ S=>.ok .non S
 |.ex c x _ S=>.ex c x S
 |_=>.bad
noncomputable def qX (n:Ai)(g:DS):DF:=λds S=>RW (g (yV n ds) S)
def spR (K:Aj)(P:Hp)(α : Aa Af)(R:Res D)(Q:VK)(E:XK):Prop:=match R with
 |.ok d S'=>∀ v H' P' α',Rel K H' P' α' S'->qF P P'->α<+:α'->Rep K P' α' d v->Q v H'
 |.ex c _ S'=>∀ H' P' α',Rel K H' P' α' S'->qF P P'->α<+:α'->E c none H'
 |.bad=>CP
def spD (K:Aj)(n:Ai)(F:DF):Sp:=λvs H Q E=>vs.length=n/\∃ P α ds S,Rel K H P α S/\qD K P α ds vs/\spR K P α (F ds S) Q E
theorem i7 {K:Aj}{P:Hp}{α:Aa Af}{N:Aa As}{ds:Aa D}(r:qD K P α ds vs):qY K P α (_L.xW N vs) (yV N.length ds):=by
 refine⟨by simp[yV,_L.xW,r.length],λi d e=>?_⟩
 unfold yV at e;unfold _L.xW;by_cases hi:i<ds.length
 .rw[AY (by simpa using hi),By] at e
  rw[AY (by rw[A4,<- r.length];exact hi),By]
  cases q:ds[i]? with
  |none=>rw[q] at e;cases e
  |some d' =>
   rw[q] at e;cases e;obtain⟨v,h1,h2⟩:=r.get q;exact⟨v,by rw[h1];rfl,h2⟩
 .rw[Bf (by simpa using hi),Jo] at e
  split at e <;> cases e
section
variable {P:A5}{w:AL}{K:Aj}{mg:As->Al Ac}{base:AB}{cm:Ap}
theorem lG {qual:As}{scope:Cs}{f:Af}{cdv:Ac}{A:AK}{outer:Aa Gj}{s:Ag}{H P':Hp}{E:XK}{N:Aa As}{g:DS}{α:Aa Af}{ds:Aa D}{S':Sto}(hb:PSs (cxC cm P w K mg base N qual scope f cdv A outer s H E) body (tDS (cxC cm P w K mg base N qual scope f cdv A outer s H E) g))
  (r:Rel K H P' α S') (rp:qD K P' α ds vs) (af:spR K P' α (qX N.length g ds S') Q E):∃ t,PSs (cxC cm P w K mg base N qual scope f cdv A outer s H E) body t/\t { nx:=λ_ H'=>Q .non H',rt:=Q } (_L.xW N vs) H:=by
 refine⟨_,hb,P',α,yV N.length ds,S',r,i7 rp,?_⟩;unfold qX at af;cases q:g (yV N.length ds) S' with
 |rt d S1=>rw[q] at af;exact λv H' P1 α1 r1 e1 e2 p1=>af v H' P1 α1 r1 e1 e2 p1
 |nx env S1=>rw[q] at af;exact λσ' H' P1 α1 r1 re1 e1 e2=>af .non H' P1 α1 r1 e1 e2 (by simp only[Rep])
 |bk env S1=>rw[q] at af;exact An af
 |ct env S1=>rw[q] at af;exact An af
 |ex c x env S1=>rw[q] at af;exact λu s' z=>lS (A:=A) rfl z λH' P1 α1 r1 e1 e2=>af H' P1 α1 r1 e1 e2
 |bad=>rw[q] at af;exact An af
theorem fnX {x qual:As}{st:Dd}{f:Af}{fd:Dq}{N ps:Aa As}{k:Ai}{g:DS}(F:Fun K x qual st f fd)(S:FnScope N ps (qH st))
  (hbody:∀ (cdv:Ac) (A:AK) (outer:Aa Gj) (s:Ag) (H:Hp) (E:XK),fd.code=cdv/\Mod K mg base->RoomC cm k (A.deeper (Eb qual (qH st) s.heap.objs.size f cdv)) ->
   PSs (cxC cm P w K mg base N qual (qH st) f cdv A outer s H E) (zJ st) (tDS (cxC cm P w K mg base N qual (qH st) f cdv A outer s H E) g)) :
  FnX P w K mg base cm (k+1) f fd ps (spD K ps.length (qX N.length g)):=by
 refine F5 F S (λvs H Q E h=>h.1) λcdv A outer s H vs Q E hc hr h=>?_;obtain⟨hl,P',α,ds,S',r,rp,af⟩:=h;exact lG (hbody cdv A outer s H E hc hr) r rp af
end
section
variable {X:Cx}{cm:Ap}{k:Ai}{f:Af}{fd:Dq}{ps:Aa As}{F:DF}{x:As}{p pos:CN}{e:AM}{es:Aa AM}{fa:DA}{n:Ai}
noncomputable def qR (n:Ai)(F:DF)(fa:DA):DE:=λenv S=>(fa env S).bind λds S1=>if ds.length=n then F ds S1 else .bad
def EX (X:Cx)(P:Hp)(α : Aa Af)(R:Res D):XK:=λc _ H'=>match R with
 |.ex c' _ S'=>c=c'/\∃ P' α',Rel X.K H' P' α' S'/\qF P P'/\α<+:α'
 |_=>CP
theorem sJ {P:Hp}{α:Aa Af}{R:Res D}(af:qU X P α R Q):spR X.K P α R Q (EX X P α R):=by
 cases R with
 |ok d S'=>exact af
 |ex c x S'=>exact λH' P' α' r' e1 e2=>⟨rfl,P',α',r',e1,e2⟩
 |bad=>exact af
theorem b7 {pins:Aa (Af × AX)}{σ:_L.St}{H:Hp}{s:Ag}{P:Hp}{α:Aa Af}{R:Res D}(hF:(∃ c x S',R=.ex c x S')->Fn1 X)(I:Inv X pins σ H s)(af:qU X P α R Q)
  (h:Fn (Ar X.prog X.w) X.A (.call u ⟨us,[]⟩) (CR (CXd X.prog X.w) X.stack X.prog X.w H s Q (EX X P α R)) s):Ao (Ar X.prog X.w) X.A (call u us) (EP X pins σ Q) X.xe s:=by
 refine Mc (Hb h λr s' hq=>?_);cases r with
 |error u =>
  have hq:CXd X.prog X.w X.stack H s (EX X P α R) u s':=hq;cases R with
  |ok d S'=>obtain⟨_,_,_,_,_,_,_,_,_,_,_,_,q⟩:=hq;exact An q
  |bad=>exact An af
  |ex c' x' S' =>
   have hG:=hF ⟨_,_,_,rfl⟩;obtain⟨a,c,H',rfl,I',fl,rfl,P',α',r',e1,e2⟩:=F4 I hG hq;exact af _ _ ⟨a,pins,σ,H',P',α',rfl,I',r',e1,e2,hG,fl⟩
 |ok fl =>
  cases fl with
  |ret u=>exact I.after hq
  |next=>exact An hq
  |brk=>exact An hq
  |cont=>exact An hq
theorem t9 {pins:Aa (Af × AX)}{σ:_L.St}{H:Hp}{s:Ag}{P:Hp}{α:Aa Af}{ds:Aa D}(G:FnX X.prog X.w X.K X.mg X.base cm k f fd ps (spD X.K n F))(hr:RoomC cm k X.A)(hb:yJ X.K fd ps [])(hF:Fn1 X)
  (I:Inv X pins σ H s) (r:Rel X.K H P α S) (rv:qJ vs us) (rp:qD X.K P α ds vs) (hn:ds.length=n) (af:qU X P α (F ds S) Q):Ao (Ar X.prog X.w) X.A (call (.ref f) us) (EP X pins σ Q) X.xe s:=by
 have hsp:spD X.K n F vs H Q (EX X P α (F ds S)):=⟨by rw[<- rp.length];exact hn,P,α,ds,S,r,rp,sJ af⟩
 have hl:us.length=ps.length:=by rw[<- rv.length];exact G.len _ _ _ _ hsp
 have hb':=hb s us I.kIn (by rw[Df];exact hl)
 rw[Df] at hb';exact b7 (λ_=>hF) I af (G.run X.A X.stack s H ⟨us,[]⟩ us vs Q _ hr I.env0 hb' rv hsp)
theorem gM {env:qE}{S:Sto}{P:Hp}{α:Aa Af}{ds:Aa D}{Ok:D->Sto->Prop}(h:qG X P α (if ds.length=n then F ds S1 else .bad) Ok):ds.length=n/\qG X P α (F ds S1) Ok:=by
 by_cases hn:ds.length=n
 .rw[AF hn] at h;exact⟨hn,h⟩
 .rw[AC hn] at h;exact An h
theorem U7 (G:FnX X.prog X.w X.K X.mg X.base cm k f fd ps (spD X.K n F))(hr:RoomC cm k X.A)(hF:Fn1 X)(hg:Gl X x)(hm:X.mg x=Ab (.ref f))(hk:CJ X.K (.ref f)=true)(hb:yJ X.K fd ps [])
  (ha:PA X (e::es) (tDA X fa)) (hdb:(x == ("__debug__" : As))=false:=by decide) (he:Ay (e::es) X.env=(false,eval e X.env)::Ay es X.env:=by rfl) (hpl:(Di pos (Ay es X.env)).any (·.1)=false:=by rfl) :
  PE X (.Call (.Name x p) (e::es) [] pos) (tD X (qR n F fa)):=by
 intro pins s σ H Q I h;obtain⟨P,α,env,S,r,re,af⟩:=h;refine CW (v3 I hg hm ?_ hdb);refine Hv (h₀:=X.base) I.ok.mod.kin hk (thn (xS ha I r re af pos) λus s1 ⟨vs,H1,P1,α1,ds,S1,I1,rv,r1,re1,rp,e1,e2,af1⟩=>⟨I1.kIn,?_⟩) he hpl;obtain⟨hn,af2⟩:=gM (env:=env) (S:=S) af1;exact t9 G hr hb hF I1 r1 rv rp hn (qU.base e1 e2 af2)
end
noncomputable abbrev lF:Aa Ac:=[.type "ValueError",.type "Exception",.type "BaseException",.type "object"]
noncomputable def LI:Ac->Ap
 |.str _ _=>true
 |_=>false
noncomputable def jP (K:Aj)(N:Af):Ap:=(match Gf N K with
 |some o=>match o.data with
  |.dict es _=>es.toList.all λe=>LI e.key
  |_=>false
 |none=>false)&&decide (Bw K N "__init__" = Ab none)
theorem wY {K:Aj}{N:Af}(h:jP K N=true):Ww K N=true/\Bw K N "__init__" = Ab none:=by
 unfold jP at h;rw[A0,AG] at h;refine⟨?_,h.2⟩;have h1:=h.1;unfold Ww;cases e:Gf N K with
 |none=>rw[e] at h1;cases h1
 |some o =>
  rw[e] at h1;obtain⟨oc,od,dt,sl⟩:=o;cases dt with
  |dict es ep =>
   simp only at h1 ⊢;rw[Array.all_toList] at h1;refine Eq.trans (congrArg (λf=>Array.all es f) (funext λe=>?_)) h1;cases e.key <;> rfl
  |_=>cases h1
noncomputable def l5 (K:Aj)(C:Af)(f:Ac->Uj->Aw (Al Ac)->Ap):Ap:=match Gf C K with
 |some o=>(match o.data with|.cls cd=>f o.cls cd o.slots|_=>false)
 |none=>false
theorem dS {K:Aj}{f:Ac->Uj->Aw (Al Ac)->Ap}(h:l5 K C f=true):∃ oc od cd sl,Gf C K=Ab ⟨oc,od,.cls cd,sl⟩/\f oc cd sl=true:=by
 unfold l5 at h;cases e:Gf C K with
 |none=>rw[e] at h;exact Go h
 |some o =>
  rw[e] at h;obtain⟨oc,od,dt,sl⟩:=o;cases dt with
  |cls cd=>exact⟨oc,od,cd,sl,rfl,h⟩
  |_=>exact Go h
noncomputable def b9 (K:Aj)(C A:Af):Ap:=l5 K C λoc cd sl=>l5 K A λ_ ca _=>decide (oc=.type "type")&&(decide (cd.mro=.ref C::.ref A::lF)&&(!cd.hasDel&&(jP K cd.ns&&(jP K ca.ns&&(decide (sl.toList.length=6)&&decide (sl.toList[4]? = Ab (Ab (.builtin "ValueError.__new__"))))))))
inductive ExcO (h:AB)(C:Af):Prop
 |mk (nm q:As) (N:Af) (bs bm:Aa Ac) (hdct:Ap) (sn:Aa As) (sub:Aa Ac) (ab:Ap) (col:Al Ap) (dd:Al Af) (k0 k1 k2 k3 k5:Al Ac) (mN:As->Al Ac) (hC:h.get? C=Ab (excClassObj nm q C N bs bm hdct sn sub ab col dd k0 k1 k2 k3 k5 "ValueError.__new__")) (hN:h.Ns N mN) (hni:mN "__init__" = none) (T:OwnTail h lF bm):ExcO h C
theorem mV {β:Type}{l:Aa β}{n:Ai}(h:l.length=n+1):∃ a t,l=a::t/\t.length=n:=by
 cases l with
 |nil=>exact Nat.noConfusion h
 |cons a t=>exact⟨a,t,rfl,Yd h⟩
theorem six {β:Type}{l:Aa β}(h:l.length=6):∃ a b c d e f,l=[a,b,c,d,e,f]:=by
 obtain⟨a,t,e1,h⟩:=mV h;obtain⟨b,t2,e2,h⟩:=mV h;obtain⟨c,t3,e3,h⟩:=mV h;obtain⟨d,t4,e4,h⟩:=mV h;obtain⟨e,t5,e5,h⟩:=mV h;obtain⟨f,t6,e6,h⟩:=mV h;exact⟨a,b,c,d,e,f,by rw[e1,e2,e3,e4,e5,e6,Jq.mp h]⟩
theorem M8 {cd:Uj}{tl:Aa Ac}{k0 k1 k2 k3 k4 k5:Al Ac}{n:CF}(hm:cd.mro=.ref C::tl)(hd:cd.hasDel=false)(hs:sl.toList=[k0,k1,k2,k3,k4,k5])(hn:sl.toList[4]? = Ab (Ab (.builtin n))) :
  (⟨.type "type",od,.cls cd,sl⟩:AX)=excClassObj cd.name cd.qualname C cd.ns cd.bases tl cd.hasDict cd.slotNames cd.subclasses cd.abstract cd.collection od k0 k1 k2 k3 k5 n:=by
 rw[hs] at hn;cases hn;cases cd;cases sl;cases hm;cases hd;cases hs;rfl
theorem US {K:Aj}{h:AB}{A:Af}{cd:Uj}(KI:K.In h)(e:Gf C K=Ab ⟨.type "type",od,.cls cd,sl⟩)(h2:cd.mro=.ref C::.ref A::lF)(h3:cd.hasDel=false)(h4:jP K cd.ns=true)(h6:sl.toList.length=6)(h7:sl.toList[4]? = Ab (Ab (.builtin "ValueError.__new__")))(T:OwnTail h lF (.ref A::lF)):ExcO h C:=by
 obtain⟨k0,k1,k2,k3,x,k5,es⟩:=six h6;exact⟨_,_,_,_,_,_,_,_,_,_,_,k0,k1,k2,k3,k5,_,(KI _ _ e).trans (congrArg Ab (M8 h2 h3 es h7)),.of_isNs (Tc KI (wY h4).1),Ot KI (wY h4).1 (wY h4).2,T⟩
theorem UT {K:Aj}{h:AB}{A:Af}(KI:K.In h)(z:b9 K C A=true):ExcO h C:=by
 obtain⟨oc,od,cd,sl,e,z⟩:=dS z;obtain⟨qc,qd,ca,ql,e2,z⟩:=dS z;have a1:=Do.mp z;have a2:=Do.mp a1.2;have a3:=Do.mp a2.2;have a4:=Do.mp a3.2;have a5:=Do.mp a4.2;have a6:=Do.mp a5.2;rw[Bd a1.1] at e;exact US KI e (Bd a2.1) (Ip _▸a3.1) a4.1 (Bd a6.1) (Bd a6.2) (.own (KI _ _ e2) (.of_isNs (Tc KI (wY a5.1).1)) (Ot KI (wY a5.1).1 (wY a5.1).2) .base)
section
variable {X:Cx}{pos:CN}{fa:DA}
noncomputable def jQ (c:Ac)(fa:DA):DS:=λenv S=>(fa env S).toS env λds S1=>if ds.length<=lim then .ex c .non env S1 else .bad
inductive GotAS (X:Cx)(pins:Aa (Af × AX))(σ : _L.St)(env:qE)(P:Hp)(α : Aa Af)(us:Aa Ac)(s1:Ag)(k:Aa D->Sto->Out)(E:Ends):Prop
 |mk (vs:Aa V) (H1 P1:Hp) (α1:Aa Af) (ds:Aa D) (S1:Sto) (I:Inv X pins σ H1 s1) (rv:qJ vs us) (r:Rel X.K H1 P1 α1 S1) (re:qY X.K P1 α1 σ env) (rp:qD X.K P1 α1 ds vs) (e1:qF P P1) (e2:α<+:α1) (q:z9 X P1 α1 (k ds S1) E):GotAS X pins σ env P α us s1 k E
theorem U4 {es:Aa AM}{k:Aa D->Sto->Out}{pins:Aa (Af × AX)}{s:Ag}{σ:_L.St}{H P:Hp}{α:Aa Af}{env:qE}{D:Ends}(he:PA X es (tDA X fa))(I:Inv X pins σ H s)(r:Rel X.K H P α S)
  (re:qY X.K P α σ env) (af:z9 X P α ((fa env S).toS env k) D) (pos:CN) :
  Ao (Ar X.prog X.w) X.A (spliced (Di pos (Ay es X.env))) (λus s1=>GotAS X pins σ env P α us s1 k D) X.xe s:=by
 have af1:qG X P α ((fa env S).bind λd S=>.ok d S) λd S=>z9 X P α (k d S) D:=by
  have:=wR af;cases q:fa env S <;> rw[q] at this <;> exact this
 exact thn (xS he I r re af1 pos) λu s1 ⟨vs,H1,P1,α1,ds,S1,I1,rv,r1,re1,rp,e1,e2,q⟩=>⟨vs,H1,P1,α1,ds,S1,I1,rv,r1,re1,rp,e1,e2,z9.base e1 e2 q⟩
theorem XI {x:As}{Ae:Af}{e₀:AM}{qO:Aa AM}{np cpos:CN}(hc:X.calm=true)(hF:Fn1 X)(hg:Gl X x)(hm:X.mg x=Ab (.ref C))(hx:b9 X.K C Ae=true)(ha:PA X (e₀::qO) (tDA X fa))
  (hdb:(x == ("__debug__" : As))=false:=by decide) (he:Ay (e₀::qO) X.env=(false,eval e₀ X.env)::Ay qO X.env:=by rfl) (hpl:(Di cpos (Ay qO X.env)).any (·.1)=false:=by rfl) :
  PS X (.Raise (Ab (.Call (.Name x np) (e₀::qO) [] cpos)) none pos) (tDS X (jQ (.ref C) fa)):=by
 intro pins s σ H D I h;obtain⟨P,α,env,S,r,re,af⟩:=h;obtain⟨nm,qn,N,bs,tl,hdct,sn,sub,ab,col,dd,k0,k1,k2,k3,k5,mN,hC,hN,hni,T⟩:=UT I.mod.kin hx;refine wpAny_Raise_call_subT (C:=C) (nm:=nm) (q:=qn) (N:=N) (bs:=bs) (bm:=tl) (hdct:=hdct) (sn:=sn) (sub:=sub) (ab:=ab) (col:=col) (dd:=dd) (k0:=k0) (k1:=k1) (k2:=k2) (k3:=k3) (k5:=k5)
  Ni (mN:=mN) (T.hasType Ni.hasBase) (I.ok.hd hc) (by rw[he];show (false||(Di cpos (Ay qO X.env)).any (·.1))=false;rw[hpl];rfl) hni (v3 I hg hm ⟨rfl,?_⟩ hdb)
 have run:=U4 ha I r re af cpos;rw[he] at run ⊢;refine Re (thn run λus s2 ⟨vs,H1,P1,α1,ds,S1,I1,rv,r1,re1,rp,e1,e2,q⟩=>?_);have hl:us.length=ds.length:=by rw[rp.length,rv.length]
 by_cases hz:ds.length<=lim
 .rw[AF hz] at q
  refine⟨rfl,by rw[hl,<- zX];exact hz,I1.bk _ _ hC,hN.keeps I1.bk,T.keeps I1.bk,λh' e hm=>q _ _ ⟨e,pins,σ,H1,P1,α1,rfl,I1.kept (t':=s2.toks) hm.keeps,r1,qF.refl _,AA _,hF,.new s2.heap us hm I1.stack λb o eb old=>?_⟩⟩
  obtain⟨o1,q1⟩:=Old.there I1 hF old;have q2:=hm.keeps b o1 q1;rw[eb] at q2;cases q2;exact q1
 .rw[AC hz] at q;exact An q
end
section
variable {X:Cx}{pins:Aa (Af × AX)}{σ : _L.St}{H:Hp}{s:Ag}
theorem aP {M:Im}{A:AK}{E:Ac->Ag->Prop}{base h:AB}{env:Gj}{outer:Aa Gj}{L e:Af}{cls:Ac}{Q:Mx->Ag->Prop}
  (hfr:A.frames=Ab (env::outer)) (hf:env.frame=Ab L) (hkb:base.StaysIn h) (hl:h.FunFrames base (env::outer)) (hx:Qs h s.heap e cls args)
  (hQ:∀ h' a0,Yu base (env::outer) e cls a0 L h'->s.heap.UpToSlots h'->Q () { s with heap:=h' }) : Ao M A (Oa (.ref e) env) Q E s:=by
 obtain⟨t,he,htn,ht⟩:=hx.there;have fresh:∀ b,h.get? b=none->base.get? b=none:=λb hb=>by
  cases hq:base.get? b with
  |none=>rfl
  |some o'=>have z:=hkb b o' hq;rw[hb] at z;cases z
 unfold Oa;simp only[hf];refine Ad (Cg he rfl (x:=.none) rfl ?_);rw[AC (by decide)]
 refine wpAny_entryW hfr (hl.of_keeps λb o hb _=>⟨o,hx.keeps b o hb,rfl⟩) hf he (λb o hb=>hx.keeps b o (hkb b o hb)) (fresh e hx.new) rfl (by simp) (a0:=.ref t) rfl λh' hN=>?_
 obtain⟨n1,n2,n3,n4⟩:=hN;exact hQ h' (.ref t) ⟨n1,fresh e hx.new,n2,n3⟩ n4
theorem WC {M:Im}{A:AK}{E:Ac->Ag->Prop}{c:Ac}{e:Af}{Q:Mx->Ag->Prop}(I:Inv X pins σ H s)(F:Fn1 X)(hA:A.frames=Ab X.stack)(f:FlyX X pins H c e s.heap)
  (hQ:∀ h' B a0,Lx B X.stack e c a0 h'->Inv X pins σ H { s with heap:=h' } -> Cv X pins H B h'->Q () { s with heap:=h' }) :
  Ao M A (Oa (.ref e) X.env) (λ_ s₂=>Ao M A (Uk (.ref e) none) Q E s₂) E s:=by
 have land:∀ (B:AB) (a0:Ac) (h1:AB),Cv X pins H B s.heap->Yu B X.stack e c a0 X.env.locals h1->s.heap.UpToSlots h1->Ao M A (Uk (.ref e) none) Q E { s with heap:=h1 }:=λB a0 h1 cv hh up=>by
  refine wpAny_landsW (s:={ s with heap:=h1 }) hh λh2 f2 u2=>?_
  obtain⟨I2,cv2⟩:=Inv.fly I F cv f2.1 (up.trans u2);exact hQ h2 B a0 f2 I2 cv2
 cases f with
 |new g args hm hf hk =>
  obtain⟨k1,k2,k3⟩:=Q6 I hm hf hk;rw[F.2.1] at hA;exact aP hA F.2.2 k1 (by rw[<- F.2.1];exact k2) hm λh' a0 x1 x2=>land _ a0 h' k3 (F.2.1▸x1) x2
 |fly B a0 fl cv =>
  rw[F.2.1] at hA;exact wpAny_looks_onW hA F.2.2 (by rw[<- F.2.1];exact fl) λh' x1 x2=>land B a0 h' cv (by rw[F.2.1];exact x1) x2
theorem rT {B:AB}{c a0:Ac}{e:Af}(I:Inv X pins σ H s)(F:Fn1 X)(fl:Lx B X.stack e c a0 s.heap)(cv:Cv X pins H B s.heap):¬ Old X pins H e/\e ∉ frs X.stack/\∃ ob,s.heap.get? e=Ab ob/\ob.cls=c:=by
 obtain⟨oe,vs,he,hc,hd,_⟩:=fl.first
 have nf:e ∉ frs X.stack:=λz=>by
  obtain⟨_,o,ho,hn⟩:=I.stack.mem z;rw[he] at ho;cases ho;exact hn vs hd
 refine⟨λz=>?_,nf,oe,he,hc⟩;have q:=cv e oe he z nf;rw[fl.2.1] at q;cases q
theorem Inv.track {e:Af}{c:Ac}{ob:AX}(I:Inv X pins σ H s)(F:Fn1 X)(no:¬ Old X pins H e)(nf:e ∉ frs X.stack)(he:s.heap.get? e=Ab ob)(hc:ob.cls=c):Inv X pins σ (upd H e (d0 e c)) s:=by
 have hn:H e=none:=by
  cases q:H e with
  |none=>rfl
  |some u=>exact absurd (.inr (.inl (by rw[q];intro z;cases z))) no
 have nL:e≠X.env.locals:=λz=>nf (F.mem.mpr (.inl z));have n0:∀ b o,X.s₀.heap.get? b=Ab o->b≠e:=λb o q z=>no (.inl ⟨o,z▸q⟩);refine⟨I.ok,I.os,I.bare,⟨I.base.keep,I.base.slot,λb o q n hx=>?_,I.base.there,λb xs q=>?_,λb o xs q=>?_,λb ps q=>?_⟩,I.loc,I.cell,?_,λx k q=>?_,λp hp=>?_,λb u q=>?_,I.len⟩
 .rw[qI (n0 b o q)];exact I.base.free b o q n hx
 .have z:=I.base.tups b xs q
  rw[qI (qS z hn)];exact z
 .have z:=I.base.frzs b o xs q
  rw[qI (qS z hn)];exact z
 .obtain⟨m,z⟩:=I.base.tbls b ps q
  exact⟨m,by rw[qI (qS z hn)];exact z⟩
 .rw[qI (Ed nL)];exact I.free
 .have z:k≠e:=λz=>no (.inr (.inr (.inr ⟨x,z▸q⟩)))
  rw[qI z];exact I.freeC x k q
 .obtain⟨a1,a2,a3,a4,a5⟩:=I.pin p hp
  have z:p.1≠e:=λz=>no (.inr (.inr (.inl ⟨p,hp,z⟩)));exact⟨a1,by rw[qI z];exact a2,a3,a4,a5⟩
 .by_cases hb:b=e
  .subst hb
   rw[qV] at q;cases q;refine⟨⟨ob,he,hc⟩,⟨ob,he⟩,λh1 h2 ⟨o,q1,q2⟩ k=>⟨o,k o q1,q2⟩⟩
  .rw[qI hb] at q
   exact(I.hok b u q).stay (λ_ _ _ z=>z) (λk z=>by rw[qI (qS z hn)];exact z) λk xs z=>by rw[qI (qS z hn)];exact z
theorem Inv.gone {i t':Ai}{n:As}{h':AB}(I:Inv X pins σ H s)(hN:X.N.Nodup)(hi:X.N[i]? = Ab n){m:As->Al Ac}{v:Al Ac}(hl:∀ (j:Ai) (y:As) (w:V),X.N[j]? = Ab y->σ[j]? = Ab (Ab w)->Vis X.env.scope y->∃ u,qK w u/\PB X.env s.heap m y u)(hv:h'.Ns X.env.locals λy=>if y=n then v else m y)(sb:CI X.env.locals s.heap h') :
  Inv X pins (σ.set i none) H { s with heap:=h',toks:=t' }:=by
 have neL:∀ b o,X.s₀.heap.get? b=Ab o->b≠X.env.locals:=λb o e=>AZ (Ax (Az e) I.ok.above);have kp:∀ b o,b≠X.env.locals->s.heap.get? b=Ab o->h'.get? b=Ab o:=λb o n e=>(sb.2 b n).trans e;refine⟨I.ok,I.os,I.bare,⟨λb o e n hb hx=>kp b o (neL b o e) (I.base.keep b o e n hb hx),λb o e n hb hx=>?_,I.base.free,λb o e hx=>?_,I.base.tups,I.base.frzs,I.base.tbls⟩,⟨_,hv,λj y w e1 e2 e3=>?_⟩,λx c e=>?_,I.free,I.freeC,λp hp=>?_,λb u q=>?_,by simpa using I.len⟩
 .obtain⟨sl,q⟩:=I.base.slot b o e n hb hx
  exact⟨sl,kp b _ (neL b o e) q⟩
 .obtain⟨o',q⟩:=I.base.there b o e hx
  exact⟨o',kp b o' (neL b o e) q⟩
 .have hj:i≠j:=λz=>by
   subst z;by_cases hs:i<σ.length
   .rw[Ea hs] at e2;cases e2
   .rw[Kn (by simp;omega)] at e2;cases e2
  rw[CQ hj] at e2;obtain⟨u,r,l⟩:=hl j y w e1 e2 e3;refine⟨u,r,?_⟩;rcases l with⟨k,z⟩|⟨k,c,z,zc⟩
  .refine .inl ⟨k,?_⟩
   have:y≠n:=λz=>hj (bK hN hi (z▸e1));simp[this,z]
  .exact .inr ⟨k,c,z,zc.sameBut sb (I.cne y c z)⟩
 .obtain⟨w,z⟩:=I.cell x c e
  exact⟨w,z.sameBut sb (I.cne x c e)⟩
 .obtain⟨e,n,ne,nf,d⟩:=I.pin p hp
  exact⟨kp p.1 p.2 ne e,n,ne,nf,d⟩
 .refine(I.hok b u q).stay (λc w hc z=>kp c w ?_ z) (λ_ z=>z) λ_ _ z=>z
  rintro rfl;rcases hc with rfl|hc
  .rw[I.free] at q;cases q
  .rw[I.free] at hc;cases hc
theorem rV {A:AK}{E:Ac->Ag->Prop}{i:Ai}{n:As}{pos:CN}{Q:Mx->Ag->Prop}(I:Inv X pins σ H s)(hN:X.N.Nodup)(hi:X.N[i]? = Ab n)(hlo:X.env.scope.names.lookup n=Ab .local)
  (h:∀ s',Inv X pins (σ.set i none) H s'->Q () s'):Ao M A (do Sn X.env n .none;unbindBehindTheSuite X.env n pos) Q E s:=by
 obtain⟨m,hm,hl⟩:=id I.loc;exact wpAny_nameGoes_keeps hlo hm (by rw[I.ok.kind];rfl) λh' v hv sb=>h _ (Inv.gone I hN hi hl hv sb)
end
abbrev Cx.tryIn (X:Cx)(E:Ac->Ag->Prop)(pn:Aa (Af × AX)):Cx:={ X with xe:=E,pn:=pn }
abbrev Cx.suite (X:Cx)(e:Af):Cx:=Cx.re X (X.A.mark (Ab (.ref e))) false λ_ _=>CP
noncomputable def bL (N i:Ai)(cs:Aa Ac)(f g:DS):DS:=λenv S=>match f env S with
 |.ex c x env1 S1=>if cs.contains c then (match g ((Br N none).set i (Ab (.exn c))) S1 with
   |.rt d S2=>.rt d S2
   |.nx env2 S2=>.nx (env2.set i none) S2
   |_=>.bad) else .bad
 |o=>o
section
variable {X:Cx}{pins:Aa (Af × AX)}{σ : _L.St}{H:Hp}{s:Ag}
theorem Inv.inTry (I:Inv X pins σ H s)(E:Ac->Ag->Prop):Inv (Cx.tryIn X E (X.pn++pins)) [] σ H s:=
 ⟨⟨I.ok.mod,I.ok.kind,I.ok.glob,I.ok.blt,I.ok.above,I.ok.inj,I.ok.has,I.ok.cab,I.ok.hd,I.ok.frames,I.ok.stk,I.ok.exf,I.ok.bs,I.ok.bsz,I.ok.noex,I.ok.exfs,I.ok.funs,I.ok.frf⟩,I.os,I.bare,I.base,I.loc,I.cell,I.free,I.freeC,λp hp=>I.pin p (by simpa using hp),I.hok,I.len⟩
theorem Inv.outTry {E:Ac->Ag->Prop}(I:Inv (Cx.tryIn X E (X.pn++pins)) more σ H s):Inv X pins σ H s:=
 ⟨⟨I.ok.mod,I.ok.kind,I.ok.glob,I.ok.blt,I.ok.above,I.ok.inj,I.ok.has,I.ok.cab,I.ok.hd,I.ok.frames,I.ok.stk,I.ok.exf,I.ok.bs,I.ok.bsz,I.ok.noex,I.ok.exfs,I.ok.funs,I.ok.frf⟩,I.os,I.bare,I.base,I.loc,I.cell,I.free,I.freeC,λp hp=>I.pin p (Bk _ hp),I.hok,I.len⟩
theorem SP.outTry {E:Ac->Ag->Prop}{D:Ends}{f:Flow}{s':Ag}(h:SP (Cx.tryIn X E (X.pn++pins)) [] D f s'):SP X pins D f s':=by
 cases f with
 |next=>obtain⟨σ',H',I,q⟩:=h;exact⟨σ',H',Inv.outTry I,q⟩
 |brk=>obtain⟨σ',H',I,q⟩:=h;exact⟨σ',H',Inv.outTry I,q⟩
 |cont=>obtain⟨σ',H',I,q⟩:=h;exact⟨σ',H',Inv.outTry I,q⟩
 |ret u=>obtain⟨v,σ',H',I,r,q⟩:=h;exact⟨v,σ',H',Inv.outTry I,r,q⟩
theorem FlyX.outTry {E:Ac->Ag->Prop}{c:Ac}{e:Af}{h:AB}(f:FlyX (Cx.tryIn X E (X.pn++pins)) more H c e h):FlyX X pins H c e h:=by
 have old:∀ b,Old X pins H b->Old (Cx.tryIn X E (X.pn++pins)) more H b:=λb o=>by
  rcases o with o|o|⟨p,hp,z⟩|o
  .exact .inl o
  .exact .inr (.inl o)
  .exact .inr (.inr (.inl ⟨p,Bk _ hp,z⟩))
  .exact .inr (.inr (.inr o))
 cases f with
 |new g args hm hf hk=>exact .new g args hm hf λb o e q=>hk b o e (old b q)
 |fly B a0 fl cv=>exact .fly B a0 fl λb o e q n=>cv b o e (old b q) n
theorem Z9 {K:Aj}{P:Hp}{α:Aa Af}{n:Ai}(h:σ.length=n):qY K P α σ (Br n none):=by
 refine⟨by simp[h],λi d e=>?_⟩
 rw[Jo] at e
 split at e <;> cases e
theorem qY.unset {K:Aj}{P:Hp}{α:Aa Af}{env:qE}(re:qY K P α σ env)(i:Ai):qY K P α (σ.set i none) (env.set i none):=by
 refine⟨by simp[re.1],λj d e=>?_⟩
 by_cases hj:i=j
 .subst hj
  by_cases hi:i<env.length
  .rw[Ea hi] at e;cases e
  .rw[Kn (by simp;omega)] at e;cases e
 .rw[CQ hj] at e ⊢
  exact re.2 j d e
end
section
variable {X:Cx}{pos:CN}{f g:DS}
theorem FA {pins:Aa (Af × AX)}{D:Ends}{c:Ac}{e C0:Af}{s':Ag}{σ:_L.St}{H P:Hp}{α:Aa Af}{x n:As}{i:Ai}{b₀:Dd}{suite:Aa Dd}{hpos:CN}
  (F:Fn1 X) (hg:Gl X x) (hm:X.mg x=Ab (.ref C0)) (hcs:∀ c∈cs,Hn X.K c (.ref C0)=Ab true) (hN:X.N.Nodup) (hi:X.N[i]? = Ab n) (hlo:X.env.scope.names.lookup n=Ab .local)
  (hs:∀ e,PSs (Cx.suite X e) (b₀::suite) (tDS (Cx.suite X e) g)) (hc:cs.contains c=true) (I:Inv X pins σ H s') (r:Rel X.K H P α S1) (fl:FlyX X pins H c e s'.heap)
  (af:z9 X P α (match g ((Br X.N.length none).set i (Ab (.exn c))) S1 with|.rt d S2=>.rt d S2|.nx env2 S2=>.nx (env2.set i none) S2|_=>.bad) D) (hdb:(x == ("__debug__" : As))=false) :
  Ao (Ar X.prog X.w) X.A (Oa (.ref e) X.env) (λ_ s₂=>Ao (Ar X.prog X.w) X.A (Uk (.ref e) none) (λ_ s₃ =>
   Ao (Ar X.prog X.w) X.A (handleBy (.ref e) X.env [.ExceptHandler (Ab (.Name x np)) (Ab n) (b₀::suite) hpos]) (SP X pins D) X.xe s₃) X.xe s₂) X.xe s':=by
 have hcs':Hn X.K c (.ref C0)=Ab true:=hcs c (by simpa using hc)
 have Z:∀ {σ : _L.St} {H:Hp} {s:Ag},Inv X pins σ H s->Inv (Cx.suite X e) pins σ H s:=λI=>Inv.re I _ false _ I.ok.frames λz=>nomatch z;refine WC I F I.ok.frames fl λh5 B a0 f5 I5 cv5=>?_;refine wpAny_handleBy_cons (codeAny_handlers_test (A:=X.A.mark (Ab (.ref e))) (v3 (X:=Cx.suite X e) (Z I5) hg hm ?_ hdb)) (by intro q;cases q)
 obtain⟨no5,nf5,ob5,he5,hc5⟩:=rT I5 F f5 cv5;refine(PySem.W.exm_one I5.kIn (by subst hc5;exact(Zc he5).andThen .now) hcs').at ?_
 refine codeAny_handlers_suite_as ?_;refine lands_againW (s:={ s' with heap:=h5 }) f5 λh6 f6 u6=>?_
 obtain⟨I6,cv6⟩:=Inv.fly I5 F cv5 f6.1 u6;obtain⟨no6,nf6,ob6,he6,hc6⟩:=rT I6 F f6 cv6;have J6:Inv X pins σ (upd H e (d0 e c)) { s' with heap:=h6 }:=Inv.track I6 F no6 nf6 he6 hc6
 have hn:H e=none:=by
  cases q:H e with
  |none=>rfl
  |some u=>exact absurd (.inr (.inl (by rw[q];intro z;cases z))) no6
 obtain⟨r1,sP⟩:=r.pure (o:=d0 e c) hn;refine uB (X:=Cx.suite X e) (v:=.ref e) (Z J6) hN hi (.inl hlo) rfl (λs7 I7=>?_) (.inr hlo);have re7:qY X.K (upd P e (d0 e c)) α (σ.set i (Ab (.ref e))) ((Br X.N.length none).set i (Ab (.exn c))):=(Z9 I.len).set i (by simp only[Rep];exact⟨e,rfl,qV⟩)
 refine Ff (hs e pins s7 _ _ { nx:=λσ' H'=>D.nx (σ'.set i none) H',rt:=D.rt } I7 ⟨_,α,_,S1,r1,re7,?_⟩) (λfl s8 q=>?_) λ_ _ z=>An z
 .cases q:g ((Br X.N.length none).set i (Ab (.exn c))) S1 with
  |rt d S2=>rw[q] at af;exact λv H' P' α' r' e1 e2 rp=>af v H' P' α' r' (sP.trans e1) e2 rp
  |nx env2 S2=>rw[q] at af;exact λσ' H' P' α' r' re' e1 e2=>af _ H' P' α' r' (qY.unset re' i) (sP.trans e1) e2
  |bk env2 S2=>rw[q] at af;exact An af
  |ct env2 S2=>rw[q] at af;exact An af
  |ex c' x' env2 S2=>rw[q] at af;exact An af
  |bad=>rw[q] at af;exact An af
 .cases fl with
  |next =>
   obtain⟨σ',H',I8,q⟩:=q;exact rV (Inv.unre I8 I.ok.frames I.ok.hd) hN hi hlo λs9 I9=>⟨_,H',I9,q⟩
  |brk =>
   obtain⟨_,_,_,q⟩:=q;exact An q
  |cont =>
   obtain⟨_,_,_,q⟩:=q;exact An q
  |ret u =>
   obtain⟨v,σ',H',I8,rv,q⟩:=q;exact rV (Inv.unre I8 I.ok.frames I.ok.hd) hN hi hlo λs9 I9=>⟨v,_,H',I9,rv,q⟩
set_option tactic.hygienic true in
theorem BW {x n:As}{C0:Af}{i:Ai}{b₀:Dd}{suite:Aa Dd}{np hpos:CN}(F:Fn1 X)(hb:∀ E pn,Pw (Ar X.prog X.w) X.A X.env E->PSs (Cx.tryIn X E pn) body (tDS (Cx.tryIn X E pn) f))
  (hs:∀ e,PSs (Cx.suite X e) (b₀::suite) (tDS (Cx.suite X e) g)) (hg:Gl X x) (hm:X.mg x=Ab (.ref C0)) (hcs:∀ c∈cs,Hn X.K c (.ref C0)=Ab true) (hN:X.N.Nodup) (hi:X.N[i]? = Ab n:=by rfl) (hlo:X.env.scope.names.lookup n=Ab .local:=by rfl)
  (hdb:(x == ("__debug__" : As))=false:=by decide):PS X (.Try body [.ExceptHandler (Ab (.Name x np)) (Ab n) (b₀::suite) hpos] [] [] pos) (tDS X (bL X.N.length i cs f g)):=by
 intro pins s σ H D I h;obtain⟨P,α,env,S,r,re,af⟩:=h;refine wpAny_Try_except ?_;refine Ff (hb _ (X.pn++pins) (PassesOwn.looking (K:=λe s₂=>Ao (Ar X.prog X.w) X.A (Uk e none) (λ_ s₃=>Ao (Ar X.prog X.w) X.A (handleBy e X.env [.ExceptHandler (Ab (.Name x np)) (Ab n) (b₀::suite) hpos]) (SP X pins D) X.xe s₃) X.xe s₂) (E₁:=X.xe))
  [] s σ H D (Inv.inTry I _) ⟨P,α,env,S,r,re,?_⟩) (λfl s1 q=>?_) λ_ _ z=>z
 .unfold bL at af
  cases q:f env S with
  |rt d S2=>rw[q] at af;exact af
  |nx env2 S2=>rw[q] at af;exact af
  |bk env2 S2=>rw[q] at af;exact af
  |ct env2 S2=>rw[q] at af;exact af
  |bad=>rw[q] at af;exact af
  |ex c x' env2 S2 =>
   rw[q] at af;dsimp only at af;intro u s' k;obtain⟨e,pins',σ',H',P',α',rfl,I',r',e1,e2,F',fl⟩:=k
   split at af
   .rename_i hc
    exact FA F hg hm hcs hN hi hlo hs hc (Inv.outTry I') r' (FlyX.outTry fl) (z9.base e1 e2 af) hdb
   .exact An af
 .have q':=SP.outTry q
  cases fl with
  |next=>exact Ll q'
  |brk=>exact q'
  |cont=>exact q'
  |ret u=>exact q'
end
end _D
namespace _D
open PySem PySem.Spec PyProof.Rows _L PySem.W
variable {R:So->Ag->Prop}
structure ExnK (K:Aj)(C:Af):Prop where
 ga:findIn K (.ref C) "__getattribute__" = Ab (Ab (.builtin "BaseException.__getattribute__"))
 hk:findIn K (.ref C) "__getattr__" = Ab none
 cl:findIn K (.ref C) "__class__" = Ab (Ab (.builtin "object.__class__"))
 sp:specialIn K (.builtin "object.__class__") "__get__" = Ab (Ab (.builtin "getset_descriptor.__get__"))
 tk:takesIn K (.builtin "object.__class__")=Ab true
 mo:mroIn K C (.type "object")=Ab true
 mb:mroIn K C (.type "BaseException")=Ab true
 isC:(clsIn K C).isSome=true
section
variable {prog:A5}{w:AL}{A:AK}{E:Ac->Ag->Prop}{s:Ag}{K:Aj}{x C:Af}
abbrev v9 (x C:Af)(h:AB):Prop:=∃ ob,h.get? x=Ab ob/\ob.cls=.ref C
theorem v9.type {M:Im}{h:AB}(I:v9 x C h):Looks M h (typeOf (.ref x)) (.ref C):=by
 obtain⟨ob,e,c⟩:=I;rw[<- c];exact(Looks.ld e).andThen .now
theorem XS {M:Im}{h:AB}(X:K.In h)(Z:ExnK K C):Looks M h (Ye (.ref x) (.ref C) "__class__") (.bind (.builtin "getset_descriptor.__get__") (.builtin "object.__class__")):=by
 have l1:=Tq (M:=M) X Z.cl;have l2:Looks M h (Xy (Ab (.builtin "object.__class__"))) (Ab (.builtin "getset_descriptor.__get__")):=looks_specialIn X Z.sp;have l3:=looks_takesIn (M:=M) X Z.tk;have l4:Looks M h (Tr (Ab (.builtin "object.__class__")) (Ab (.builtin "getset_descriptor.__get__"))) (Ab (.builtin "getset_descriptor.__get__",.builtin "object.__class__")):=l3.andThen .now;exact l1.andThen (l2.andThen (l4.andThen (Looks.tag .now)))
theorem UU {tp:Ac}(X:K.In s.heap)(Z:ExnK K C)(I:v9 x C s.heap)(h:R (.ok (.ret (.ref C))) s) :
  Fn (Ar prog w) A (.call (.builtin "getset_descriptor.__get__") ⟨[.builtin "object.__class__",.ref x,tp],[]⟩) R s:=by
 have LT:=v9.type (M:=Ar prog w) I;have LM:=looks_mroIn (M:=Ar prog w) X Z.mo;cases s;refine IH KF.slot_gs.plain KF.entry_gs (KF.slot_gs.check _ _ _ _ _ _ _ _ KF.type_class (KF.args_gs _ _ _) ?_);unfold Fq.«getset_descriptor.__get__» Ts;rw[dga_obj];refine Ad (Ak ?_);unfold Rx OT OZ isInstance;simp only[KF.owner_class]
 repeat lk
 refine⟨Na _ (by decide +kernel),Eo KF.entry_class ?_⟩
 unfold Fq.«object.__class__» shownTypeOf
 repeat lk
 exact h
theorem F2 {tk:Os}(X:K.In s.heap)(Z:ExnK K C)(I:v9 x C s.heap)(h:R (.ok (.ret (.ref C))) s) :
  Fn (Ar prog w) A (.call (.builtin "BaseException.__getattribute__") ⟨[.ref x,.str "__class__" tk],[]⟩) R s:=by
 have LT:=v9.type (M:=Ar prog w) I;have LM:=looks_mroIn (M:=Ar prog w) X Z.mb;have LF:=XS (M:=Ar prog w) (x:=x) X Z;have hk:builtinKind "BaseException.__getattribute__" = Ab .slot:=by decide +kernel
 have hsp:splitId "BaseException.__getattribute__" = Ab ("BaseException","__getattribute__"):=by decide +kernel
 have chk:∀ (A:AK) (Q:Mx->Ag->Prop) (E:Ac->Ag->Prop),Q () s->Ao (Ar prog w) A (O9 "BaseException.__getattribute__" ⟨[.ref x,.str "__class__" tk],[]⟩) Q E s:=by
  intro A Q E hq;have ha:=PySem.F.args_bexc_ga (.ref x) (.str "__class__" tk);simp only[O9,hk,hsp];unfold isInstance;refine Ad (Ad (LT.here (LM.here ?_)))
  repeat (any_goals (first|assumption|wp_step))
 refine IH OH.ga.plain PySem.F.entry_bexc_ga (chk _ _ _ ?_);cases s;unfold Fq.«object.__getattribute__»;refine Ad (Nj (show slotArgs "__getattribute__" 1 ⟨[.ref x,.str "__class__" tk],[]⟩=pure (.ref x,[.str "__class__" tk]) from by kernel_rfl) ?_)
 refine Ad (Ak (Ad (LT.at (Ad (LF.at ?_)))));show Ao _ _ (Ob _ _ _ _) _ _ _;unfold Ob;dsimp only;exact Ad (Cu (Mc (UU X Z I (Ak h))))
theorem oE {Q:Al Ac->Ag->Prop}(X:K.In s.heap)(Z:ExnK K C)(I:v9 x C s.heap)(h:Q (Ab (.ref C)) { s with toks:=s.toks+1 }) : Ao (Ar prog w) A (getAttr? (.ref x) "__class__") Q E s:=by
 have LT:=v9.type (M:=Ar prog w) I;have L1:=Tq (M:=Ar prog w) X Z.ga;have lk2:=Tq (M:=Ar prog w) X Z.hk;unfold getAttr? getAttrBy? getAttrBy;cases s;refine Ad (wpAny_mkText (Ad (Gm (Cu (Ad (LT.at (Ad (L1.at ?_))))))));dsimp only;have hx2:(Xk "BaseException.__getattribute__" == Xk "object.__getattribute__")=false:=by decide +kernel
 rw[hx2,Mm,AC Fw];unfold getAttrByItsOwn hookBefore;rw[AF (show onTheHeap (.ref C)=true from rfl)]
 refine Ad (lk2.at (Ad (Gm (Cu ?_))));unfold callGetattribute;rw[Fz,AC Fw];unfold boundAndCalled;refine Ad (Nj (OH.ga.bind (.ref x)) ?_);refine Mc (F2 X Z I ?_);show Ao _ _ (handedOut (.ref C)) _ _ _;exact Ak (Ak h)
set_option tactic.hygienic true in
theorem dF (Z:ExnK K C):KitX K (.ref x) (.ref C) (v9 x C) where
 ty:=λ_ _ _ I=>I.type
 it:=λM h X _=>by
  have z:=Z.isC;unfold clsIn at z
  split at z
  .rename_i ho
   intro A' Q' E' s' k q;unfold isType loadHead;exact Ad (wpAny_loadPart (k _ _ (X _ _ ho)) (Ak q))
  .cases z
 ne:=λh tp dd its n sl X htp=>by
  have z:=Z.isC;unfold clsIn at z
  split at z
  .rename_i ho
   cases hq:(AU C == AU tp) with
   |false=>rfl
   |true =>
    obtain rfl:C=tp:=Value.ref.inj (OA.mp hq);have y:=(X _ _ ho).symm.trans htp;cases y
  .cases z
 ca:=λX I k=>oE X Z I k
end
end _D
namespace _D
open PySem PySem.Spec PyProof.Rows _L
variable {o:AX}{cells:Aa (As × Af)}{α α1:Aa Af}{ds:Aa D}{C:Af}{s:Ag}{K:Aj}{H P P1:Hp}{S S1:Sto}
theorem jB {α:Type}{t:Il α}{Q Q':α->Ag->Prop}{M:Im}{A:AK}{E:Ac->Ag->Prop}(h:Ao M A t Q (λ_ _=>CP) s)(hQ:∀ a s,Q a s->Q' a s):Ao M A t Q' E s:=Ff h hQ λ_ _ x=>x.elim
noncomputable def jR (ifs:Aa AM)(env:Gj):Il Ap:=forIn ifs true λc r=>if r=true then do let ok <- PySem.isTrue c env (eval c env);pure (Lp ok) else pure (Lp r)
def PTs (X:Cx)(ifs:Aa AM)(t:DT):Prop:=
 ∀ (pins:Aa (Af × AX)) (s:Ag) (σ : _L.St) (H:Hp) (Q:Ap->Hp->Prop),Inv X pins σ H s->tDT X t σ H Q->Ao (Ar X.prog X.w) X.A (jR ifs X.env) (TP X pins σ Q) X.xe s
noncomputable def xI:DT:=λ_ S=>.ok true S
section
variable {X:Cx}
theorem UQ:PTs X [] xI:=λpins s σ H Q I ⟨P,α,env,S,r,re,af⟩=>by
 unfold jR;rw[Mn];exact Ak ⟨H,I,af H P α r (qF.refl _) (AA _)⟩
theorem MQ {e:AM}{f:DE}{pins:Aa (Af × AX)}{σ:_L.St}{env:qE}{d:D}(he:PE X e (tD X f))(I:Inv X pins σ H s)(r:Rel X.K H P α S)(re:qY X.K P α σ env)(q:f env S=.ok d S1) :
  Ao (Ar X.prog X.w) X.A (eval e X.env) (λu s1=>∃ v H1 P1 α1,Got X pins σ env P α u s1 v H1 P1 α1 d S1) X.xe s:=by
 refine thn (zS (g:=λd S=>Res.ok d S) (Ok:=λd' S'=>d'=d/\S'=S1) he I r re (by rw[q];exact⟨rfl,rfl⟩)) λu s1 ⟨v,H1,P1,α1,d',S',G,h1,h2⟩=>?_
 have e1:d'=d:=h1;have e2:S'=S1:=h2;subst e1;subst e2;exact⟨v,H1,P1,α1,G⟩
theorem DP {ifs:Aa AM}{t:DT}{pins:Aa (Af × AX)}{σ:_L.St}{env:qE}{b:Ap}(he:PTs X ifs t)(I:Inv X pins σ H s)(r:Rel X.K H P α S)(re:qY X.K P α σ env)(q:t env S=.ok b S1) :
  Ao (Ar X.prog X.w) X.A (jR ifs X.env) (λb' s1=>b'=b/\∃ H1 P1 α1,Inv X pins σ H1 s1/\Rel X.K H1 P1 α1 S1/\qY X.K P1 α1 σ env/\qF P P1/\α<+:α1) X.xe s:=by
 refine thn (he pins s σ H (λb' H1=>b'=b/\∃ P1 α1,Rel X.K H1 P1 α1 S1/\qY X.K P1 α1 σ env/\qF P P1/\α<+:α1) I ⟨P,α,env,S,r,re,?_⟩) λb' s1 ⟨H1,I1,e,P1,α1,q1,q2,q3,q4⟩=>⟨e,H1,P1,α1,I1,q1,q2,q3,q4⟩;rw[q];exact λH' P' α' r' e1 e2=>⟨rfl,P',α',r',re.mono e1 e2,e1,e2⟩
theorem RX {tg:AM}{g:DG}{pins:Aa (Af × AX)}{σ:_L.St}{env env1:qE}{d:D}{v:V}{u:Ac}(hg:PG X tg (tDG X g))(I:Inv X pins σ H s)(r:Rel X.K H P α S)(re:qY X.K P α σ env)(rv:qK v u)
  (rp:Rep X.K P α d v) (q:g d env S=.ok env1 S1) :
  Ao (Ar X.prog X.w) X.A (assign tg X.env u) (λ_ s1=>∃ σ1 H1 P1 α1,Inv X pins σ1 H1 s1/\Rel X.K H1 P1 α1 S1/\qY X.K P1 α1 σ1 env1/\qF P P1/\α<+:α1) X.xe s:=by
 refine thn (hg pins s σ H v u (λσ1 H1=>∃ P1 α1,Rel X.K H1 P1 α1 S1/\qY X.K P1 α1 σ1 env1/\qF P P1/\α<+:α1) I rv ⟨P,α,env,S,d,r,re,rp,?_⟩) λ_ s1 ⟨σ1,H1,I1,P1,α1,q1,q2,q3,q4⟩=>⟨σ1,H1,P1,α1,I1,q1,q2,q3,q4⟩;rw[q];exact λσ' H' P' α' r' re' e1 e2=>⟨P',α',r',re',e1,e2⟩
def g9 (K:Aj)(P:Hp)(α : Aa Af)(ds:Aa D)(o:AX):Prop:=∃ (its:Aa Ac) (n:Ai) (vs:Aa V),o={ cls:=.type "list",data:=.seq its.toArray n } /\ qJ vs its/\qD K P α ds vs/\ds.length<=lim
theorem g9.mono (e:qF P P1)(h:α<+:α1)(a:g9 K P α ds o):g9 K P1 α1 ds o:=by
 obtain⟨its,n,vs,q1,q2,q3,q4⟩:=a;exact⟨its,n,vs,q1,q2,qD.mono e h _ _ q3,q4⟩
theorem g9.cell (a:g9 K P α ds o):∀ v,o.data≠.cell v:=by
 obtain⟨its,n,vs,rfl,_⟩:=a;intro v z;cases z
theorem Inv.pin1 {pins:Aa (Af × AX)}{σ:_L.St}{a:Af}(I:Inv X pins σ H s)(f:x5 X pins H a)(e:s.heap.get? a=Ab o)(d:∀ v,o.data≠.cell v):Inv X (pins++[(a,o)]) σ H s:=
 I.pins_of λp hp=>(Ba.mp hp).elim (λz=>I.pin p (AI _ z)) λz=>by
  have e':p=(a,o):=by simpa using z
  subst e';exact⟨e,f.1,f.2.1,f.2.2.1,d⟩
theorem Inv.pinned1 {pins:Aa (Af × AX)}{σ:_L.St}{a:Af}(I:Inv X (pins++[(a,o)]) σ H s):s.heap.get? a=Ab o/\H a=none:=by
 have:=I.pin (a,o) (AI _ (AI _ (by simp)))
 exact⟨this.1,this.2.1⟩
end
structure Acc where
 m:Ap
 O:Aj->Hp->Aa Af->Aa D->AX->Prop
 mono:∀ {K:Aj} {P P1:Hp} {α α1:Aa Af} {ds:Aa D} {o:AX},qF P P1->α<+:α1->O K P α ds o->O K P1 α1 ds o
 cell:∀ {K:Aj} {P:Hp} {α : Aa Af} {ds:Aa D} {o:AX},O K P α ds o->∀ v,o.data≠.cell v
@[reducible] def accL:Acc:=⟨false,g9,g9.mono,g9.cell⟩
noncomputable def xN (m:Ap)(elt:AM)(gens:Aa Bo)(scope:Cs)(pos:CN):AM:=match m with
 |false=>.ListComp elt gens scope pos
 |true=>.SetComp elt gens scope pos
structure TurnSt (B:Acc)(Y:Cx)(pins:Aa (Af × AX))(P1:Hp)(α1:Aa Af)(fp:Aa Af)(acc:Af)(env:qE)(S:Sto)(ds:Aa D)(s:Ag)(σ : _L.St)(H P:Hp)(α : Aa Af)(o:AX):Prop where
 inv:Inv Y pins σ H s
 rel:Rel Y.K H P α S
 env:qY Y.K P α σ env
 same:qF P1 P
 pre:α1<+:α
 fpn:∀ b∈fp,H b=none
 acn:H acc=none
 at':s.heap.get? acc=Ab o
 acc:B.O Y.K P α ds o
noncomputable def wK (cells:Aa (As × Af)):Aa (As × Fx)->Aa (As × Af)->Aa (As × Af)
 |[],cs=>cs
 |(n,k)::r,cs=>wK cells r (if k == .free then (n,(cells.lookup n).getD 0)::cs else cs)
theorem kX {env:Gj}{scope:Cs}(h:∀ y∈scope.names,y.2=.free->∃ c,env.cells.lookup y.1=Ab c):OB scope env=pure (wK env.cells scope.names []):=by
 have go:∀ (l:Aa (As × Fx)) (cs:Aa (As × Af)),(∀ y∈l,y.2=.free->∃ c,env.cells.lookup y.1=Ab c) ->
   (forIn l cs λx cs=>match x with|(name,kind)=>if (kind == Ej)=true then do let a <- cellOf env name;pure (Lp ((name,a)::cs)) else pure (Lp cs):Il (Aa (As × Af)))=pure (wK env.cells l cs):=by
  intro l
  induction l with
  |nil=>intro cs _;rfl
  |cons y r ih =>
   intro cs hl;obtain⟨n,k⟩:=y;rw[Pa];by_cases hk:k=.free
   .subst hk
    obtain⟨c,hc⟩:=hl (n,.free) Bx rfl;have hc':env.cells.lookup n=Ab c:=hc;have e:cellOf env n=pure c:=by unfold cellOf;rw[hc']
    simp only[CH,Ct,e,pure_bind];rw[ih _ λz hz=>hl z (Bb _ hz)];simp only[wK,CH,Ct,hc',Ko]
   .have hb:(k == Ej)=false:=by simpa using hk
    simp only[hb,AR,CB,pure_bind];rw[ih _ λz hz=>hl z (Bb _ hz)];simp only[wK,hb,AR,CB]
 unfold OB;have:=go scope.names [] h;simp only[bind_pure];exact this
theorem uX {x:As}{c:Af}:∀ (l:Aa (As × Fx)) (cs:Aa (As × Af)),(wK cells l cs).lookup x=Ab c->cs.lookup x=Ab c\/((x,Ej)∈l/\c=(cells.lookup x).getD 0)
 |[],cs,h=>.inl h
 |(n,k)::r,cs,h=>by
  rcases uX r _ h with h|⟨h1,h2⟩
  .by_cases hk:k=.free
   .subst hk
    simp only[CH,Ct,Gp] at h;cases hb:x == n with
    |true =>
     rw[hb] at h;have e:x=n:=by simpa using hb
     subst e;exact .inr ⟨Bx,(Bh h).symm⟩
    |false=>rw[hb] at h;exact .inl h
   .have hb:(k == Ej)=false:=by simpa using hk
    simp only[hb,AR,CB] at h;exact .inl h
  .exact .inr ⟨Bb _ h1,h2⟩
theorem uJ {x:As}:∀ (l:Aa (As × Fx)) (cs:Aa (As × Af)),((x,Ej)∈l\/∃ c,cs.lookup x=Ab c)->∃ c,(wK cells l cs).lookup x=Ab c
 |[],cs,h=>by
  rcases h with h|h
  .cases h
  .exact h
 |(n,k)::r,cs,h=>by
  refine uJ r _ ?_;rcases h with h|⟨c,h⟩
  .rcases Av.mp h with e|h
   .cases e
    exact .inr ⟨(cells.lookup x).getD 0,by simp only[CH,Ct,Gp]⟩
   .exact .inl h
  .by_cases hk:k=.free
   .subst hk
    simp only[CH,Ct,Gp];cases hb:x == n with
    |true=>exact .inr ⟨_,rfl⟩
    |false=>exact .inr ⟨c,h⟩
   .have hb:(k == Ej)=false:=by simpa using hk
    simp only[hb,AR,CB];exact .inr ⟨c,h⟩
structure CompSc (scX:Cs)(NX:Aa As)(scope:Cs)(N':Aa As)(cap:Aa (Al Ai)):Prop where
 kind:scope.kind=.function
 names:∀ y∈scope.names,y.2=.local -> scope.names.lookup y.1=Ab .local
 cel:∀ y∈scope.names,y.2=.cell->scope.names.lookup y.1=Ab .cell
 free:∀ y∈scope.names,y.2=.free->scX.names.lookup y.1=Ab .cell\/scX.names.lookup y.1=Ab .free
 fr2:∀ y∈scope.names,y.2=.free->scope.names.lookup y.1=Ab .free
 len:cap.length=N'.length
 caps:((cap.zip N').all λp=>match p.1 with|none=>true|some i=>NX[i]? == Ab p.2&&scope.names.lookup p.2 == Ab .free)=true
 nd:N'.Nodup
noncomputable def yW (cap:Aa (Al Ai))(σ : _L.St):_L.St:=cap.map λo=>match o with
 |none=>none
 |some i=>(σ[i]?).join
noncomputable def zR (cap:Aa (Al Ai))(env:qE):qE:=cap.map λo=>match o with
 |none=>none
 |some i=>(env[i]?).join
theorem Z8 {σ:_L.St}{env:qE}(re:qY K P α σ env)(cap:Aa (Al Ai)):qY K P α (yW cap σ) (zR cap env):=by
 refine⟨by simp[yW,zR],λj d e=>?_⟩
 unfold zR at e;unfold yW;rw[By] at e ⊢;cases q:cap[j]? with
 |none=>rw[q] at e;cases e
 |some o =>
  rw[q] at e;cases o with
  |none=>cases e
  |some i =>
   have e':(env[i]?).join=Ab d:=by simpa using e
   cases z:env[i]? with
   |none=>rw[z] at e';cases e'
   |some w =>
    rw[z] at e';have e'':w=Ab d:=e';subst e'';obtain⟨v,h1,h2⟩:=re.2 i d z;exact⟨v,by simp[h1],h2⟩
noncomputable def qN (X:Cx)(N':Aa As)(scope:Cs)(cl:Aa (As × Af))(C:Af)(ex:Aa Af)(s₀:Ag)(H₀:Hp):Cx:=
 { X with N:=N',s₀:=s₀,H₀:=H₀,env:=compEnvC scope cl C X.env,outer:=X.stack,stack:=X.stack,ex:=ex,fn:=λx=>decide (scope.names.lookup x=Ab .cell),pn:=[],xe:=λ_ _=>CP }
theorem u4 {scope:Cs}{env:Gj}:∀ {names:Aa (As × Fx)} {x:As} {k:Fx},
  (names.map λ(n,k)=>if (k == Ej&&env.scope.kind == .function&&env.kindOf n == Ab .cell) then (n,Kq) else (n,k)).lookup x=Ab k ->
  names.lookup x=Ab k\/(k=.cell/\names.lookup x=Ab .free)
 |[],_,_,h=>by simp at h
 |(n,k0)::r,x,k,h=>by
  rw[Ce,Gp] at h;rw[Gp];dsimp only at h;cases hb:(k0 == Ej&&env.scope.kind == .function&&env.kindOf n == Ab .cell) with
  |true =>
   rw[hb] at h;simp only[Ct] at h;cases hx:x == n with
   |true =>
    rw[hx] at h;have e:Kq=k:=Bh h;have hk:k0=.free:=by
     have:=(A0 _ _).mp hb;have:=(A0 _ _).mp this.1;simpa using this.1
    subst hk;exact .inr ⟨e.symm,rfl⟩
   |false=>rw[hx] at h;exact u4 (scope:=scope) h
  |false =>
   rw[hb] at h;simp only[AR,CB] at h;cases hx:x == n with
   |true=>rw[hx] at h;exact .inl h
   |false=>rw[hx] at h;exact u4 (scope:=scope) h
section
variable {X:Cx}{scope:Cs}{N':Aa As}{cap:Aa (Al Ai)}{pins:Aa (Af × AX)}{σ : _L.St}{H2:Hp}{s2:Ag}{fp:Aa Af}
theorem jX (S:CompSc X.env.scope X.N scope N' cap){x:As}{k:Fx}(h:(relabel scope X.env).names.lookup x=Ab k):scope.names.lookup x=Ab k\/(k=.cell/\scope.names.lookup x=Ab .free):=u4 (scope:=scope) h
theorem iV (S:CompSc X.env.scope X.N scope N' cap)(ok:X.Ok){x:As}{c:Af}(h:(wK X.env.cells scope.names []).lookup x=Ab c):X.env.cells.lookup x=Ab c/\(x,Ej)∈scope.names:=by
 rcases uX _ _ h with h|⟨hm,hc⟩
 .cases h
 .have:=S.free _ hm rfl
  obtain⟨c',hc'⟩:=ok.has x this;rw[hc',Ko] at hc;rw[hc',hc];exact⟨rfl,hm⟩
noncomputable def WR (scope:Cs)(C:Af):Aa (As × Af):=Fo (C+1) scope.names []
noncomputable def jW (X:Cx)(scope:Cs)(C:Af):Aa (As × Af):=Fo (C+1) scope.names (wK X.env.cells scope.names [])
theorem yG:∀ (names:Aa (As × Fx)) (lo:Ai) (acc:Aa (As × Af)),Fo lo names acc=Fo lo names [] ++ acc
 |[],_,_=>rfl
 |(n,k)::r,lo,acc=>by
  unfold Fo
  split
  .rw[yG r _ ((n,lo)::acc),yG r _ [(n,lo)],Bc];rfl
  .exact yG r lo acc
set_option tactic.hygienic true in
theorem gF:∀ (names:Aa (As × Fx)) (lo:Ai) {n:As} {c:Af},(n,c)∈Fo lo names [] -> (n,Kq)∈names
 |[],_,_,_,h=>by cases h
 |(n0,k)::r,lo,n,c,h=>by
  unfold Fo at h
  split at h
  .rename_i hk
   rw[yG] at h;rcases Ba.mp h with h|h
   .exact Bb _ (gF r _ h)
   .have e:(n,c)=(n0,lo):=by simpa using h
    cases e;have:k=Kq:=by simpa using hk
    rw[this];exact Bx
  .exact Bb _ (gF r _ h)
theorem xD (S:CompSc X.env.scope X.N scope N' cap)(ok:X.Ok){C:Af}{x:As}{c:Af}(h:(jW X scope C).lookup x=Ab c):((x,c)∈WR scope C/\scope.names.lookup x=Ab .cell)\/(X.env.cells.lookup x=Ab c/\(x,Ej)∈scope.names):=by
 unfold jW at h;rw[yG,Td] at h;cases q:(Fo (C+1) scope.names []).lookup x with
 |some c' =>
  rw[q] at h;cases h;have m:=Dk q;exact .inl ⟨m,S.cel _ (gF _ _ m) rfl⟩
 |none =>
  rw[q] at h;exact .inr (iV S ok h)
theorem lP (S:CompSc X.env.scope X.N scope N' cap)(ok:X.Ok){C:Af}{x:As}(h:scope.names.lookup x=Ab .cell\/scope.names.lookup x=Ab .free):∃ c,(jW X scope C).lookup x=Ab c:=by
 unfold jW;rw[yG,Td];rcases h with h|h
 .have:=Hy scope.names (C+1) [] (x:=x) (.inl h)
  obtain⟨c,hc⟩:=Hm.mp this;exact⟨c,by rw[hc];rfl⟩
 .obtain⟨c',hc'⟩:=uJ (cells:=X.env.cells) scope.names [] (.inl (Dk h))
  rw[hc'];cases (Fo (C+1) scope.names []).lookup x with
  |none=>exact⟨c',rfl⟩
  |some c=>exact⟨c,rfl⟩
theorem U3 (S:CompSc X.env.scope X.N scope N' cap)(I2:Inv X pins σ H2 s2)(hf:∀ b∈fp,x5 X pins H2 b)(hlt:∀ b∈fp,b<s2.heap.objs.size)(hC:s2.heap.objs.size<=C){h1:AB}(co:CellsOk h1 (C+1) (WR scope C)) :
  (qN X N' scope (jW X scope C) C fp s2 H2).Ok where
 mod:=I2.ok.mod
 kind:=S.kind
 glob:=I2.ok.glob
 blt:=I2.ok.blt
 above:=hC
 inj:=λx y c h1 h2=>by
  rcases xD S I2.ok h1 with⟨m1,_⟩|⟨m1,_⟩ <;> rcases xD S I2.ok h2 with⟨m2,_⟩|⟨m2,_⟩
  .exact PySem.name_of_addr co.apart m1 m2
  .obtain⟨v,ob,hob,_⟩:=I2.cell y c m2
   exact absurd (Ax (Az hob) hC) (Kh.mpr (CV (co.empty x c m1).2))
  .obtain⟨v,ob,hob,_⟩:=I2.cell x c m1
   exact absurd (Ax (Az hob) hC) (Kh.mpr (CV (co.empty y c m2).2))
  .exact I2.ok.inj x y c m1 m2
 has:=λx hx=>by
  have hx':(relabel scope X.env).names.lookup x=Ab .cell\/(relabel scope X.env).names.lookup x=Ab .free:=hx;refine lP S I2.ok ?_;rcases hx' with h|h
  .rcases jX S h with h|⟨_,h⟩
   .exact .inl h
   .exact .inr h
  .rcases jX S h with h|⟨z,_⟩
   .exact .inr h
   .cases z
 cab:=λx c h h2=>by
  have hx:scope.names.lookup x=Ab .cell:=Bd h;rcases xD S I2.ok h2 with⟨m,_⟩|⟨_,m⟩
  .exact Bp hC (CV (co.empty x c m).2)
  .have:=S.fr2 _ m rfl
   have this':scope.names.lookup x=Ab .free:=this;rw[hx] at this';cases this'
 hd:=I2.ok.hd
 frames:=I2.ok.frames
 stk:=.inl rfl
 exf:=λb hb=>⟨AZ (Ax (hlt b hb) hC),λx c h=>by
  rcases xD S I2.ok h with⟨m,_⟩|⟨m,_⟩
  .exact Ed (AZ (Ge (Ax (hlt b hb) hC) (co.empty x c m).2))
  .exact(hf b hb).2.2.2.2.1 x c m⟩
 bs:=I2.bs
 bsz:=Bp I2.ok.bsz I2.sz
 noex:=λb o e hb=>by
  obtain⟨_,_,_,h,_⟩:=hf b hb;rcases h with h|h
  .exact I2.ok.noex b o e h
  .exact absurd (Ax (Az e) (Bp I2.ok.bsz h)) (Dh _)
 exfs:=λb hb hb2=>by
  obtain⟨_,h1,h2,_⟩:=hf b hb;rcases Av.mp (I2.stkSub b hb2) with z|z
  .exact h1 z
  .exact h2 z
 funs:=I2.stack
 frf:=I2.stkFree
theorem X4 {s4:Ag}{m:As->Al Ac}(S:CompSc X.env.scope X.N scope N' cap)(I2:Inv X pins σ H2 s2)(hf:∀ b∈fp,x5 X pins H2 b)(hlt:∀ b∈fp,b<s2.heap.objs.size)(hC:s2.heap.objs.size<=C)
  (hn:s4.heap.Ns C m) (os:s4.os=s2.os) (gens:s4.gens=s2.gens) (keep:∀ b o,s2.heap.get? b=Ab o->s4.heap.get? b=Ab o) (co:CellsOk s4.heap (C+1) (WR scope C)) :
  Inv (qN X N' scope (jW X scope C) C fp s2 H2) [] (yW cap σ) H2 s4 where
 ok:=U3 S I2 hf hlt hC co
 os:=os
 bare:=gens▸I2.bare
 base:=Un.kept keep
 loc:=by
  refine⟨m,hn,λj x v h1 h2 h3=>?_⟩;have h1':N'[j]? = Ab x:=h1;unfold yW at h2;rw[By] at h2;cases q:cap[j]? with
  |none=>rw[q] at h2;cases h2
  |some o =>
   rw[q] at h2;cases o with
   |none=>cases h2
   |some i =>
    have e':(σ[i]?).join=Ab v:=by simpa using h2
    have hσ:σ[i]? = Ab (Ab v):=by
     cases z:σ[i]? with
     |none=>rw[z] at e';cases e'
     |some w=>rw[z] at e';have:w=Ab v:=e';rw[this]
    have hz:(Ab i,x)∈cap.zip N':=by
     refine Iq.mpr ⟨j,?_⟩;rw[Oc];exact⟨q,h1'⟩
    have hc:=Bi.mp S.caps _ hz;simp only[A0,OA] at hc;obtain⟨hN,hfr⟩:=hc;have hk:=S.free _ (Dk hfr) rfl;obtain⟨mo,hmo,hl⟩:=I2.loc;have vis:Vis X.env.scope x:=by
     rcases hk with k|k
     .exact .inr (.inl k)
     .exact .inr (.inr k)
    obtain⟨u,ru,lk⟩:=hl i x v hN hσ vis;refine⟨u,ru,?_⟩;rcases lk with⟨kl,_⟩|⟨_,c,hcl,hcell⟩
    .have kl':X.env.scope.names.lookup x=Ab .local:=kl
     rcases hk with k|k
     .have k':X.env.scope.names.lookup x=Ab .cell:=k
      rw[kl'] at k';cases k'
     .have k':X.env.scope.names.lookup x=Ab .free:=k
      rw[kl'] at k';cases k'
    .obtain⟨c',hc'⟩:=lP S I2.ok (C:=C) (.inr hfr)
     have e2:X.env.cells.lookup x=Ab c':=by
      rcases xD S I2.ok hc' with⟨_,z⟩|⟨z,_⟩
      .rw[hfr] at z;cases z
      .exact z
     rw[hcl] at e2;cases e2;refine .inr ⟨?_,c,hc',?_⟩
     .have h3':Vis (relabel scope X.env) x:=h3
      rcases h3' with h|h|h
      .rcases jX S h with h|⟨z,_⟩
       .rw[hfr] at h;cases h
       .cases z
      .exact .inl h
      .exact .inr h
     .obtain⟨ob,hob,hd⟩:=hcell
      exact⟨ob,keep c ob hob,hd⟩
 cell:=λx c h=>by
  rcases xD S I2.ok h with⟨m,_⟩|⟨m,_⟩
  .exact⟨none,(co.empty x c m).1⟩
  .obtain⟨v,ob,hob,hd⟩:=I2.cell x c m
   exact⟨v,ob,keep c ob hob,hd⟩
 free:=I2.hok.fresh hC
 freeC:=λx c h=>by
  rcases xD S I2.ok h with⟨m,_⟩|⟨m,_⟩
  .exact I2.hok.fresh (Bp hC (CV (co.empty x c m).2))
  .exact I2.freeC x c m
 pin:=λp hp=>absurd (show p∈([]:Aa (Af × AX)) from hp) (by simp)
 hok:=I2.hok.kept keep
 len:=by
  show (yW cap σ).length=N'.length;simp[yW,S.len]
end
theorem oJ {P:A5}{w:AL}{h:AB}{a:Af}{o:HO}(x:HOk P w H h)(hn:H a=none)(new:qZ P w (upd H a o) h a o):HOk P w (upd H a o) h:=λb u e=>by
 by_cases hb:b=a
 .subst hb;rw[qV] at e;cases e;exact new
 .rw[qI hb] at e
  exact(x b u e).stay (λc v _ q=>q) (λc q=>by rw[qI (qS q hn)];exact q) λc xs q=>by rw[qI (qS q hn)];exact q
theorem tY {P:A5}{w:AL}{h h':AB}(x:HOk P w H h)(hn:H C=none)(k:∀ b o,b≠C->h.get? b=Ab o->h'.get? b=Ab o):HOk P w H h':=λb u e =>
 (x b u e).stay (λc v hc q=>k c v (by
  rintro rfl;rcases hc with z|z
  .subst z;rw[hn] at e;cases e
  .rw[hn] at z;cases z) q) (λ_ q=>q) λ_ _ q=>q
section
variable {X:Cx}{elt tg iter:AM}{ifs:Aa AM}{scope:Cs}{pos:CN}{N':Aa As}{cap:Aa (Al Ai)}{fi:DI}{g:DG}{t:DT}{fe:DE}
def jC (X:Cx)(pins:Aa (Af × AX))(σ : _L.St)(P1:Hp)(α1:Aa Af)(ds:Aa D)(SF:Sto)(acc C:Af)(s:Ag):Prop:=
 ∃ (H' P':Hp) (α' : Aa Af) (vs:Aa V),Inv X pins σ (upd H' acc (.lst vs)) s/\Rel X.K H' P' α' SF/\H' acc=none/\qF P1 P'/\α1<+:α'/\qD X.K P' α' ds vs/\H' C=none
theorem lO {Y:Cx}{pins:Aa (Af × AX)}{σ σ':_L.St}{H2:Hp}{s2 s':Ag}{fp:Aa Af}{acc:Af}{H' P':Hp}{α':Aa Af}{envF:qE}{SF:Sto}{cl:Aa (As × Af)}(I2:Inv X pins σ H2 s2)
  (hf:∀ b∈fp,x5 X pins H2 b) (hY:Y=qN X N' scope cl C fp s2 H2) (hC:s2.heap.objs.size<=C) (hA:s2.heap.objs.size<=acc) (hne:acc≠C) (st:TurnSt accL Y [] P1 α1 fp acc envF SF ds s' σ' H' P' α' o)
  {h':AB} (sb:CI C s'.heap h'):jC X pins σ P1 α1 ds SF acc C { s' with heap:=h' }:=by
 subst hY;obtain⟨its,n,vs,rfl,rv,rp,hz⟩:=st.acc;have kC:∀ b o,b≠C->s'.heap.get? b=Ab o->h'.get? b=Ab o:=λb o hb e=>(sb.2 b hb).trans e;have nC:∀ b o,s2.heap.get? b=Ab o->b≠C:=λb o e=>AZ (Ax (Az e) hC);have nA:∀ b o,s2.heap.get? b=Ab o->b≠acc:=λb o e=>AZ (Ax (Az e) hA);have base:Un (frs X.stack) fp H2 H' s2.heap s'.heap:=st.inv.base;have nt:∀ b u,H' b=Ab u->b≠acc:=λb u e=>qS e st.acn;have un:Un (frs X.stack) fp H2 (upd H' acc (.lst vs)) s2.heap h':=by
  refine⟨λb ob q hn hb hx=>kC b ob (nC b ob q) (base.keep b ob q hn hb hx),λb ob q hn hb hx=>?_,λb ob q hn hx=>?_,λb ob q hx=>?_,λb xs q=>?_,λb ob u q=>?_,λb ps q=>?_⟩
  .obtain⟨sl,e⟩:=base.slot b ob q hn hb hx
   exact⟨sl,kC b _ (nC b ob q) e⟩
  .rw[qI (nA b ob q)];exact base.free b ob q hn hx
  .obtain⟨o',e⟩:=base.there b ob q hx
   exact⟨o',kC b o' (nC b ob q) e⟩
  .have:=base.tups b xs q;rw[qI (nt _ _ this)];exact this
  .have:=base.frzs b ob u q;rw[qI (nt _ _ this)];exact this
  .obtain⟨more,e⟩:=base.tbls b ps q
   exact⟨more,by rw[qI (nt _ _ e)];exact e⟩
 have hok':HOk X.prog X.w H' h':=tY st.inv.hok st.inv.free kC;have hat:h'.get? acc=Ab { cls:=.type "list",data:=.seq its.toArray n }:=kC acc _ hne st.at';have hok:HOk X.prog X.w (upd H' acc (.lst vs)) h':=oJ hok' st.acn ⟨by rw[<- rp.length,<- zX];exact hz,its,n,rv,hat⟩
 refine⟨H',P',α',vs,?_,st.rel,st.acn,st.same,st.pre,rp,st.inv.free⟩;exact I2.call' (s':={ s' with heap:=h' }) (ch:=fp) (st.inv.os) un hok st.inv.bare λb hb=>by
  obtain⟨_,h1,h2,h3,h4,h5⟩:=hf b hb;exact⟨h3,h1,h4,h5⟩
theorem m9 (S:CompSc X.env.scope X.N scope N' cap)(ok:X.Ok):OB scope X.env=pure (wK X.env.cells scope.names []):=kX λy hy hk=>ok.has y.1 (S.free y hy hk)
theorem UR {pins:Aa (Af × AX)}{σ:_L.St}{SF:Sto}{acc:Af}{Q:VK}(c:jC X pins σ P1 α1 ds SF acc C s)(ok:OkV X P1 α1 Q (.lst ds) SF):EP X pins σ Q (.ref acc) s:=by
 obtain⟨H',P',α',vs,I,r,hn,e1,e2,rp,_⟩:=c;exact⟨.ref acc,_,I,rfl,wD r hn rp λv H2 P2 α2 r2 q1 q2 q3=>ok v H2 P2 α2 r2 (e1.trans q1) (e2.trans q2) q3⟩
end
end _D
section
namespace _D
open PySem PySem.Spec PyProof.Rows _L PySem.SeqAt
noncomputable def b01 (b:Ap):Am:=if b then 1 else 0
mutual
noncomputable def eqD:D->D->Ap
 |.non,.non=>true
 |.bl a,.bl b=>a == b
 |.bl a,.int b=>b01 a == b
 |.int a,.bl b=>a == b01 b
 |.int a,.int b=>a == b
 |.str a,.str b=>a == b
 |.tup xs,.tup ys=>xJ xs ys
 |.lst xs,.lst ys=>xJ xs ys
 |_,_=>false
noncomputable def xJ:Aa D->Aa D->Ap
 |[],[]=>true
 |x::xs,y::ys=>eqD x y&&xJ xs ys
 |_,_=>false
end
noncomputable def pl:Ai->D->Ap
 |_,.non=>true
 |_,.bl _=>true
 |_,.int _=>true
 |_,.str _=>true
 |n+1,.tup xs=>xs.all (pl n)
 |n+1,.lst xs=>xs.all (pl n)
 |_,_=>false
theorem oC (x y:D)(xs ys:Aa D):xJ (x::xs) (y::ys)=(eqD x y&&xJ xs ys):=rfl
theorem vQ:∀ (xs ys:Aa D),xJ xs ys=((Be (min xs.length ys.length)).all (λj=>eqD (xs.getD j .non) (ys.getD j .non))&&xs.length == ys.length)
 |[],[]=>rfl
 |[],y::ys=>rfl
 |x::xs,[]=>rfl
 |x::xs,y::ys=>by
  have ih:=vQ xs ys;rw[oC,ih,AO,AO,Nat.succ_min_succ,HT,Kr,Jr,Bool.and_assoc];have e:(xs.length+1 == ys.length+1)=(xs.length == ys.length):=by simp
  rw[e];rfl
theorem XQ {xs ys:Aa D}(h:xs.length≠ys.length):xJ xs ys=false:=by
 rw[vQ];simp[h]
theorem mF (xs ys:Aa D):eqD (.tup xs) (.tup ys)=xJ xs ys:=rfl
theorem mE (xs ys:Aa D):eqD (.lst xs) (.lst ys)=xJ xs ys:=rfl
section
variable {X:Cx}{pins:Aa (Af × AX)}{σ : _L.St}{H P:Hp}{α : Aa Af}{S:Sto}{s:Ag}
inductive Kd (X:Cx)(P:Hp)(α : Aa Af)(s:Ag):D->Ac->Prop where
 |non:Kd X P α s .non .none
 |bl (b:Ap):Kd X P α s (.bl b) (.bool b)
 |int (i:Am) (t:Os):Kd X P α s (.int i) (.int i t)
 |str (x:As) (t:Os):Kd X P α s (.str x) (.str x t)
 |tup (a:Af) (xs:Aa D) (its:Aa Ac) (vs:Aa V) (rp:qD X.K P α xs vs) (rv:qJ vs its) (h:s.heap.IsTuple a its.toArray) (q:SqT X.K P a vs):Kd X P α s (.tup xs) (.ref a)
 |lst (a:Af) (xs:Aa D) (its:Aa Ac) (vs:Aa V) (rp:qD X.K P α xs vs) (rv:qJ vs its) (h:s.heap.IsList a its.toArray) (q:SqX X.K P a vs):Kd X P α s (.lst xs) (.ref a)
theorem uM (I:Inv X pins σ H s)(r:Rel X.K H P α S){n:Ai}{d:D}{v:V}{u:Ac}(h:pl n d=true)(p:Rep X.K P α d v)(rv:qK v u):Kd X P α s d u:=by
 cases d with
 |non=>simp only[Rep] at p;subst p;cases rv;exact .non
 |bl b=>simp only[Rep] at p;subst p;cases rv;exact .bl b
 |int i=>simp only[Rep] at p;subst p;obtain⟨t,rfl⟩:=rv;exact .int i t
 |str x=>simp only[Rep] at p;subst p;obtain⟨t,rfl⟩:=rv;exact .str x t
 |tup xs =>
  simp only[Rep] at p;obtain⟨a,vs,rfl,q,t⟩:=p;cases rv;obtain⟨its,r1,p1,_⟩:=I.tuple (xG r.sub q);exact .tup a xs its vs t r1 p1 q
 |lst xs =>
  simp only[Rep] at p;obtain⟨a,vs,rfl,q,t⟩:=p;cases rv;obtain⟨its,r1,p1,_⟩:=I.list ((xA r.sub q).l);exact .lst a xs its vs t r1 p1.isList q
 |_=>cases n <;> exact Go h
theorem vV {ds:Aa D}{vs:Aa V}{its:Aa Ac}(rp:qD X.K P α ds vs)(rv:qJ vs its){j:Ai}(h:j<its.toArray.size):∃ v,Rep X.K P α (ds.getD j .non) v/\qK v its.toArray[j]/\ds.getD j .non∈ds:=by
 have l1:=rp.length;have l2:=rv.length;have hj:j<its.length:=by simpa using h
 have hd:j<ds.length:=by lia
 obtain⟨v,e1,p⟩:=rp.get (Au hd);obtain⟨u,e2,q⟩:=rv.get e1;have e3:its.toArray[j]=u:=by
  have:its[j]? = Ab its[j]:=Au hj;rw[this] at e2;simpa using Bh e2
 have e4:ds.getD j .non=ds[j]:=by simp[IQ,hd]
 rw[e3,e4];exact⟨v,p,q,Ks hd⟩
theorem uQ {n:Ai}{ds:Aa D}(h:ds.all (pl n)=true){d:D}(hd:d∈ds):pl n d=true:=Bi.mp h d hd
theorem J9 {h:AB}{a:Af}{xs ys:Aw Ac}(h1:h.IsTuple a xs)(h2:h.IsTuple a ys):xs=ys:=by
 obtain⟨o,e,_,n,d⟩:=h1;obtain⟨o',e',_,n',d'⟩:=h2;cases e.symm.trans e';cases d.symm.trans d';rfl
theorem J3 {h:AB}{a:Af}{xs ys:Aw Ac}(h1:h.IsList a xs)(h2:h.IsList a ys):xs=ys:=by
 obtain⟨o,e,_,n,d⟩:=h1;obtain⟨o',e',_,n',d'⟩:=h2;cases e.symm.trans e';cases d.symm.trans d';rfl
theorem FB {h:AB}{a:Af}{xs ys:Aw Ac}(h1:h.IsTuple a xs)(h2:h.IsList a ys):CP:=by
 obtain⟨o,e,c,_⟩:=h1;obtain⟨o',e',c',_⟩:=h2;cases e.symm.trans e';exact absurd (c.symm.trans c') (by decide)
inductive Seqs (X:Cx)(P:Hp)(α : Aa Af)(xs ys:Aa D)(its its2:Aa Ac):Prop
 |mk (vs ws:Aa V) (rp:qD X.K P α xs vs) (rv:qJ vs its) (rp2:qD X.K P α ys ws) (rv2:qJ ws its2):Seqs X P α xs ys its its2
theorem Seqs.len1 {xs ys:Aa D}{its its2:Aa Ac}(q:Seqs X P α xs ys its its2):xs.length=its.length:=by
 obtain⟨vs,ws,rp,rv,_,_⟩:=q;exact rp.length.trans rv.length
theorem Seqs.len2 {xs ys:Aa D}{its its2:Aa Ac}(q:Seqs X P α xs ys its its2):ys.length=its2.length:=by
 obtain⟨vs,ws,_,_,rp,rv⟩:=q;exact rp.length.trans rv.length
inductive SameR (X:Cx)(P:Hp)(α : Aa Af):D->D->Prop
 |eq {d d':D} (h:eqD d d'=true):SameR X P α d d'
 |tt (xs ys:Aa D) (its:Aa Ac) (q:Seqs X P α xs ys its its):SameR X P α (.tup xs) (.tup ys)
 |ll (xs ys:Aa D) (its:Aa Ac) (q:Seqs X P α xs ys its its):SameR X P α (.lst xs) (.lst ys)
theorem eY {d d':D}{u:Ac}(k1:Kd X P α s d u)(k2:Kd X P α s d' u):SameR X P α d d':=by
 cases k1 with
 |non=>cases k2;exact .eq rfl
 |bl b=>cases k2;exact .eq (CH _)
 |int i t=>cases k2;exact .eq (CH _)
 |str x t=>cases k2;exact .eq (CH _)
 |tup a xs its vs rp rv h q =>
  cases k2 with
  |tup _ ys its2 ws rp2 rv2 h2 q2 =>
   cases J9 h h2;exact .tt xs ys its ⟨vs,ws,rp,rv,rp2,rv2⟩
  |lst _ ys its2 ws rp2 rv2 h2 q2=>exact(FB h h2).elim
 |lst a xs its vs rp rv h q =>
  cases k2 with
  |lst _ ys its2 ws rp2 rv2 h2 q2 =>
   cases J3 h h2;exact .ll xs ys its ⟨vs,ws,rp,rv,rp2,rv2⟩
  |tup _ ys its2 ws rp2 rv2 h2 q2=>exact(FB h2 h).elim
theorem tU (I:Inv X pins σ H s)(r:Rel X.K H P α S){m:Ai}(ih:∀ (d d':D) (u:Ac),pl m d=true->pl m d'=true->Kd X P α s d u->Kd X P α s d' u->eqD d d'=true){xs ys:Aa D}{its:Aa Ac}(h1:xs.all (pl m)=true)(h2:ys.all (pl m)=true)(q:Seqs X P α xs ys its its):xJ xs ys=true:=by
 obtain⟨vs,ws,rp,rv,rp2,rv2⟩:=q;have l1:=rp.length.trans rv.length;have l2:=rp2.length.trans rv2.length;rw[vQ,l1,l2,Tt,A0];refine⟨Bi.mpr λj hj=>?_,BEq.rfl⟩;have hj:j<its.toArray.size:=De.mp hj;obtain⟨w1,y1,z1,m1⟩:=vV rp rv hj;obtain⟨w2,y2,z2,m2⟩:=vV rp2 rv2 hj;exact ih _ _ _ (uQ h1 m1) (uQ h2 m2) (uM I r (uQ h1 m1) y1 z1) (uM I r (uQ h2 m2) y2 z2)
theorem rR (I:Inv X pins σ H s)(r:Rel X.K H P α S):∀ (n:Ai) (d d':D) (u:Ac),pl n d=true->pl n d'=true->Kd X P α s d u->Kd X P α s d' u->eqD d d'=true:=by
 intro n
 induction n with
 |zero =>
  intro d d' u h1 h2 k1 k2;cases eY k1 k2 with
  |eq h=>exact h
  |tt=>exact Go h1
  |ll=>exact Go h1
 |succ m ih =>
  intro d d' u h1 h2 k1 k2;cases eY k1 k2 with
  |eq h=>exact h
  |tt xs ys its q=>exact(mF xs ys).trans (tU I r ih h1 h2 q)
  |ll xs ys its q=>exact(mE xs ys).trans (tU I r ih h1 h2 q)
structure E3 (A:AK)(s:Ag)(u u':Ac)(b:Ap):Prop where
 eq:EqAt A s u u' b
 rc:RcAt A s u u' b
 ne:RcNeAt A s u u' (!b)
inductive EqR (X:Cx)(P:Hp)(α : Aa Af)(A:AK)(s:Ag):D->D->Ac->Ac->Prop
 |of {d d':D} {u u':Ac} (b:Ap) (e:eqD d d'=b) (h:E3 A s u u' b):EqR X P α A s d d' u u'
 |tt (a b:Af) (xs ys:Aa D) (its its2:Aa Ac) (ha:s.heap.IsTuple a its.toArray) (hb:s.heap.IsTuple b its2.toArray) (q:Seqs X P α xs ys its its2):EqR X P α A s (.tup xs) (.tup ys) (.ref a) (.ref b)
 |ll (a b:Af) (xs ys:Aa D) (its its2:Aa Ac) (ha:s.heap.IsList a its.toArray) (hb:s.heap.IsList b its2.toArray) (q:Seqs X P α xs ys its its2):EqR X P α A s (.lst xs) (.lst ys) (.ref a) (.ref b)
theorem V2 {A:AK}{d d':D}{u u':Ac}(hu:A.units<Ee)(k1:Kd X P α s d u)(k2:Kd X P α s d' u'):EqR X P α A s d d' u u':=by
 cases k1 with
 |non  =>
  cases k2 with
  |non  => exact .of _ rfl ⟨Xl _,RcAt.none_none,RcNeAt.none_none⟩
  |bl b=>exact .of _ rfl ⟨EqAt.none_bool b,RcAt.none_bool b,RcNeAt.none_bool b⟩
  |int b tb=>exact .of _ rfl ⟨EqAt.none_int b tb,RcAt.none_int b tb,RcNeAt.none_int b tb⟩
  |str b tb=>exact .of _ rfl ⟨EqAt.none_str b tb,RcAt.none_str b tb,RcNeAt.none_str b tb⟩
  |tup b ys its2 ws rp2 rv2 hb qb=>exact .of _ rfl ⟨EqAt.none_tuple hb hu,RcAt.none_tuple hb hu,RcNeAt.none_tuple hb hu⟩
  |lst b ys its2 ws rp2 rv2 hb qb=>exact .of _ rfl ⟨EqAt.none_list hb hu,RcAt.none_list hb hu,RcNeAt.none_list hb hu⟩
 |bl a =>
  cases k2 with
  |non  => exact .of _ rfl ⟨EqAt.bool_none a,RcAt.bool_none a,RcNeAt.bool_none a⟩
  |bl b=>exact .of _ rfl ⟨EqAt.bool_bool a b,RcAt.bool_bool a b,RcNeAt.bool_bool a b⟩
  |int b tb=>exact .of _ rfl ⟨EqAt.bool_int a b tb,RcAt.bool_int a b tb,RcNeAt.bool_int a b tb⟩
  |str b tb=>exact .of _ rfl ⟨EqAt.bool_str a b tb,RcAt.bool_str a b tb,RcNeAt.bool_str a b tb⟩
  |tup b ys its2 ws rp2 rv2 hb qb=>exact .of _ rfl ⟨EqAt.bool_tuple a hb hu,RcAt.bool_tuple a hb hu,RcNeAt.bool_tuple a hb hu⟩
  |lst b ys its2 ws rp2 rv2 hb qb=>exact .of _ rfl ⟨EqAt.bool_list a hb hu,RcAt.bool_list a hb hu,RcNeAt.bool_list a hb hu⟩
 |int a ta =>
  cases k2 with
  |non  => exact .of _ rfl ⟨EqAt.int_none a ta,RcAt.int_none a ta,RcNeAt.int_none a ta⟩
  |bl b=>exact .of _ rfl ⟨EqAt.int_bool a ta b,RcAt.int_bool a ta b,RcNeAt.int_bool a ta b⟩
  |int b tb=>exact .of _ rfl ⟨EqAt.int_int a ta b tb,RcAt.int_int a ta b tb,RcNeAt.int_int a ta b tb⟩
  |str b tb=>exact .of _ rfl ⟨EqAt.int_str a ta b tb,RcAt.int_str a ta b tb,RcNeAt.int_str a ta b tb⟩
  |tup b ys its2 ws rp2 rv2 hb qb=>exact .of _ rfl ⟨EqAt.int_tuple a ta hb hu,RcAt.int_tuple a ta hb hu,RcNeAt.int_tuple a ta hb hu⟩
  |lst b ys its2 ws rp2 rv2 hb qb=>exact .of _ rfl ⟨EqAt.int_list a ta hb hu,RcAt.int_list a ta hb hu,RcNeAt.int_list a ta hb hu⟩
 |str a ta =>
  cases k2 with
  |non  => exact .of _ rfl ⟨EqAt.str_none a ta,RcAt.str_none a ta,RcNeAt.str_none a ta⟩
  |bl b=>exact .of _ rfl ⟨EqAt.str_bool a ta b,RcAt.str_bool a ta b,RcNeAt.str_bool a ta b⟩
  |int b tb=>exact .of _ rfl ⟨EqAt.str_int a ta b tb,RcAt.str_int a ta b tb,RcNeAt.str_int a ta b tb⟩
  |str b tb=>exact .of _ rfl ⟨EqAt.str_str a ta b tb,RcAt.str_str a ta b tb,RcNeAt.str_str a ta b tb⟩
  |tup b ys its2 ws rp2 rv2 hb qb=>exact .of _ rfl ⟨EqAt.str_tuple a ta hb hu,RcAt.str_tuple a ta hb hu,RcNeAt.str_tuple a ta hb hu⟩
  |lst b ys its2 ws rp2 rv2 hb qb=>exact .of _ rfl ⟨EqAt.str_list a ta hb hu,RcAt.str_list a ta hb hu,RcNeAt.str_list a ta hb hu⟩
 |tup a xs its vs rp rv ha qa =>
  cases k2 with
  |non  => exact .of _ rfl ⟨EqAt.tuple_none ha hu,RcAt.tuple_none ha hu,RcNeAt.tuple_none ha hu⟩
  |bl b=>exact .of _ rfl ⟨EqAt.tuple_bool b ha hu,RcAt.tuple_bool b ha hu,RcNeAt.tuple_bool b ha hu⟩
  |int b tb=>exact .of _ rfl ⟨EqAt.tuple_int b tb ha hu,RcAt.tuple_int b tb ha hu,RcNeAt.tuple_int b tb ha hu⟩
  |str b tb=>exact .of _ rfl ⟨EqAt.tuple_str b tb ha hu,RcAt.tuple_str b tb ha hu,RcNeAt.tuple_str b tb ha hu⟩
  |tup b ys its2 ws rp2 rv2 hb qb=>exact .tt a b xs ys its its2 ha hb ⟨vs,ws,rp,rv,rp2,rv2⟩
  |lst b ys its2 ws rp2 rv2 hb qb=>exact .of _ rfl ⟨EqAt.tuple_list ha hb hu,RcAt.tuple_list ha hb hu,RcNeAt.tuple_list ha hb hu⟩
 |lst a xs its vs rp rv ha qa =>
  cases k2 with
  |non  => exact .of _ rfl ⟨EqAt.list_none ha hu,RcAt.list_none ha hu,RcNeAt.list_none ha hu⟩
  |bl b=>exact .of _ rfl ⟨EqAt.list_bool b ha hu,RcAt.list_bool b ha hu,RcNeAt.list_bool b ha hu⟩
  |int b tb=>exact .of _ rfl ⟨EqAt.list_int b tb ha hu,RcAt.list_int b tb ha hu,RcNeAt.list_int b tb ha hu⟩
  |str b tb=>exact .of _ rfl ⟨EqAt.list_str b tb ha hu,RcAt.list_str b tb ha hu,RcNeAt.list_str b tb ha hu⟩
  |tup b ys its2 ws rp2 rv2 hb qb=>exact .of _ rfl ⟨EqAt.list_tuple ha hb hu,RcAt.list_tuple ha hb hu,RcNeAt.list_tuple ha hb hu⟩
  |lst b ys its2 ws rp2 rv2 hb qb=>exact .ll a b xs ys its its2 ha hb ⟨vs,ws,rp,rv,rp2,rv2⟩
theorem E3.cast {A:AK}{u u':Ac}{b c:Ap}(e:c=b)(h:E3 A s u u' b):E3 A s u u' c:=e▸h
theorem L9 {A:AK}{a b:Af}{xs ys:Aa D}{its its2:Aa Ac}(hu:A.units<Ee)(ha:s.heap.IsTuple a its.toArray)(hb:s.heap.IsTuple b its2.toArray)(l1:xs.length=its.length)(l2:ys.length=its2.length)
  (sub:∀ j (h1:j<its.toArray.size) (h2:j<its2.toArray.size),EqAt A.in1 s its.toArray[j] its2.toArray[j] (eqD (xs.getD j .non) (ys.getD j .non))) (same:a=b->xJ xs ys=true):E3 A s (.ref a) (.ref b) (xJ xs ys):=by
 have e:xJ xs ys=((Be (min its.toArray.size its2.toArray.size)).all (λj=>eqD (xs.getD j .non) (ys.getD j .non))&&its.toArray.size == its2.toArray.size):=by rw[vQ,l1,l2];rfl
 have R1:=RcAt.tuples ha hb hu sub;have R2:=RcNeAt.tuples ha hb hu sub;rw[<- e] at R1 R2;refine⟨?_,R1,R2⟩;by_cases hab:a=b
 .rw[same hab,hab]
  exact Xl _
 .exact Yf hab R1
theorem L8 {A:AK}{a b:Af}{xs ys:Aa D}{its its2:Aa Ac}(hu:A.units<Ee)(ha:s.heap.IsList a its.toArray)(hb:s.heap.IsList b its2.toArray)(l1:xs.length=its.length)(l2:ys.length=its2.length)
  (sub:∀ j (h1:j<its.toArray.size) (h2:j<its2.toArray.size),EqAt A.in1 s its.toArray[j] its2.toArray[j] (eqD (xs.getD j .non) (ys.getD j .non))) (same:a=b->xJ xs ys=true):E3 A s (.ref a) (.ref b) (xJ xs ys):=by
 have R:RcAt A s (.ref a) (.ref b) (xJ xs ys)/\RcNeAt A s (.ref a) (.ref b) (!xJ xs ys):=by
  by_cases hl:its.length=its2.length
  .have e:xJ xs ys=(Be its.toArray.size).all (λj=>eqD (xs.getD j .non) (ys.getD j .non)):=by rw[vQ,l1,l2,<- hl,Tt,BEq.rfl,Xm];rfl
   rw[e];exact⟨RcAt.lists ha hb hl hu sub,RcNeAt.lists ha hb hl hu sub⟩
  .rw[XQ (by rw[l1,l2];exact hl)]
   have hn:(its.toArray.size != its2.toArray.size)=true:=bne_iff_ne.mpr hl;exact⟨RcAt.lists_lengths ha hb hn hu,RcNeAt.lists_lengths ha hb hn hu⟩
 refine⟨?_,R.1,R.2⟩;by_cases hab:a=b
 .rw[same hab,hab]
  exact Xl _
 .exact Yf hab R.1
theorem oB (I:Inv X pins σ H s)(r:Rel X.K H P α S):∀ (n:Ai) (A:AK) (d d':D) (u u':Ac),A.units+n<Ee->pl n d=true->pl n d'=true->Kd X P α s d u->Kd X P α s d' u'->E3 A s u u' (eqD d d'):=by
 intro n
 induction n with
 |zero =>
  intro A d d' u u' hu h1 h2 k1 k2;cases V2 hu k1 k2 with
  |of b e h=>exact h.cast e
  |tt=>exact Go h1
  |ll=>exact Go h1
 |succ m ih =>
  intro A d d' u u' hu h1 h2 k1 k2;have hu0:A.units<Ee:=Jl (Ft _ _) hu;have hu1:A.in1.units+m<Ee:=by show A.units+1+m<Ee;lia
  have sub:∀ {xs ys:Aa D} {its its2:Aa Ac},xs.all (pl m)=true->ys.all (pl m)=true->Seqs X P α xs ys its its2 ->
    ∀ j (h1:j<its.toArray.size) (h2:j<its2.toArray.size),EqAt A.in1 s its.toArray[j] its2.toArray[j] (eqD (xs.getD j .non) (ys.getD j .non)):=λ{xs ys its its2} a1 a2 ⟨vs,ws,b1,b2,c1,c2⟩ j g1 g2=>by
   obtain⟨w1,y1,z1,m1⟩:=vV b1 b2 g1;obtain⟨w2,y2,z2,m2⟩:=vV c1 c2 g2;exact(ih A.in1 _ _ _ _ hu1 (uQ a1 m1) (uQ a2 m2) (uM I r (uQ a1 m1) y1 z1) (uM I r (uQ a2 m2) y2 z2)).eq
  cases V2 hu0 k1 k2 with
  |of b e h=>exact h.cast e
  |tt a b xs ys its its2 ha hb q=>exact(L9 hu0 ha hb q.len1 q.len2 (sub h1 h2 q) λe=>by subst e;exact(mF xs ys).symm.trans (rR I r (m+1) _ _ _ h1 h2 k1 k2)).cast (mF xs ys)
  |ll a b xs ys its its2 ha hb q=>exact(L8 hu0 ha hb q.len1 q.len2 (sub h1 h2 q) λe=>by subst e;exact(mE xs ys).symm.trans (rR I r (m+1) _ _ _ h1 h2 k1 k2)).cast (mE xs ys)
noncomputable def y7:Ai:=30
noncomputable def gEq:G2:=λa b S=>if pl y7 a&&pl y7 b then .ok (.bl (eqD a b)) S else .bad
noncomputable def gNe:G2:=λa b S=>if pl y7 a&&pl y7 b then .ok (.bl (!eqD a b)) S else .bad
set_option tactic.hygienic true in
theorem D4 (hu:X.A.units+64<Ee):OpD X (Cz .Eq) gEq:=by
 intro pins σ H s P α S v u vv uu a b Q I r rv ru pa pb af;unfold gEq at af
 split at af
 .rename_i h
  rw[A0] at h;exact(oB I r y7 X.A a b vv uu (by unfold y7;lia) h.1 h.2 (uM I r h.1 pa rv) (uM I r h.2 pb ru)).rc _ _ _ _ ⟨.bl _,H,I,rfl,xr af r (by simp only[Rep])⟩
 .exact An af
set_option tactic.hygienic true in
theorem D9 (hu:X.A.units+64<Ee):OpD X (Cz .NotEq) gNe:=by
 intro pins σ H s P α S v u vv uu a b Q I r rv ru pa pb af;unfold gNe at af
 split at af
 .rename_i h
  rw[A0] at h;exact(oB I r y7 X.A a b vv uu (by unfold y7;lia) h.1 h.2 (uM I r h.1 pa rv) (uM I r h.2 pb ru)).ne _ _ _ _ ⟨.bl _,H,I,rfl,xr af r (by simp only[Rep])⟩
 .exact An af
end
end _D
end
namespace _D
open PySem PySem.Spec PyProof.Rows _L
variable {pins:Aa (Af × AX)}{kvs:Aa (Key × D)}{its us:Aa Ac}{xs ds:Aa D}{vs:Aa V}{s:Ag}{d:D}{v:V}{Q:VK}{σ:_L.St}
section
variable {X:Cx}
noncomputable def i2 (C:Am->Am->Ap)(f:Am->Am->D):G2:=λa b S=>match a,b with
 |.int i,.int j=>if C i j then .ok (f i j) S else .bad
 |_,_=>.bad
theorem V5 {C:Am->Am->Ap}{f:Am->Am->D}{a b:D}{S:Sto}{P:Hp}{α:Aa Af}{Ok:D->Sto->Prop}(h:qG X P α (i2 C f a b S) Ok):∃ i j,a=.int i/\b=.int j/\C i j=true/\Ok (f i j) S:=by
 cases a with
 |int i =>
  cases b with
  |int j =>
   obtain⟨hc,h⟩:=xZ (X:=X) h;exact⟨i,j,rfl,rfl,hc,h⟩
  |_=>exact An h
 |_=>exact An h
theorem xP {P:Hp}{α:Aa Af}{i:Am}(r:Rep X.K P α (.int i) v):v=.int i:=by simpa only [Rep] using r
theorem fK {f:Ac->Ac->Il Ac}{C':Am->Am->Prop}{v:Am->Am->V}{C:Am->Am->Ap}{d:Am->Am->D}(h:OpR X f (rI C' v))(hC:∀ i j,C i j=true->C' i j)(hv:∀ P α i j,Rep X.K P α (d i j) (v i j)):OpD X f (i2 C d):=
 OpD.of h λH P α S x y a b Q r p1 p2 af=>by
  obtain⟨i,j,rfl,rfl,hc,ok⟩:=V5 af;exact⟨i,j,xP p1,xP p2,hC i j hc,xr ok r (hv P α i j)⟩
theorem fJ {f:Ac->Ac->Il Ac}{v:Am->Am->V}{d:Am->Am->D}(h:OpR X f (rI0 v))(hv:∀ P α i j,Rep X.K P α (d i j) (v i j)):OpD X f (i2 (λ_ _=>true) d):=
 OpD.of h λH P α S x y a b Q r p1 p2 af=>by
  obtain⟨i,j,rfl,rfl,_,ok⟩:=V5 af;exact⟨i,j,xP p1,xP p2,xr ok r (hv P α i j)⟩
noncomputable def j8:G2:=i2 (λ_ _=>true) λi j=>.int (i-j)
theorem MD:OpD X (CS .Sub) j8:=fJ MN λP α i j=>by simp only[Rep]
noncomputable def lJ (i j:Am):Ap:=decide (-(2 ^ 64)<i/\i<2 ^ 64)||decide (-(2 ^ 64)<j/\j<2 ^ 64)
theorem JZ:OpD X (CS .Mult) (i2 lJ λi j=>.int (i*j)):=fK ML (λi j h=>by
 unfold lJ at h;rw[Ia] at h;rcases h with h|h
 .exact .inl (Bd h)
 .exact .inr (Bd h)) λP α i j=>by simp only[Rep]
noncomputable def PN (i j:Am):Ap:=decide (0<j/\j<1073741824)
noncomputable def mH:G2:=i2 PN λi j=>.int (i/j)
theorem MA:OpD X (CS .FloorDiv) mH:=fK K3 (λi j h=>(Bd h:0<j/\j<1073741824)) λP α i j=>by simp only[Rep]
noncomputable def j7:G2:=i2 (λ_ j=>decide (0<j)) λi j=>.int (i % j)
theorem MB:OpD X (CS .Mod) j7:=fK MK (λi j h=>Bd h) λP α i j=>by simp only[Rep]
noncomputable def RA (i j:Am):Ap:=decide (0<=j/\j<=1000000/\i.natAbs<2 ^ 64)
noncomputable def aA:G2:=i2 RA λi j=>.int (i ^ j.toNat)
theorem MC:OpD X (CS .Pow) aA:=fK MM (λi j h=>(Bd h:0<=j/\j<=1000000/\i.natAbs<2 ^ 64)) λP α i j=>by simp only[Rep]
noncomputable def gLt:G2:=i2 (λ_ _=>true) λi j=>.bl (decide (i<j))
noncomputable def gLe:G2:=i2 (λ_ _=>true) λi j=>.bl (decide (i<=j))
noncomputable def gGe:G2:=i2 (λ_ _=>true) λi j=>.bl (decide (j<=i))
theorem D8:OpD X (Cz .Lt) gLt:=fJ DD λP α i j=>by simp only[Rep]
theorem D7:OpD X (Cz .LtE) gLe:=fJ DC λP α i j=>by simp only[Rep]
theorem D5:OpD X (Cz .GtE) gGe:=fJ DB λP α i j=>by simp only[Rep]
noncomputable def bE:D->Sto->Res D:=λa S=>match a with
 |.int i=>.ok (.int (-i)) S
 |_=>.bad
theorem NA:UnD X (Uy .USub) bE:=by
 intro pins σ H s P α S v vv a Q I r rv p af;cases a with
 |int i=>exact NB pins s σ H v vv Q I rv ⟨i,xP p,xr af r (by simp only[Rep])⟩
 |_=>exact An af
noncomputable def gIs:G2:=λa b S=>match b with
 |.non=>match a with
  |.non=>.ok (.bl true) S
  |_=>.ok (.bl false) S
 |_=>.bad
theorem JV {P:Hp}{α:Aa Af}(r:Rep X.K P α d v):decide (v=.non)=(match d with|.non=>true|_=>false):=by
 cases d <;> simp only[Rep] at r
 case non=>subst r;rfl
 case bl=>subst r;rfl
 case int=>subst r;rfl
 case str=>subst r;rfl
 case ty=>subst r;rfl
 case clo=>obtain⟨rfl,_⟩:=r;rfl
 case obj=>obtain⟨rfl,_⟩:=r;rfl
 case tup=>obtain⟨a,vs,rfl,_⟩:=r;rfl
 case lst=>obtain⟨a,vs,rfl,_⟩:=r;rfl
 case dct0=>obtain⟨a,rfl,_⟩:=r;rfl
 case loc=>obtain⟨a,rfl,_⟩:=r;rfl
 case exn=>obtain⟨a,rfl,_⟩:=r;rfl
 case fd=>obtain⟨a,o,vs,rfl,_⟩:=r;rfl
theorem D6:OpD X (Cz .Is) gIs:=OpD.of MJ λH P α S x y a b Q r p1 p2 af=>by
 cases b with
 |non =>
  simp only[Rep] at p2;refine⟨p2,?_⟩;rw[JV p1];cases a <;> exact xr af r (by simp only[Rep])
 |_=>exact An af
noncomputable def zC:G2:=λa b S=>match a,b with
 |.int i,.int j=>.ok (.int (i+j)) S
 |.str x,.str y=>if x.length+y.length<=lim then .ok (.str (x++y)) S else .bad
 |.tup xs,.tup ys=>if xs.length+ys.length<=lim then .ok (.tup (xs++ys)) S else .bad
 |.lst xs,.lst ys=>if xs.length+ys.length<=lim then .ok (.lst (xs++ys)) S else .bad
 |_,_=>.bad
theorem uC {H P:Hp}{α:Aa Af}{S:Sto}(I:Inv X pins σ H s)(r:Rel X.K H P α S)(p:Rep X.K P α (.tup xs) v) :
  ∃ a vs its,v=.ref a/\SqT X.K P a vs/\qD X.K P α xs vs/\qJ vs its/\Ps s.heap a its.toArray/\xs.length=its.length/\xs.length<=lim:=by
 simp only[Rep] at p;obtain⟨a,vs,rfl,q,t⟩:=p;obtain⟨its,rv,p1,z⟩:=I.tuple (xG r.sub q);exact⟨a,vs,its,rfl,q,t,rv,p1,by rw[t.length,rv.length],by rw[t.length,zX];exact z⟩
theorem yN {H P:Hp}{α:Aa Af}{S:Sto}(I:Inv X pins σ H s)(r:Rel X.K H P α S)(p:Rep X.K P α (.lst xs) v) :
  ∃ a vs its n,v=.ref a/\SqX X.K P a vs/\qD X.K P α xs vs/\qJ vs its/\s.heap.get? a=Ab { cls:=.type "list",data:=.seq its.toArray n } /\ xs.length=its.length/\xs.length<=lim:=by
 simp only[Rep] at p;obtain⟨a,vs,rfl,q,t⟩:=p;have:∃ its n,qJ vs its/\s.heap.get? a=Ab { cls:=.type "list",data:=.seq its.toArray n } /\ vs.length<=sizeLine:=by
  rcases q with q|⟨its,n,e,z,rv⟩
  .obtain⟨z,its,n,rv,e⟩:=(eV r.sub q).ok I.hok
   exact⟨its,n,rv,e,z⟩
  .exact⟨its,n,rv,I.kIn _ _ e,z⟩
 obtain⟨its,n,rv,e,z⟩:=this;exact⟨a,vs,its,n,rfl,q,t,rv,e,by rw[t.length,rv.length],by rw[t.length,zX];exact z⟩
theorem dH {H P:Hp}{α:Aa Af}{S:Sto}(I:Inv X pins σ H s)(r:Rel X.K H P α S)(t:qD X.K P α xs vs)(rv:qJ vs its)(hz:xs.length<=lim)
  (ok:OkV X P α Q (.tup xs) S):EP X pins σ Q (.ref s.heap.objs.size) { s with heap:=s.heap.push { cls:=.type "tuple",data:=.seq its.toArray } }:=by
 refine⟨.ref s.heap.objs.size,_,I.laid (t':=s.toks) (o:=.tup vs) (λb ob q=>Ah _ q) (Aq _) ⟨by rw[<- t.length,<- zX];exact hz,its,rv,Pv _ _⟩,rfl,u0 r (I.hok.fresh (Aq _)) t ok⟩
theorem dG {H P:Hp}{α:Aa Af}{S:Sto}(I:Inv X pins σ H s)(r:Rel X.K H P α S)(t:qD X.K P α xs vs)(rv:qJ vs its)(hz:xs.length<=lim)
  (ok:OkV X P α Q (.lst xs) S):EP X pins σ Q (.ref s.heap.objs.size) { s with heap:=s.heap.push { cls:=.type "list",data:=.seq its.toArray } }:=by
 refine⟨.ref s.heap.objs.size,_,I.laid (t':=s.toks) (o:=.lst vs) (λb ob q=>Ah _ q) (Aq _) ⟨by rw[<- t.length,<- zX];exact hz,its,0,rv,A7 _ rfl⟩,rfl,wD r (I.hok.fresh (Aq _)) t ok⟩
theorem PJ {H P:Hp}{α:Aa Af}{S:Sto}{ys:Aa D}{u:V}{vv uu:Ac}(I:Inv X pins σ H s)(r:Rel X.K H P α S)(rv:qK v vv)(ru:qK u uu)(pa:Rep X.K P α (.tup xs) v)(pb:Rep X.K P α (.tup ys) u)(hl:xs.length+ys.length<=lim)(af:OkV X P α Q (.tup (xs++ys)) S) :
  Ao (Ar X.prog X.w) X.A (CS .Add vv uu) (EP X pins σ Q) X.xe s:=by
 obtain⟨a,vs,its,rfl,q1,t1,rv1,h1,l1,_⟩:=uC I r pa;obtain⟨b,ws,its2,rfl,q2,t2,rv2,h2,l2,_⟩:=uC I r pb;cases rv;cases ru;by_cases hx:its=[]
 .obtain⟨⟨cls,dd,data,sl⟩,ho,hc,n,hd⟩:=id h1
  obtain⟨⟨cls2,dd2,data2,sl2⟩,ho2,hc2,n2,hd2⟩:=id h2;simp only at hc hd hc2 hd2;subst hc hd hc2 hd2;have hxs:xs=[]:=Jq.mp (by rw[l1,hx];rfl)
  subst hxs;exact Tn ⟨_,ho,rfl⟩ ⟨_,ho2,rfl⟩ O7 Rr Ke Jp (Jf _ _) (tuple_addW0 a b its.toArray its2.toArray n n2 dd dd2 sl sl2 (by simp[hx]))
   ⟨ho,ho2,⟨.ref b,H,I,rfl,xr af r pb⟩⟩
 .refine _H.cat_tup h1 h2 hx (λz=>⟨.ref a,H,I,rfl,xr af r ?_⟩) (λz=>?_) (by rw[<- l1,<- l2,<- zX];exact hl)
  .have hys:ys=[]:=Jq.mp (by rw[l2,z];rfl)
   rw[hys,Df];exact pa
  .exact dH I r (t1.append t2) (rv1.append rv2) (by rw[AT];exact hl) af
theorem PH {H P:Hp}{α:Aa Af}{S:Sto}{ys:Aa D}{u:V}{vv uu:Ac}(I:Inv X pins σ H s)(r:Rel X.K H P α S)(rv:qK v vv)(ru:qK u uu)(pa:Rep X.K P α (.lst xs) v)(pb:Rep X.K P α (.lst ys) u)(hl:xs.length+ys.length<=lim)(af:OkV X P α Q (.lst (xs++ys)) S) :
  Ao (Ar X.prog X.w) X.A (CS .Add vv uu) (EP X pins σ Q) X.xe s:=by
 obtain⟨a,vs,its,n,rfl,q1,t1,rv1,h1,l1,_⟩:=yN I r pa;obtain⟨b,ws,its2,n2,rfl,q2,t2,rv2,h2,l2,_⟩:=yN I r pb;cases rv;cases ru;refine PySem.P.add_list h1 h2 ?_ (by rw[AD,AD,<- l1,<- l2,<- zX];exact hl)
 rw[List.append_toArray];exact dG I r (t1.append t2) (rv1.append rv2) (by rw[AT];exact hl) af
inductive AddV (a b:D)(S:Sto):Prop
 |bad (e:zC a b S=.bad)
 |int (i j:Am) (ea:a=.int i) (eb:b=.int j)
 |str (x y:As) (ea:a=.str x) (eb:b=.str y)
 |tup (x y:Aa D) (ea:a=.tup x) (eb:b=.tup y)
 |lst (x y:Aa D) (ea:a=.lst x) (eb:b=.lst y)
theorem R7 (a b:D)(S:Sto):AddV a b S:=by
 cases a with
 |int i=>cases b with
  |int j=>exact .int i j rfl rfl
  |_=>exact .bad rfl
 |str i=>cases b with
  |str j=>exact .str i j rfl rfl
  |_=>exact .bad rfl
 |tup i=>cases b with
  |tup j=>exact .tup i j rfl rfl
  |_=>exact .bad rfl
 |lst i=>cases b with
  |lst j=>exact .lst i j rfl rfl
  |_=>exact .bad rfl
 |_=>exact .bad rfl
theorem M9:OpD X (CS .Add) zC:=by
 intro pins σ H s P α S v u vv uu a b Q I r rv ru pa pb af;cases R7 a b S with
 |bad e=>rw[e] at af;exact An af
 |int i j ea eb =>
  subst ea eb;exact MI pins s σ H v u vv uu Q I rv ru ⟨i,j,xP pa,xP pb,xr af r (by simp only[Rep])⟩
 |str x y ea eb =>
  subst ea eb;obtain⟨hl,af⟩:=xZ (X:=X) af;simp only[Rep] at pa pb;exact aY pins s σ H v u vv uu Q I rv ru ⟨x,y,pa,pb,by rw[<- zX];exact hl,xr af r (by simp only[Rep])⟩
 |tup xs ys ea eb =>
  subst ea eb;obtain⟨hl,af⟩:=xZ (X:=X) af;exact PJ I r rv ru pa pb hl af
 |lst xs ys ea eb =>
  subst ea eb;obtain⟨hl,af⟩:=xZ (X:=X) af;exact PH I r rv ru pa pb hl af
noncomputable def gIx:G2:=λa b S=>match b with
 |.int k=>match a with
  |.tup xs=>v7 (atI xs k) S
  |.lst xs=>v7 (atI xs k) S
  |.loc i=>match S[i]? with
   |some (.lst xs)=>v7 (atI xs k) S
   |_=>.bad
  |_=>.bad
 |_=>.bad
theorem fY {P:Hp}{α:Aa Af}{k:Am}(rp:qD X.K P α ds vs)(h:atI ds k=Ab d):∃ v,atI vs k=Ab v/\Rep X.K P α d v:=by
 unfold atI at h ⊢;rw[<- rp.length];cases q:ixN ds.length k with
 |none=>rw[q] at h;cases h
 |some j =>
  rw[q] at h;obtain⟨v,h1,h2⟩:=rp.get (show ds[j]? = Ab d from h)
  exact⟨v,h1,h2⟩
theorem RP:IxD X gIx:=by
 intro value slice pins σ H s P α S v u vv uu a b Q I r rv ru pa pb af hs;cases b with
 |int k =>
  have hk:=xP pb;cases a with
  |tup xs =>
   obtain⟨d,e,ok⟩:=v8 (X:=X) af;simp only[Rep] at pa;obtain⟨p,vs,rfl,q,t⟩:=pa;obtain⟨w,e1,rw'⟩:=fY t e;exact FD value slice pins s σ H _ u vv uu Q I rv ru ⟨p,vs,k,w,rfl,hk,xG r.sub q,e1,xr ok r rw'⟩ hs
  |lst xs =>
   obtain⟨d,e,ok⟩:=v8 (X:=X) af;simp only[Rep] at pa;obtain⟨p,vs,rfl,q,t⟩:=pa;obtain⟨w,e1,rw'⟩:=fY t e;exact eD value slice pins s σ H _ u vv uu Q I rv ru ⟨p,vs,k,w,rfl,hk,(xA r.sub q).l,e1,xr ok r rw'⟩ hs
  |loc i =>
   obtain⟨xs,hS,af⟩:=kP (X:=X) (f:=λxs=>v7 (atI xs k) S) af;obtain⟨d,e,ok⟩:=v8 (X:=X) af;simp only[Rep] at pa;obtain⟨p,rfl,q⟩:=pa;obtain⟨vs,z,t⟩:=r.at' i p _ q hS;obtain⟨w,e1,rw'⟩:=fY t e;exact eD value slice pins s σ H _ u vv uu Q I rv ru ⟨p,vs,k,w,rfl,hk,.of z,e1,xr ok r rw'⟩ hs
  |_=>exact An af
 |_=>exact An af
noncomputable def mI:G3:=λo i d S=>match o,i with
 |.loc n,.int k=>match S[n]? with
  |some (.lst xs)=>match ixN xs.length k with
   |some j=>.ok () (S.set n (.lst (xs.set j d)))
   |none=>.bad
  |_=>.bad
 |_,_=>.bad
theorem SA:lC X (l9 X mI):=by
 intro pins s σ H o i v ov iv u Q I ro ri rv h;obtain⟨P,α,S,a,b,d,r,pa,pb,pd,af⟩:=h;cases a with
 |loc n =>
  cases b with
  |int k =>
   obtain⟨xs,hS,af⟩:=kP (X:=X) (f:=λxs=>match ixN xs.length k with|some j=>.ok () (S.set n (.lst (xs.set j d)))|none=>.bad) af
   cases hj:ixN xs.length k with
   |none=>rw[hj] at af;exact An af
   |some j =>
    rw[hj] at af;simp only[Rep] at pa;obtain⟨p,rfl,q⟩:=pa;obtain⟨vs,z,t⟩:=r.at' n p _ q hS;refine YH pins s σ H _ i v ov iv u Q I ro ri rv ⟨p,vs,k,j,rfl,xP pb,z,by rw[<- t.length];exact hj,?_⟩
    refine af _ P α (r.put (m':=.lst (xs.set j d)) q hS (by intro z;cases z) ⟨vs.set j v,qV,t.set pd j⟩) (qF.refl _) (AA _)
  |_=>exact An af
 |_=>exact An af
noncomputable def FP:D->Sto->Al Ai
 |.tup xs,_=>Ab xs.length
 |.lst xs,_=>Ab xs.length
 |.str x,_=>if x.length<=lim then Ab x.length else none
 |.dct0,_=>Ab 0
 |.loc i,S=>match S[i]? with
  |some (.lst xs)=>Ab xs.length
  |_=>none
 |_,_=>none
noncomputable def d8:DF:=λds S=>match ds with
 |[d]=>match FP d S with
  |some n=>.ok (.int n) S
  |none=>.bad
 |_=>.bad
end
section
variable {X:Cx}
theorem yS {P:Hp}{α:Aa Af}(rp:qD X.K P α [d] vs)(rv:qJ vs us):∃ v u,vs=[v]/\us=[u]/\Rep X.K P α d v/\qK v u:=by
 obtain⟨v,ws,rfl,p,t⟩:=rp.cons_inv;have:=t.nil_inv;subst this;obtain⟨u,rfl,q⟩:=vI rv;exact⟨v,u,rfl,rfl,p,q⟩
theorem pM {P:Hp}{α:Aa Af}{e:D}(rp:qD X.K P α [d,e] vs)(rv:qJ vs us):∃ v w u x,vs=[v,w]/\us=[u,x]/\Rep X.K P α d v/\Rep X.K P α e w/\qK v u/\qK w x:=by
 obtain⟨v,ws,rfl,p,t⟩:=rp.cons_inv;obtain⟨w,ws,rfl,p',t⟩:=t.cons_inv;have:=t.nil_inv;subst this;obtain⟨u,x,rfl,q,q'⟩:=fT rv;exact⟨v,w,u,x,rfl,rfl,p,p',q,q'⟩
noncomputable def aI (d:D)(S:Sto):Al Ai:=match d with
 |.dct0=>none
 |_=>FP d S
theorem FQ {H P:Hp}{α:Aa Af}{S:Sto}{n:Ai}(r:Rel X.K H P α S)(p:Rep X.K P α d v)(hn:aI d S=Ab n):P9 X.K v H n:=by
 cases d with
 |str x =>
  cases (show v=.str x from p)
  obtain⟨hl,rfl⟩:=kG hn;exact⟨by rw[<- zX];exact hl,rfl⟩
 |tup xs =>
  simp only[Rep] at p;obtain⟨a,ws,rfl,sq,t⟩:=p;cases hn;exact .inr ⟨ws,xG r.sub sq,t.length⟩
 |lst xs =>
  simp only[Rep] at p;obtain⟨a,ws,rfl,sq,t⟩:=p;cases hn;exact .inl ⟨ws,(xA r.sub sq).l,t.length⟩
 |loc i =>
  simp only[Rep] at p;obtain⟨a,rfl,e⟩:=p;obtain⟨xs,hS,hn⟩:=FS (f:=λxs=>Ab xs.length) hn;cases hn;obtain⟨ws,z,t⟩:=r.at' i a _ e hS;exact .inl ⟨ws,.of z,t.length⟩
 |_=>exact nn hn
inductive LenD1 (ds:Aa D)(S:Sto)(r:Res D):Prop
 |bad (e:r=.bad)
 |of (d:D) (n:Ai) (ed:ds=[d]) (hn:aI d S=Ab n) (e:r=.ok (.int n) S)
theorem LN (ds:Aa D)(S:Sto):LenD1 ds S (match ds with|[.dct0]=>.bad|_=>d8 ds S):=by
 cases ds with
 |nil=>exact .bad rfl
 |cons d ds =>
  cases ds with
  |cons _ _=>cases d <;> exact .bad rfl
  |nil =>
   have z:(match [d] with|[D.dct0]=>Res.bad|_=>d8 [d] S)=(match aI d S with|some n=>Res.ok (D.int n) S|none=>.bad):=by cases d <;> rfl
   rw[z];cases hn:aI d S with
   |none=>exact .bad rfl
   |some n=>exact .of d n rfl hn rfl
theorem PR (hD:Jn):wJ X (.builtin "len") (λds S=>match ds with|[.dct0]=>.bad|_=>d8 ds S):=by
 intro pins σ H s P α S vs us ds Q I r rv rp af;have af1:qG X P α (match ds with|[D.dct0]=>Res.bad|_=>d8 ds S) (OkV X P α Q):=af
 clear af;cases LN ds S with
 |bad e=>rw[e] at af1;exact An af1
 |of d n ed hn e =>
  rw[e] at af1;subst ed;obtain⟨v,u,rfl,rfl,p,q⟩:=yS rp rv;exact ZZ pins s σ H _ _ Q I rv ⟨v,n,rfl,FQ r p hn,xr af1 r (by simp only[Rep])⟩
noncomputable def tyD:D->Sto->Al CF
 |.non,_=>Ab "NoneType"
 |.bl _,_=>Ab "bool"
 |.int _,_=>Ab "int"
 |.str _,_=>Ab "str"
 |.tup _,_=>Ab "tuple"
 |.lst _,_=>Ab "list"
 |.dct0,_=>Ab "dict"
 |.loc i,S=>match S[i]? with
  |some (.lst _)=>Ab "list"
  |some (.dct _)=>Ab "dict"
  |_=>none
 |_,_=>none
noncomputable def wB (a b:CF):Ap:=a == b||(a == "bool" && b == "int")
noncomputable def vZ (b:CF):Ap:=b == "int" || b == "bool" || b == "tuple" || b == "list" || b == "str" || b == "dict"
noncomputable def FJ (a b:CF):Al Ap:=if (Ev a == Ev b)=true then Ab true else if PySem.W.kitMeta b=true then (fastBuiltinMro a).map (·.contains (.type b)) else none
noncomputable def tyL:Aa CF:=["NoneType","bool","int","str","tuple","list","dict"]
noncomputable def okL:Aa CF:=["int","bool","tuple","list","str","dict"]
theorem JD:(tyL.all λa=>okL.all λb=>decide (FJ a b=Ab (wB a b)))=true:=by decide +kernel
theorem MG {b:CF}(hb:vZ b=true):b∈okL:=by simpa [vZ,okL,or_assoc] using hb
theorem mO {K:Aj}{a b:CF}(ha:a∈tyL)(hb:vZ b=true):IB K (.type a) (.type b)=Ab (wB a b):=
 Bd (p:=FJ a b=Ab (wB a b)) (Bi.mp (Bi.mp JD a ha) b (MG hb))
noncomputable def zV:DF:=λds S=>match ds with
 |[d,.ty b]=>if vZ b then match tyD d S with
   |some a=>.ok (.bl (wB a b)) S
   |none=>.bad
  else .bad
 |_=>.bad
inductive TyV (X:Cx)(H:Hp)(v:V)(a:CF):Prop
 |of (t:TyOf X.K H v (.type a))
 |tup (p:Af) (vs:Aa V) (e:v=.ref p) (q:SqT X.K H p vs) (ea:a = "tuple")
 |lst (p:Af) (vs:Aa V) (e:v=.ref p) (q:SqL X.K H p vs) (ea:a = "list")
theorem sN {S:Sto}{a:CF}(h:tyD d S=Ab a):a∈tyL:=by
 cases d with
 |non=>cases h;exact .head _
 |bl b=>cases h;exact .tail _ (.head _)
 |int i=>cases h;exact .tail _ (.tail _ (.head _))
 |str x=>cases h;exact .tail _ (.tail _ (.tail _ (.head _)))
 |tup xs=>cases h;exact .tail _ (.tail _ (.tail _ (.tail _ (.head _))))
 |lst xs=>cases h;exact .tail _ (.tail _ (.tail _ (.tail _ (.tail _ (.head _)))))
 |dct0=>cases h;exact .tail _ (.tail _ (.tail _ (.tail _ (.tail _ (.tail _ (.head _))))))
 |loc i =>
  rcases mS (f:=λ_=>Ab "list") (g:=λ_=>Ab "dict") h with⟨_,_,h⟩|⟨_,_,h⟩
  .cases h;exact .tail _ (.tail _ (.tail _ (.tail _ (.tail _ (.head _)))))
  .cases h;exact .tail _ (.tail _ (.tail _ (.tail _ (.tail _ (.tail _ (.head _))))))
 |_=>exact nn h
theorem VN {H P:Hp}{α:Aa Af}{S:Sto}{a:CF}(r:Rel X.K H P α S)(p:Rep X.K P α d v)(h:tyD d S=Ab a):TyV X H v a:=by
 cases d with
 |non=>cases h;cases (show v=.non from p);exact .of .non
 |bl b=>cases h;cases (show v=.bl b from p);exact .of (.bl b)
 |int i=>cases h;cases (show v=.int i from p);exact .of (.int i)
 |str x=>cases h;cases (show v=.str x from p);exact .of (.str x)
 |tup xs =>
  cases h;simp only[Rep] at p;obtain⟨a,vs,e,q,t⟩:=p;exact .tup a vs e (xG r.sub q) rfl
 |lst xs =>
  cases h;simp only[Rep] at p;obtain⟨a,vs,e,q,t⟩:=p;exact .lst a vs e (xA r.sub q).l rfl
 |dct0 =>
  cases h;simp only[Rep] at p;obtain⟨a,rfl,q⟩:=p;exact .of (.dK (r.sub _ _ q))
 |loc i =>
  simp only[Rep] at p;obtain⟨a,rfl,q⟩:=p;rcases mS (f:=λ_=>Ab "list") (g:=λ_=>Ab "dict") h with⟨xs,hS,h⟩|⟨kvs,hS,h⟩
  .cases h
   obtain⟨vs,z,t⟩:=r.at' i a _ q hS;exact .of (.lst z)
  .cases h
   obtain⟨vs,z,t⟩:=r.at' i a _ q hS;exact .of (.dK z)
 |_=>exact nn h
inductive IsiV (ds:Aa D)(S:Sto):Prop
 |bad (e:zV ds S=.bad)
 |of (d:D) (b a:CF) (ed:ds=[d,.ty b]) (hb:vZ b=true) (ha:tyD d S=Ab a) (e:zV ds S=.ok (.bl (wB a b)) S)
theorem RN (ds:Aa D)(S:Sto):IsiV ds S:=by
 cases ds with
 |nil=>exact .bad rfl
 |cons d ds =>
  cases ds with
  |nil=>exact .bad rfl
  |cons e ds =>
   cases ds with
   |cons _ _=>cases e <;> exact .bad rfl
   |nil =>
    cases e with
    |ty b =>
     have z:zV [d,.ty b] S=if vZ b then (match tyD d S with|some a=>.ok (.bl (wB a b)) S|none=>.bad) else .bad:=rfl
     by_cases hb:vZ b=true
     .rw[AF hb] at z
      cases ha:tyD d S with
      |none=>rw[ha] at z;exact .bad z
      |some a=>rw[ha] at z;exact .of d b a rfl hb ha z
     .rw[AC hb] at z
      exact .bad z
    |_=>exact .bad rfl
theorem iT:wJ X (.builtin "isinstance") zV:=by
 intro pins σ H s P α S vs us ds Q I r rv rp af;cases RN ds S with
 |bad e=>rw[e] at af;exact An af
 |of d b a ed hb ha e =>
  subst ed;rw[e] at af;obtain⟨v,w,u,x,rfl,rfl,p,p',q,q'⟩:=pM rp rv;simp only[Rep] at p';subst p';cases (show x=Ev b from q')
  have kit:=mO (K:=X.K) (sN ha) hb;have fin:∀ tk,EP X pins σ Q (.bool (wB a b)) { s with toks:=tk }:=λtk=>⟨.bl _,H,I.tok tk,rfl,xr af r (by simp only[Rep])⟩
  cases VN r p ha with
  |of ht=>exact oM I q ht kit fin
  |tup p' ws e sq ea =>
   subst e ea;cases (show u=AU p' from q)
   obtain⟨its,rv',⟨o,h1,h2,_⟩,_⟩:=I.tuple sq;exact CG Jj I.kIn ⟨o,h1,h2⟩ kit (λz=>nomatch z) fin
  |lst p' ws e sq ea =>
   subst e ea;cases (show u=AU p' from q)
   obtain⟨its,rv',⟨o,_,h1,h2,_⟩,_⟩:=I.list sq;exact CG Hi I.kIn ⟨o,h1,h2⟩ kit (λz=>nomatch z) fin
noncomputable def x8:Aa D->Al (Aa Ap)
 |[]=>Ab []
 |.bl b::r=>(x8 r).map (b::·)
 |_=>none
theorem yL {P:Hp}{α:Aa Af}:∀ {ds:Aa D} {bs:Aa Ap} {vs:Aa V} {us:Aa Ac},x8 ds=Ab bs->qD X.K P α ds vs->qJ vs us->us=bs.map Dt
 |[],bs,vs,us,h,rp,rv=>by
  cases h;have:=rp.nil_inv;subst this;cases rv;rfl
 |d::ds,bs,vs,us,h,rp,rv=>by
  cases d with
  |bl b =>
   obtain⟨bs',q,rfl⟩:=Bn.mp (show (x8 ds).map (b::·)=Ab bs from h)
   obtain⟨w,ws,rfl,p,t⟩:=rp.cons_inv;simp only[Rep] at p;subst p;cases rv with
   |cons q1 q2 =>
    cases (show _=Dt b from q1)
    rw[yL q t q2];rfl
  |_=>exact nn h
noncomputable def j6 (any:Ap):DF:=λds S=>match ds with
 |[d]=>match (zW d).bind x8 with
  |some bs=>.ok (.bl (if any then bs.any id else bs.all id)) S
  |none=>.bad
 |_=>.bad
theorem nF (bs:Aa Ap):((Be bs.length).all λi=>bs.getD i false)=bs.all id:=by
 induction bs with
 |nil=>rfl
 |cons b bs ih =>
  rw[AO,HT,Kr,Jr,Kr,<- ih];rfl
theorem nG (bs:Aa Ap):((Be bs.length).any λi=>bs.getD i false)=bs.any id:=by
 induction bs with
 |nil=>rfl
 |cons b bs ih =>
  rw[AO,HT,Hz,List.any_map,Hz,<- ih];rfl
theorem oN {H:Hp}{o:AX}{h':AB}{tk:Ai}(I:Inv X pins σ H s)(k:∀ b ob,b ∉ [s.heap.objs.size]->(s.heap.push o).get? b=Ab ob->h'.get? b=Ab ob):Inv X pins σ H { s with heap:=h',toks:=tk }:=
 I.kept λb u e=>k b u (by simp;exact AZ (Az e)) (Ah _ e)
theorem uS {bs:Aa Ap}(hi:its=bs.map Dt){A:AK}:TruthOf X.prog X.w A (λi v=>its.toArray[i]? = Ab v) (λi=>bs.getD i false):=λi v s' Q' E' hv hQ=>by
 subst hi;have hv':(bs.map Dt)[i]? = Ab v:=by simpa using hv
 rw[By] at hv';cases e:bs[i]? with
 |none=>rw[e] at hv';exact nn hv'
 |some b =>
  rw[e] at hv';cases Bh hv';have:bs.getD i false=b:=by simp[IQ,e]
  have hQ':Q' (bs.getD i false) s':=hQ;rw[this] at hQ';exact Ub hQ'
theorem UV {any:Ap}{S:Sto}{P:Hp}{α:Aa Af}{Ok:D->Sto->Prop}(h:qG X P α (j6 any ds S) Ok):∃ d xs bs,ds=[d]/\ItV d xs/\x8 xs=Ab bs/\Ok (.bl (if any then bs.any id else bs.all id)) S:=by
 obtain⟨d,rfl,h1⟩:=dU (X:=X) (β:=D) (g:=λd=>match (zW d).bind x8 with|some bs=>.ok (D.bl (if any then bs.any id else bs.all id)) S|none=>.bad) h
 cases hb:(zW d).bind x8 with
 |none=>rw[hb] at h1;exact An h1
 |some bs =>
  rw[hb] at h1;obtain⟨xs,hx,hbs⟩:=Cn.mp hb;exact⟨d,xs,bs,rfl,itV hx,hbs,h1⟩
theorem PP (any:Ap)(hc:X.calm=true):wJ X (.builtin (if any then "any" else "all")) (j6 any):=by
 intro pins σ H s P α S vs us ds Q I r rv rp af;obtain⟨d,xs,bs,ed,hd,hbs,ok⟩:=UV af;clear af;subst ed;obtain⟨v,u,rfl,rfl,p,q⟩:=yS rp rv;clear rp;have fin:∀ {o:AX} (h':AB) (tk:Ai),(∀ b ob,b ∉ [s.heap.objs.size]->(s.heap.push o).get? b=Ab ob->h'.get? b=Ab ob)->EP X pins σ Q (.bool (if any then bs.any id else bs.all id)) { s with heap:=h',toks:=tk }:=
  λ{o} h' tk k=>⟨.bl _,H,oN I k,rfl,xr ok r (by simp only[Rep])⟩
 clear rv ok;have hh:X.A.in1.handled=none:=I.ok.hd hc;cases hd with
 |tup ed =>
  subst ed;obtain⟨a,ws,its,rfl,sq,t,rvi,ht,hl,_⟩:=uC I r p;cases (show u=AU a from q)
  have hi:=yL hbs t rvi;have hlen:its.toArray.size=bs.length:=by rw[hi];simp
  have hne:a≠s.heap.objs.size:=by obtain⟨o,e,_⟩:=ht;exact AZ (Az e)
  have W:=Yp (prog:=X.prog) (w:=X.w) hh s.heap.objs.size a hne its.toArray;have hT:∀ o,(s.heap.push o).IsTuple a its.toArray:=λo=>by obtain⟨o,e,c⟩:=ht;exact⟨o,Ah _ e,c⟩
  have ht':s.heap.IsTuple a its.toArray:=ht;cases any with
  |false =>
   refine call_all_walk (Eu ht' ⟨s.heap.objs.size,_,_,_,_,_,_,rfl,W,⟨⟨_,A7 _ rfl,rfl,rfl⟩,hT _⟩,uS hi,λh' tk k=>?_⟩);rw[hlen,nF];exact fin h' tk k
  |true =>
   refine call_any_walk (Eu ht' ⟨s.heap.objs.size,_,_,_,_,_,_,rfl,W,⟨⟨_,A7 _ rfl,rfl,rfl⟩,hT _⟩,uS hi,λh' tk k=>?_⟩);rw[hlen,nG];exact fin h' tk k
 |lst ed =>
  subst ed;obtain⟨a,ws,its,n,rfl,sq,t,rvi,ht,hl,_⟩:=yN I r p;cases (show u=AU a from q)
  have hL:s.heap.IsList a its.toArray:=⟨_,ht,rfl,n,rfl⟩;have hi:=yL hbs t rvi;have hlen:its.toArray.size=bs.length:=by rw[hi];simp
  have hne:a≠s.heap.objs.size:=AZ (Az ht);have W:=Yv (prog:=X.prog) (w:=X.w) hh s.heap.objs.size a hne its.toArray;have hL':∀ o,(s.heap.push o).IsList a its.toArray:=λo=>⟨_,Ah _ ht,rfl,n,rfl⟩;cases any with
  |false =>
   refine call_all_walk (Ei hL ⟨s.heap.objs.size,_,_,_,_,_,_,rfl,W,⟨⟨_,A7 _ rfl,rfl,rfl⟩,hL' _⟩,uS hi,λh' tk k=>?_⟩);rw[hlen,nF];exact fin h' tk k
  |true =>
   refine call_any_walk (Ei hL ⟨s.heap.objs.size,_,_,_,_,_,_,rfl,W,⟨⟨_,A7 _ rfl,rfl,rfl⟩,hL' _⟩,uS hi,λh' tk k=>?_⟩);rw[hlen,nG];exact fin h' tk k
noncomputable def a8:DF:=λds S=>match ds with
 |[.int i]=>.ok (.int i) S
 |[.bl b]=>.ok (.int (b01 b)) S
 |_=>.bad
inductive IntV (ds:Aa D)(S:Sto):Prop
 |bad (e:a8 ds S=.bad)
 |int (i:Am) (e:ds=[.int i])
 |bl (b:Ap) (e:ds=[.bl b])
theorem RK (ds:Aa D)(S:Sto):IntV ds S:=by
 cases ds with
 |nil=>exact .bad rfl
 |cons d ds =>
  cases ds with
  |cons _ _=>cases d <;> exact .bad rfl
  |nil =>
   cases d with
   |int i=>exact .int i rfl
   |bl b=>exact .bl b rfl
   |_=>exact .bad rfl
theorem PQ:wJ X (.type "int") a8:=by
 intro pins σ H s P α S vs us ds Q I r rv rp af;cases RK ds S with
 |bad e=>rw[e] at af;exact An af
 |int i e =>
  subst e;obtain⟨v,u,rfl,rfl,p,q⟩:=yS rp rv;exact tR pins s σ H _ _ Q I rv (.inl ⟨_,by rw[xP p],xr af r (by simp only[Rep])⟩)
 |bl b e =>
  subst e;obtain⟨v,u,rfl,rfl,p,q⟩:=yS rp rv;simp only[Rep] at p;subst p;exact tR pins s σ H _ _ Q I rv (.inr ⟨_,rfl,xr af r (by simp only[Rep];rfl)⟩)
noncomputable def vR:DF:=λds S=>match ds with
 |[d]=>match zW d with
  |some xs=>.ok (.tup xs) S
  |none=>.bad
 |_=>.bad
theorem X2:wJ X (.type "tuple") vR:=by
 intro pins σ H s P α S vs us ds Q I r rv rp af;obtain⟨d,rfl,af1⟩:=dU (X:=X) (β:=D) (g:=λd=>match zW d with|some xs=>.ok (D.tup xs) S|none=>.bad) af
 obtain⟨xs,hx,af2⟩:∃ xs,zW d=Ab xs/\OkV X P α Q (.tup xs) S:=by
  cases hx:zW d with
  |none=>rw[hx] at af1;exact An af1
  |some xs=>rw[hx] at af1;exact⟨xs,rfl,af1⟩
 obtain⟨v,u,rfl,rfl,p,q⟩:=yS rp rv;cases itV hx with
 |tup e =>
  subst e;have p0:=p;simp only[Rep] at p;obtain⟨a,ws,rfl,sq,t⟩:=p;exact kW pins s σ H _ _ Q I rv ⟨a,ws,rfl,.inr ⟨xG r.sub sq,xr af2 r p0⟩⟩
 |lst e =>
  subst e;simp only[Rep] at p;obtain⟨a,ws,rfl,sq,t⟩:=p;exact kW pins s σ H _ _ Q I rv ⟨a,ws,rfl,.inl ⟨(xA r.sub sq).l,λl hl=>u0 r hl t af2⟩⟩
noncomputable def pA:DF:=λds S=>match ds with
 |[d]=>match zW d with
  |some xs=>.ok (.lst xs) S
  |none=>.bad
 |_=>.bad
theorem VY:wJ X (.type "list") pA:=by
 intro pins σ H s P α S vs us ds Q I r rv rp af;obtain⟨d,rfl,af1⟩:=dU (X:=X) (β:=D) (g:=λd=>match zW d with|some xs=>.ok (D.lst xs) S|none=>.bad) af
 obtain⟨xs,hx,af2⟩:∃ xs,zW d=Ab xs/\OkV X P α Q (.lst xs) S:=by
  cases hx:zW d with
  |none=>rw[hx] at af1;exact An af1
  |some xs=>rw[hx] at af1;exact⟨xs,rfl,af1⟩
 obtain⟨v,u,rfl,rfl,p,q⟩:=yS rp rv;cases itV hx with
 |tup e =>
  subst e;simp only[Rep] at p;obtain⟨a,ws,rfl,sq,t⟩:=p;exact gD pins s σ H _ _ Q I rv ⟨a,ws,rfl,.inr (xG r.sub sq),λl hl=>wD r hl t af2⟩
 |lst e =>
  subst e;simp only[Rep] at p;obtain⟨a,ws,rfl,sq,t⟩:=p;exact gD pins s σ H _ _ Q I rv ⟨a,ws,rfl,.inl ((xA r.sub sq).l),λl hl=>wD r hl t af2⟩
end
section
variable {X:Cx}
structure ClsK (K:Aj)(cl:Aa Af):Prop where
 ex:∀ C∈cl,ExnK K C
 one:∀ C∈cl,∀ B∈cl,IB K (.ref C) (.ref B)=Ab (C == B)
 ve:∀ C∈cl,IB K (.ref C) (.type "ValueError")=Ab true
noncomputable def zQ (cl:Aa Af):DF:=λds S=>match ds with
 |[.exn (.ref C),.obj B]=>if cl.contains C&&cl.contains B then .ok (.bl (C == B)) S else .bad
 |[.exn (.ref C),.ty b]=>if cl.contains C&&(b == "ValueError") then .ok (.bl true) S else .bad
 |_=>zV ds S
theorem oD {H P:Hp}{α:Aa Af}{S:Sto}{C:Af}{u:Ac}(I:Inv X pins σ H s)(r:Rel X.K H P α S)(p:Rep X.K P α (.exn (.ref C)) v)(q:qK v u):∃ a,u=.ref a/\v9 a C s.heap:=by
 simp only[Rep] at p;obtain⟨a,rfl,z⟩:=p;obtain⟨y,_⟩:=I.hok a _ (r.sub _ _ z);exact⟨a,q,y⟩
inductive IsiE (cl:Aa Af)(ds:Aa D)(S:Sto):Prop
 |bad (e:zQ cl ds S=.bad)
 |old (e:zQ cl ds S=zV ds S)
 |obj (C B:Af) (ed:ds=[.exn (.ref C),.obj B]) (h1:C∈cl) (h2:B∈cl) (e:zQ cl ds S=.ok (.bl (C == B)) S)
 |ve (C:Af) (ed:ds=[.exn (.ref C),.ty "ValueError"]) (h1:C∈cl) (e:zQ cl ds S=.ok (.bl true) S)
theorem LJ (cl:Aa Af)(C:Af)(d:D)(S:Sto):IsiE cl [.exn (.ref C),d] S:=by
 cases d with
 |obj B =>
  have z:zQ cl [.exn (.ref C),.obj B] S=if (cl.contains C&&cl.contains B)=true then .ok (.bl (C == B)) S else .bad:=rfl
  by_cases h:(cl.contains C&&cl.contains B)=true
  .rw[AF h] at z
   have h':=Do.mp h;exact .obj C B rfl (Dx.mp h'.1) (Dx.mp h'.2) z
  .rw[AC h] at z
   exact .bad z
 |ty b =>
  have z:zQ cl [.exn (.ref C),.ty b] S=if (cl.contains C&&(b == "ValueError"))=true then .ok (.bl true) S else .bad:=rfl
  by_cases h:(cl.contains C&&(b == "ValueError"))=true
  .rw[AF h] at z
   have h':=Do.mp h;cases (OA.mp h'.2);exact .ve C rfl (Dx.mp h'.1) z
  .rw[AC h] at z
   exact .bad z
 |_=>exact .old rfl
theorem RM (cl:Aa Af)(ds:Aa D)(S:Sto):IsiE cl ds S:=by
 cases ds with
 |nil=>exact .old rfl
 |cons a ds =>
  cases a with
  |exn c =>
   cases c with
   |ref C =>
    cases ds with
    |nil=>exact .old rfl
    |cons b ds =>
     cases ds with
     |nil=>exact LJ cl C b S
     |cons _ _=>cases b <;> exact .old rfl
   |_=>exact .old rfl
  |_=>exact .old rfl
theorem VV {cl:Aa Af}(hK:ClsK X.K cl):wJ X (.builtin "isinstance") (zQ cl):=by
 intro pins σ H s P α S vs us ds Q I r rv rp af;cases RM cl ds S with
 |bad e=>rw[e] at af;exact An af
 |old e=>rw[e] at af;exact iT pins σ H s P α S vs us ds Q I r rv rp af
 |obj C B ed h1 h2 e =>
  rw[e] at af;subst ed;obtain⟨v,w,u,x,rfl,rfl,p,p',q,q'⟩:=pM rp rv;simp only[Rep] at p';obtain⟨rfl,_⟩:=p';cases (show x=AU B from q')
  obtain⟨a,rfl,ha⟩:=oD I r p q;exact CG (dF (hK.ex C h1)) I.kIn ha (hK.one C h1 B h2) (λz=>nomatch z) λtk=>⟨.bl _,H,I.tok tk,rfl,xr af r (by simp only[Rep])⟩
 |ve C ed h1 e =>
  rw[e] at af;subst ed;obtain⟨v,w,u,x,rfl,rfl,p,p',q,q'⟩:=pM rp rv;simp only[Rep] at p';subst p';cases (show x=Ev "ValueError" from q')
  obtain⟨a,rfl,ha⟩:=oD I r p q;exact CG (dF (hK.ex C h1)) I.kIn ha (hK.ve C h1) (λz=>nomatch z) λtk=>⟨.bl _,H,I.tok tk,rfl,xr af r (by simp only[Rep])⟩
def MtD (X:Cx)(id:CF)(g:D->Aa D->Sto->Res D):Prop:=
 ∀ (pins:Aa (Af × AX)) (σ : _L.St) (H:Hp) (s:Ag) (P:Hp) (α : Aa Af) (S:Sto) (v:V) (vv:Ac) (vs:Aa V) (us:Aa Ac) (a:D) (ds:Aa D) (Q:VK),Inv X pins σ H s->Rel X.K H P α S->qK v vv->Rep X.K P α a v->qJ vs us->qD X.K P α ds vs->qU X P α (g a ds S) Q ->
  Ao (Ar X.prog X.w) X.A (call (.builtin id) (vv::us)) (EP X pins σ Q) X.xe s
noncomputable def dBm (T:CF)(g:D->Aa D->Sto->Res D)(fo:DE)(fa:DA):DE:=λenv S=>(fo env S).bind λa S1=>if (tyD a S1 == Ab T)=true then (fa env S1).bind λds S2=>g a ds S2 else .bad
theorem N9 {H P:Hp}{α:Aa Af}{S:Sto}{a:D}{T:CF}(r:Rel X.K H P α S)(p:Rep X.K P α a v)(h:tyD a S=Ab T)(hT:T = "list" \/ T = "dict" \/ T = "int" \/ T = "str"):tyV X.K T v H:=by
 cases a with
 |int i=>cases h;simp only[Rep] at p;subst p;rfl
 |str x=>cases h;simp only[Rep] at p;subst p;rfl
 |lst xs =>
  cases h;simp only[Rep] at p;obtain⟨b,vs,rfl,q,t⟩:=p;exact .inl ⟨rfl,vs,(xA r.sub q).l⟩
 |dct0 =>
  cases h;simp only[Rep] at p;obtain⟨b,rfl,q⟩:=p;exact .inr (.inr (.inl ⟨rfl,.inl ⟨[],r.sub _ _ q⟩⟩))
 |loc i =>
  simp only[Rep] at p;obtain⟨b,rfl,q⟩:=p;rcases mS (f:=λ_=>Ab "list") (g:=λ_=>Ab "dict") h with⟨xs,hS,h⟩|⟨kvs,hS,h⟩
  .cases h
   obtain⟨vs,z,t⟩:=r.at' i b _ q hS;exact .inl ⟨rfl,vs,SqL.of z⟩
  .cases h
   obtain⟨vs,z,t⟩:=r.at' i b _ q hS;exact .inr (.inr (.inl ⟨rfl,.inl ⟨vs,z⟩⟩))
 |non=>cases h;exact absurd hT (by decide)
 |bl b=>cases h;exact absurd hT (by decide)
 |tup xs=>cases h;exact absurd hT (by decide)
 |_=>exact nn h
variable {o e:AM}{es:Aa AM}{fo:DE}{fa:DA}{name:As}{apos cpos:CN}{T id:CF}{g:D->Aa D->Sto->Res D}
theorem B5 {P:Hp}{α:Aa Af}{a:D}{S:Sto}{β:Type}{k:Res β}{Ok:β->Sto->Prop}(h:qG X P α (if (tyD a S == Ab T)=true then k else .bad) Ok):tyD a S=Ab T/\qG X P α k Ok:=by
 by_cases z:(tyD a S == Ab T)=true
 .rw[AF z] at h;exact⟨OA.mp z,h⟩
 .rw[AC z] at h;exact An h
theorem NT (pa:PlainAttrs T)(slot:Slot T name id)(hty:typeOf (.builtin id)=pure (.type "method_descriptor"))(hT:T = "list" \/ T = "dict" \/ T = "int" \/ T = "str")(hm:MtD X id g)(ho:PE X o (tD X fo))(ha:PA X (e::es) (tDA X fa))
  (hbase:attributeBase o name X.env (eval o X.env)=eval o X.env:=by rfl)
  (hfew:((Di cpos (Ay (e::es) X.env)).all (λx=>!x.1)&&(backToKw cpos (keywordEach [] X.env)).all (λx=>x.1.isSome)
   && decide ((e::es).length+([]:Aa Xn).length+(if ([] : Aa Xn).isEmpty then 0 else 1)<30))=true:=by rfl)
  (hline:(apos.endLine == cpos.line)=true:=by rfl) (hs:Ay (e::es) X.env=(false,eval e X.env)::Ay es X.env:=by rfl) (hplain:(Di cpos (Ay es X.env)).any (·.1)=false:=by rfl) :
  PE X (.Call (.Attribute o name apos) (e::es) [] cpos) (tD X (dBm T g fo fa)):=by
 intro pins s σ H Q I h;obtain⟨P,α,env,S,r,re,af⟩:=h;refine wpAny_Call_method_late hbase hfew hline rfl (thn (zS ho I r re af) λvv s1 ⟨v,H1,P1,α1,d,S1,G1,af1⟩=>?_);obtain⟨ht,af2⟩:=B5 af1;obtain⟨h1,h2⟩:=N8 G1.inv G1.val (N9 G1.rel G1.rep ht hT);refine⟨T,id,pa,slot,hty,h1,h2,?_⟩;have hA:=xS ha G1.inv G1.rel G1.env (P:=P1) (α:=α1) (Ok:=OkV X P1 α1 Q) (qU.base G1.same G1.pre (r:=(fa env S1).bind λds S2=>g d ds S2) af2) cpos;rw[hs] at hA ⊢;refine Calls.callWith_builtin (by show (false||(Di cpos (Ay es X.env)).any (·.1))=false;rw[hplain] <;> rfl) (Re ?_)
 exact thn hA λus s2 ⟨vs,H2,P2,α2,ds,S2,I2,rv,r2,re2,rp2,e1,e2,af3⟩=>hm pins σ H2 s2 P2 α2 S2 v vv vs us d ds Q I2 r2 G1.val (Rep.mono e1 e2 _ _ G1.rep) rv rp2 (qU.base e1 e2 af3)
noncomputable def yZ:D->Aa D->Sto->Res D:=λa ds S=>match a,ds with
 |.loc i,[d]=>match S[i]? with
  |some (.lst xs)=>if xs.length<lim then .ok .non (S.set i (.lst (xs++[d]))) else .bad
  |_=>.bad
 |_,_=>.bad
inductive ApV (a:D)(ds:Aa D)(S:Sto):Prop
 |bad (e:yZ a ds S=.bad)
 |of (i:Ai) (d:D) (xs:Aa D) (ea:a=.loc i) (ed:ds=[d]) (hS:S[i]? = Ab (.lst xs)) (hl:xs.length<lim) (e:yZ a ds S=.ok .non (S.set i (.lst (xs++[d]))))
theorem apV (a:D)(ds:Aa D)(S:Sto):ApV a ds S:=by
 cases a with
 |loc i =>
  cases ds with
  |nil=>exact .bad rfl
  |cons d ds =>
   cases ds with
   |cons _ _=>exact .bad rfl
   |nil =>
    have z:yZ (.loc i) [d] S=(match S[i]? with|some (.lst xs)=>(if xs.length<lim then .ok .non (S.set i (.lst (xs++[d]))) else .bad)|_=>.bad):=rfl
    cases hS:S[i]? with
    |none=>rw[hS] at z;exact .bad z
    |some m =>
     rw[hS] at z;cases m with
     |lst xs =>
      by_cases hl:xs.length<lim
      .exact .of i d xs rfl rfl hS hl (z.trans (AF hl))
      .exact .bad (z.trans (AC hl))
     |_=>exact .bad z
 |_=>exact .bad rfl
theorem Q0:MtD X "list.append" yZ:=by
 intro pins σ H s P α S v vv vs us a ds Q I r rv p rvs rps af;cases apV a ds S with
 |bad e=>rw[e] at af;exact An af
 |of i d xs ea ed hS hl e =>
  rw[e] at af;subst ea ed;obtain⟨w,u,rfl,rfl,p',q'⟩:=yS rps rvs;simp only[Rep] at p;obtain⟨b,rfl,q⟩:=p;obtain⟨ws,z,t⟩:=r.at' i b _ q hS;refine Q3 pins s σ H (.ref b) [w] vv [u] Q I rv (.cons q' .nil) ⟨b,ws,w,rfl,rfl,z,by rw[<- t.length,<- zX];exact hl,?_⟩
  exact xr af (r.put (m':=.lst (xs++[d])) q hS (by intro z;cases z) ⟨ws++[w],qV,t.append (.cons p' .nil)⟩) (by simp only[Rep])
end
noncomputable def mM:D->Al Key
 |.int i=>Ab (.inl i)
 |.str x=>Ab (.inr x)
 |_=>none
noncomputable def ED (kvs:Aa (Key × D))(k:Key):Al D:=(kvs.find? λkv=>decide (kv.1=k)).map (·.2)
noncomputable def mX (kvs:Aa (Key × D))(k:Key)(v:D):Aa (Key × D):=
 if (kvs.any λkv=>decide (kv.1=k))=true then kvs.map (λkv=>if kv.1=k then (kv.1,v) else kv) else kvs++[(k,v)]
section
variable {K:Aj}{P:Hp}{α : Aa Af}
theorem JG {vs:Aa (Key × V)}(r:KVs K P α kvs vs):kvs.length=vs.length:=Paired.length r
theorem JE {k:Key}{vs:Aa (Key × V)}(h:KVs K P α kvs vs):(kvs.any λkv=>decide (kv.1=k))=(vs.any λkv=>decide (kv.1=k)):=by
 induction h with
 |nil=>rfl
 |cons z t ih=>rw[Hz,Hz,ih,z.1]
theorem JH {k:Key}(q:Rep K P α d v){kvs:Aa (Key × D)}{vs:Aa (Key × V)}(h:KVs K P α kvs vs):KVs K P α (kvs.map λkv=>if kv.1=k then (kv.1,d) else kv) (vs.map λkv=>if kv.1=k then (kv.1,v) else kv):=by
 induction h with
 |nil=>exact .nil
 |cons z t ih =>
  rw[Ce,Ce];refine .cons ?_ ih;rw[<- z.1]
  split
  .exact⟨rfl,q⟩
  .exact z
theorem JF {k:Key}(q:Rep K P α d v){kvs:Aa (Key × D)}{vs:Aa (Key × V)}(h:KVs K P α kvs vs):KVs K P α (kvs++[(k,d)]) (vs++[(k,v)]):=by
 induction h with
 |nil=>exact .cons ⟨rfl,q⟩ .nil
 |cons z t ih=>exact .cons z ih
theorem JI {k:Key}(q:Rep K P α d v){kvs:Aa (Key × D)}{vs:Aa (Key × V)}(r:KVs K P α kvs vs):KVs K P α (mX kvs k d) (yQ vs k v):=by
 unfold mX yQ;rw[JE r]
 split
 .exact JH q r
 .exact JF q r
theorem FE {k:Key}(h:mM d=Ab k)(r:Rep K P α d v):v=kV k:=by
 cases d with
 |int i=>cases h;simp only[Rep] at r;exact r
 |str x=>cases h;simp only[Rep] at r;exact r
 |_=>cases h
end
section
variable {X:Cx}{o i e:AM}{pos:CN}{fo fi:DE}
noncomputable def nV:DE:=λ_ S=>.ok .dct0 S
theorem U9:PE X (.Dict [] [] pos) (tD X nV):=by
 refine peW WT λσ H Q ⟨P,α,env,S,r,re,af⟩ p hp=>?_;obtain⟨r1,e1⟩:=r.pure (o:=.dK []) hp;refine af _ _ _ α r1 e1 (AA _) ?_;simp only[Rep];exact⟨p,rfl,qV⟩
noncomputable def vA:G3:=λo i d S=>match o with
 |.loc n=>match S[n]? with
  |some (.dct kvs)=>match mM i with
   |some k=>if kvs.length<lim then .ok () (S.set n (.dct (mX kvs k d))) else .bad
   |none=>.bad
  |_=>mI o i d S
 |_=>mI o i d S
inductive Set2V (a b d:D)(S:Sto):Prop
 |bad (e:vA a b d S=.bad)
 |old (e:vA a b d S=mI a b d S)
 |of (n:Ai) (kvs:Aa (Key × D)) (k:Key) (ea:a=.loc n) (hS:S[n]? = Ab (.dct kvs)) (hk:mM b=Ab k) (hl:kvs.length<lim) (e:vA a b d S=.ok () (S.set n (.dct (mX kvs k d))))
theorem S9 (a b d:D)(S:Sto):Set2V a b d S:=by
 cases a with
 |loc n =>
  have z:vA (.loc n) b d S=(match S[n]? with|some (.dct kvs)=>(match mM b with|some k=>(if kvs.length<lim then .ok () (S.set n (.dct (mX kvs k d))) else .bad)|none=>.bad)|_=>mI (.loc n) b d S):=rfl
  cases hS:S[n]? with
  |none=>rw[hS] at z;exact .old z
  |some m =>
   rw[hS] at z;cases m with
   |dct kvs =>
    cases hk:mM b with
    |none=>rw[hk] at z;exact .bad z
    |some k =>
     rw[hk] at z;by_cases hl:kvs.length<lim
     .exact .of n kvs k rfl hS hk hl (z.trans (AF hl))
     .exact .bad (z.trans (AC hl))
   |_=>exact .old z
 |_=>exact .old rfl
theorem N0 (hu:X.A.units+1<Ee):lC X (l9 X vA):=by
 intro pins s σ H o i v ov iv u Q I ro ri rv h;obtain⟨P,α,S,a,b,d,r,pa,pb,pd,af⟩:=h;cases S9 a b d S with
 |bad e=>rw[e] at af;exact An af
 |old e =>
  rw[e] at af;exact SA pins s σ H o i v ov iv u Q I ro ri rv ⟨P,α,S,a,b,d,r,pa,pb,pd,af⟩
 |of n kvs k ea hS hk hl e =>
  rw[e] at af;subst ea;simp only[Rep] at pa;obtain⟨p,rfl,q⟩:=pa;obtain⟨vs,z,t⟩:=r.at' n p _ q hS;cases FE hk pb;cases (show ov=AU p from ro)
  refine o3 hu I (fV.k (v:=v) z (by rw[<- JG t,<- zX];exact hl)) ri rv λs' I'=>⟨_,I',?_⟩
  exact af _ P α (r.put (m':=.dct (mX kvs k d)) q hS (by intro z;cases z) ⟨_,qV,JI pd t⟩) (qF.refl _) (AA _)
noncomputable def HG:D->Aa D->Sto->Res D:=λa ds S=>match a,ds with
 |.loc n,[i,x]=>match S[n]? with
  |some (.dct kvs)=>match mM i with
   |some k=>.ok ((ED kvs k).getD x) S
   |none=>.bad
  |_=>.bad
 |_,_=>.bad
noncomputable def bV:D->Aa D->Sto->Res D:=λa ds S=>match a,ds with
 |.lst xs,[.bl k]=>match x8 xs with
  |some bs=>.ok (.int (bs.countP (· == k):Ai)) S
  |none=>.bad
 |_,_=>.bad
noncomputable def mK (k:Ap):Aa Ap->Al Ai
 |[]=>none
 |b::r=>if b=k then Ab 0 else (mK k r).map (· + 1)
noncomputable def bW:D->Aa D->Sto->Res D:=λa ds S=>match a,ds with
 |.lst xs,[.bl k]=>match (x8 xs).bind (mK k) with
  |some j=>.ok (.int j) S
  |none=>.bad
 |_,_=>.bad
theorem lY (k:Ap){bs:Aa Ap}{y:Ac}(hy:y∈(bs.map Dt).toArray):Yj y (.bool k) (Pb k y):=by
 have hy':y∈bs.map Dt:=by rwa [List.mem_toArray] at hy
 obtain⟨b,_,rfl⟩:=Bl.mp hy';exact λprog w A E s Q h=>Xd b k prog w E Q h
theorem sY (k:Ap)(bs:Aa Ap):(bs.map Dt).countP (Pb k)=bs.countP (· == k):=by
 rw[List.countP_map];rfl
theorem iK {β:Type}{r:Res β}{P:Hp}{α:Aa Af}{Ok:β->Sto->Prop}(e:r=.bad)(h:qG X P α r Ok):CP:=by
 rw[e] at h;exact h
inductive BlV (a:D)(ds:Aa D):Prop
 |no (h:∀ (g:Aa D->Ap->Res D),(match a,ds with|.lst xs,[.bl k]=>g xs k|_,_=>.bad)=.bad)
 |of (xs:Aa D) (k:Ap) (ea:a=.lst xs) (ed:ds=[.bl k])
theorem blV (a:D)(ds:Aa D):BlV a ds:=by
 cases a with
 |lst xs =>
  cases ds with
  |nil=>exact .no λ_=>rfl
  |cons d ds =>
   cases ds with
   |cons _ _=>cases d <;> exact .no λ_=>rfl
   |nil =>
    cases d with
    |bl k=>exact .of xs k rfl rfl
    |_=>exact .no λ_=>rfl
 |_=>exact .no λ_=>rfl
theorem WG:MtD X "list.count" bV:=by
 intro pins σ H s P α S v vv vs us a ds Q I r rv p rvs rps af;cases blV a ds with
 |no h=>exact(iK (X:=X) (r:=bV a ds S) (h _) af).elim
 |of xs k ea ed =>
  subst ea ed;have af:qG X P α (match x8 xs with|some bs=>Res.ok (D.int (bs.countP (· == k):Ai)) S|none=>.bad) (OkV X P α Q):=af
  cases hb:x8 xs with
  |none=>rw[hb] at af;exact An af
  |some bs =>
   rw[hb] at af;obtain⟨vx,ux,rfl,rfl,px,qx⟩:=yS rps rvs;simp only[Rep] at px;subst px;cases (show ux=Dt k from qx)
   obtain⟨b,ws,its,n,rfl,sq,t,rvi,ht,hl,_⟩:=yN I r p;cases (show vv=AU b from rv)
   have hi:=yL hb t rvi;subst hi;refine Mb OI ⟨_,ht,rfl⟩ PySem.F.entry_list_count (PySem.F.args_list_count_2 _ _) (PySem.SeqAt.list_countAt b (bs.map Dt).toArray n none #[] (.bool k) (Pb k)) ⟨ht,λy hy=>(lY k hy).at _ _,?_⟩;refine⟨.int _,H,I.tok _,⟨_,rfl⟩,?_⟩;rw[show (bs.map Dt).toArray.toList=bs.map Dt from rfl,sY]
   exact xr af r (by simp only[Rep])
theorem rX {k:Ap}:∀ {bs:Aa Ap} {j:Ai},mK k bs=Ab j->∃ h:j<bs.length,bs[j]=k/\∀ m (hm:m<bs.length),m<j->bs[m]≠k
 |[],j,h=>by cases h
 |b::r,j,h=>by
  unfold mK at h;by_cases hb:b=k
  .rw[AF hb] at h
   cases h;exact⟨by simp,by simpa using hb,λm hm z=>absurd z (Nat.not_lt_zero _)⟩
  .rw[AC hb] at h
   obtain⟨i,hi,rfl⟩:=Bn.mp h;obtain⟨h1,h2,h3⟩:=rX hi;refine⟨by simp;lia,by simpa using h2,λm hm hl=>?_⟩
   cases m with
   |zero=>simpa using hb
   |succ m=>simpa using h3 m (by simp at hm;lia) li
theorem WH:MtD X "list.index" bW:=by
 intro pins σ H s P α S v vv vs us a ds Q I r rv p rvs rps af;cases blV a ds with
 |no h=>exact(iK (X:=X) (r:=bW a ds S) (h _) af).elim
 |of xs k ea ed =>
  subst ea ed;have af:qG X P α (match (x8 xs).bind (mK k) with|some j=>Res.ok (D.int j) S|none=>.bad) (OkV X P α Q):=af
  cases hj:(x8 xs).bind (mK k) with
  |none=>rw[hj] at af;exact An af
  |some j =>
   rw[hj] at af;obtain⟨bs,hb,hi⟩:=Cn.mp hj;obtain⟨vx,ux,rfl,rfl,px,qx⟩:=yS rps rvs;simp only[Rep] at px;subst px;cases (show ux=Dt k from qx)
   obtain⟨b,ws,its,n,rfl,sq,t,rvi,ht,hl,hz⟩:=yN I r p;cases (show vv=AU b from rv)
   have hi':=yL hb t rvi;subst hi';obtain⟨h1,h2,h3⟩:=rX hi;have hlen:bs.length<=sizeLine:=by
    have e1:=t.length;have e2:=rvi.length;rw[A4] at e2;rw[zX] at hz
    lia
   refine Mb OJ ⟨_,ht,rfl⟩ PySem.F.entry_list_index (PySem.F.args_list_index_2 _ _) (Xo b (bs.map Dt).toArray n (.bool k) (Pb k) (λy hy=>lY k hy) j (by simpa using h1) ?_ ?_ ?_) ⟨ht,?_⟩
   .rw[Dj] at hlen;lia
   .simp[Pb,h2]
   .intro m hm hl'
    have hm':m<bs.length:=by simpa using hm
    have:=h3 m hm' hl';simp[Pb,this]
   .exact⟨.int _,H,I.tok _,⟨_,rfl⟩,xr af r (by simp only[Rep])⟩
end
noncomputable def k9 (S:Sto):Sto:=S.map λ_=>.dead
noncomputable def YV:D->Ap
 |.non=>true
 |.bl _=>true
 |.int _=>true
 |.str _=>true
 |_=>false
noncomputable def mapO {β γ:Type}(f:β->Al γ) : Aa β -> Al (Aa γ)
 |[]=>Ab []
 |b::r=>match f b,mapO f r with
  |some c,Ab cs=>Ab (c::cs)
  |_,_=>none
noncomputable def yT:Ai->Sto->D->Al D
 |n+1,S,.tup xs=>(mapO (yT n S) xs).map .tup
 |n+1,S,.lst xs=>(mapO (yT n S) xs).map .lst
 |n+1,S,.loc i=>match S[i]? with
  |some (.lst xs)=>(mapO (yT n S) xs).map .lst
  |_=>none
 |_,_,.non=>Ab .non
 |_,_,.bl b=>Ab (.bl b)
 |_,_,.int i=>Ab (.int i)
 |_,_,.str x=>Ab (.str x)
 |_,_,.ty n=>Ab (.ty n)
 |_,_,.obj a=>Ab (.obj a)
 |_,_,.dct0=>Ab .dct0
 |_,_,.exn c=>Ab (.exn c)
 |_,_,_=>none
noncomputable def yY (H P:Hp)(α : Aa Af):Hp:=λb=>if (P b).isSome then P b else if b∈α then H b else none
section
variable {K:Aj}{H P:Hp}{α : Aa Af}{S:Sto}
theorem vS (H P:Hp)(α : Aa Af):qF P (yY H P α):=λb o e=>by
 unfold yY;rw[e];rfl
theorem XW (r:Rel K H P α S):qF (yY H P α) H:=λb o e=>by
 unfold yY at e
 split at e
 .exact r.sub b o e
 .split at e
  .exact e
  .cases e
theorem mG {a:Af}(h:P a=none)(ha:a∈α):yY H P α a=H a:=by
 unfold yY;rw[h];simp[ha]
theorem Rel.frz (r:Rel K H P α S):Rel K H (yY H P α) α (k9 S) where
 tb:=r.tb.keep (λ_ _ q _=>q) λb u q _ p n=>⟨by unfold yY;rw[p];simp[n],n⟩
 sub:=XW r
 len:=by rw[r.len];simp[k9]
 nd:=r.nd
 sep:=λi a o h1 h2 h3=>by
  unfold k9 at h2;rw[By] at h2;cases q:S[i]? with
  |none=>rw[q] at h2;cases h2
  |some m=>rw[q] at h2;cases h2;exact absurd rfl h3
 at':=λi a o h1 h2=>by
  unfold k9 at h2;rw[By] at h2;cases q:S[i]? with
  |none=>rw[q] at h2;cases h2
  |some m=>rw[q] at h2;cases h2;trivial
 own:=r.own
theorem Rel.unfrz {H' P1:Hp}{α1:Aa Af}{S1:Sto}(r:Rel K H P α S)(r1:Rel K H' P1 α1 S1)(e:qF (yY H P α) P1):Rel K H' P α S:=by
 have mem:∀ i a,α[i]? = Ab a->a∈α:=λi a h=>AQ h;have kp:∀ (i:Ai) (a:Af) (o:MO) (u:HO),α[i]? = Ab a->S[i]? = Ab o->o≠MO.dead->H a=Ab u->H' a=Ab u:=λi a o u h1 h2 h3 h4 =>
  r1.sub a u (e a u (by rw[mG (r.sep i a o h1 h2 h3) (mem i a h1)];exact h4))
 refine⟨λx hx c T h=>let ⟨ps,e,_,_,ok,cd⟩:=r1.tb x hx c T h;let ⟨_,_,pn,an,_,_⟩:=r.tb x hx c T h;⟨ps,e,pn,an,ok,cd⟩,(vS H P α).trans (e.trans r1.sub),r.len,r.nd,r.sep,λi a o h1 h2=>?_,λi a h1=>?_⟩
 .have m:=r.at' i a o h1 h2
  cases o with
  |dead=>trivial
  |lst ds=>obtain⟨vs,q,t⟩:=m;exact⟨vs,kp i a _ _ h1 h2 (by intro z;cases z) q,t⟩
  |dct kvs=>obtain⟨vs,q,t⟩:=m;exact⟨vs,kp i a _ _ h1 h2 (by intro z;cases z) q,t⟩
  |ins C fs=>obtain⟨dx,vs,q,t⟩:=m;exact⟨dx,vs,kp i a _ _ h1 h2 (by intro z;cases z) q,t⟩
 .have h:=r.own i a h1
  cases q:H a with
  |none=>exact absurd q h
  |some u =>
   have z:∃ u',yY H P α a=Ab u':=by
    cases q2:P a with
    |none=>exact⟨u,by rw[mG q2 (mem i a h1)];exact q⟩
    |some u'=>exact⟨u',vS H P α a u' q2⟩
   obtain⟨u',z⟩:=z;rw[r1.sub a u' (e a u' z)];intro w;cases w
set_option tactic.hygienic true in
theorem qD.mapO {f:D->Al D}{P':Hp}(h:∀ d t v,f d=Ab t->Rep K P α d v->Rep K P' α t v):∀ {ds ts:Aa D} {vs:Aa V},_D.mapO f ds=Ab ts->qD K P α ds vs->qD K P' α ts vs
 |[],ts,vs,e,r=>by cases e;rw[r.nil_inv];exact .nil
 |d::ds,ts,vs,e,r=>by
  obtain⟨w,ws,rfl,r1,r2⟩:=r.cons_inv;unfold _D.mapO at e
  split at e
  .rename_i c cs h1 h2
   cases e;exact .cons (h d c w h1 r1) (qD.mapO h h2 r2)
  .cases e
theorem G9 (r:Rel K H P α S):∀ (n:Ai) (d t:D) (v:V),yT n S d=Ab t->Rep K P α d v->Rep K (yY H P α) α t v:=by
 have mono:∀ (d:D) (v:V),Rep K P α d v->Rep K (yY H P α) α d v:=λd v=>Rep.mono (vS H P α) (AA _) d v;intro n
 induction n with
 |zero =>
  intro d t v h p;cases d <;> first|(cases h;exact mono _ _ p)|exact nn h
 |succ n ih =>
  intro d t v h p;cases d with
  |tup xs =>
   obtain⟨ts,h1,rfl⟩:=Bn.mp h;simp only[Rep] at p ⊢;obtain⟨a,vs,rfl,q,t⟩:=p;exact⟨a,vs,rfl,yE (vS H P α) q,qD.mapO (λd t v=>ih d t v) h1 t⟩
  |lst xs =>
   obtain⟨ts,h1,rfl⟩:=Bn.mp h;simp only[Rep] at p ⊢;obtain⟨a,vs,rfl,q,t⟩:=p;exact⟨a,vs,rfl,xA (vS H P α) q,qD.mapO (λd t v=>ih d t v) h1 t⟩
  |loc i =>
   have h:(match S[i]? with|some (.lst xs)=>(_D.mapO (yT n S) xs).map D.lst|_=>none)=Ab t:=h
   cases hS:S[i]? with
   |none=>rw[hS] at h;exact nn h
   |some m =>
    rw[hS] at h;cases m with
    |lst xs =>
     obtain⟨ts,h1,rfl⟩:=Bn.mp h;simp only[Rep] at p ⊢;obtain⟨a,rfl,q⟩:=p;obtain⟨vs,z,t⟩:=r.at' i a _ q hS;refine⟨a,vs,rfl,.inl (.inl ?_),qD.mapO (λd t v=>ih d t v) h1 t⟩;rw[mG (r.sep i a _ q hS (by intro z;cases z)) (AQ q)]
     exact z
    |_=>exact nn h
  |fd ks ds=>exact nn h
  |clo a vs ds=>exact nn h
  |_=>cases h;exact mono _ _ p
theorem ZW {P':Hp}{α':Aa Af}(h:YV d=true)(p:Rep K P α d v):Rep K P' α' d v:=by
 cases d with
 |non=>simpa only [Rep] using p
 |bl b=>simpa only [Rep] using p
 |int i=>simpa only [Rep] using p
 |str x=>simpa only [Rep] using p
 |_=>cases h
end
noncomputable def lV:Ai:=20
noncomputable def aK (r:Res D)(S:Sto):Res D:=match r with
 |.ok d _=>if YV d then .ok d S else .bad
 |_=>.bad
theorem aM {X:Cx}{H P:Hp}{α:Aa Af}{S:Sto}{r:Res D}(rl:Rel X.K H P α S)(af:qU X P α (aK r S) Q):qU X (yY H P α) α r Q:=by
 cases r with
 |ok d S' =>
  obtain⟨ha,af⟩:=xZ (X:=X) af;exact λv H' P' α' r' e1 e2 rp=>af v H' P α (rl.unfrz r' e1) (qF.refl _) (AA _) (ZW ha rp)
 |ex c x S'=>exact An af
 |bad=>exact An af
section
variable {X:Cx}
noncomputable def uN (F:DF):DF:=λds S=>match mapO (yT lV S) ds with
 |some ts=>aK (F ts (k9 S)) S
 |none=>.bad
variable {cm:Ap}{k:Ai}{f:Af}{fd:Dq}{ps:Aa As}{F:DF}{x:As}{p pos:CN}{e:AM}{es:Aa AM}{fa:DA}{n:Ai}
set_option tactic.hygienic true in
theorem X9 (G:FnX X.prog X.w X.K X.mg X.base cm k f fd ps (spD X.K n F))(hr:RoomC cm k X.A)(hF:Fn1 X)(hg:Gl X x)(hm:X.mg x=Ab (.ref f))(hk:CJ X.K (.ref f)=true)(hb:yJ X.K fd ps [])
  (ha:PA X (e::es) (tDA X fa)) (hdb:(x == ("__debug__" : As))=false:=by decide) (he:Ay (e::es) X.env=(false,eval e X.env)::Ay es X.env:=by rfl) (hpl:(Di pos (Ay es X.env)).any (·.1)=false:=by rfl) :
  PE X (.Call (.Name x p) (e::es) [] pos) (tD X (qR n (uN F) fa)):=by
 intro pins s σ H Q I h;obtain⟨P,α,env,S,r,re,af⟩:=h;refine CW (v3 I hg hm ?_ hdb);refine Hv (h₀:=X.base) I.ok.mod.kin hk (thn (xS ha I r re af pos) λus s1 ⟨vs,H1,P1,α1,ds,S1,I1,rv,r1,re1,rp,e1,e2,af1⟩=>⟨I1.kIn,?_⟩) he hpl;obtain⟨hn,af2⟩:=gM (env:=env) (S:=S) af1;have af3:=qU.base e1 e2 af2;unfold uN at af3
 split at af3
 .rename_i ts ht
  have rp':=qD.mapO (λd t v=>G9 r1 lV d t v) ht rp;have hl:ts.length=n:=by rw[rp'.length,<- rp.length];exact hn
  exact t9 G hr hb hF I1 r1.frz rv rp' hl (aM r1 af3)
 .exact An af3
end
section
variable {X:Cx}{a b c e:AM}{pos:CN}{fa fe:DE}
noncomputable def HX (i:Ai)(g:G2)(fe:DE):DS:=λenv S=>match env[i]? with
 |some (Ab x)=>(fe env S).toS env λy S1=>(g x y S1).toS env λz S2=>.nx (env.set i (Ab z)) S2
 |_=>.bad
noncomputable def zO (xs:Aa D)(lo hi:Al Am):Aa D:=(xs.drop (_H.sIx xs.length 0 lo)).take (_H.sIx xs.length xs.length hi-_H.sIx xs.length 0 lo)
abbrev DO:=qE->Sto->Res (Al Am)
def OkO (X:Cx)(P:Hp)(α : Aa Af)(Q:Al Am->Hp->Prop)(o:Al Am)(S':Sto):Prop:=∀ H' P' α',Rel X.K H' P' α' S'->qF P P'->α<+:α'->Q o H'
def tDO (X:Cx)(f:DO):TO:=λσ H Q=>∃ P α env S,Rel X.K H P α S/\qY X.K P α σ env/\qG X P α (f env S) (OkO X P α Q)
noncomputable def zH:DO:=λ_ S=>.ok none S
noncomputable def zA (f:DE):DO:=λenv S=>(f env S).bind λd S1=>match d with
 |.int i=>.ok (Ab i) S1
 |_=>.bad
theorem UK:PO X none (tDO X zH):=λpins s σ H Q I ⟨P,α,env,S,r,re,af⟩=>KB pins s σ H Q I (af H P α r (qF.refl _) (AA _))
theorem UL (he:PE X e (tD X fe)):PO X (Ab e) (tDO X (zA fe)):=by
 intro pins s σ H Q I h;obtain⟨P,α,env,S,r,re,af⟩:=h;refine KC (te:=tD X fe) he pins s σ H Q I ⟨P,α,env,S,r,re,?_⟩;have af':qG X P α ((fe env S).bind λd S1=>match d with|.int i=>.ok (Ab i) S1|_=>.bad) (OkO X P α Q):=af
 cases q:fe env S with
 |bad=>rw[q] at af';exact af'
 |ex c x S'=>rw[q] at af';exact af'
 |ok d S1 =>
  rw[q] at af';intro v H1 P1 α1 r1 e1 e2 rp;cases d with
  |int i=>exact⟨i,xP rp,af' H1 P1 α1 r1 e1 e2⟩
  |_=>exact An af'
theorem qD.cut {K:Aj}{P:Hp}{α:Aa Af}(r:qD K P α ds vs)(lo hi:Al Am):qD K P α (zO ds lo hi) (gH vs lo hi):=by
 unfold zO gH;rw[r.length];exact(r.drop _).take _
noncomputable def gSl (d:D)(lo hi:Al Am)(S:Sto):Res D:=match d with
 |.lst xs=>.ok (.lst (zO xs lo hi)) S
 |.loc i=>match S[i]? with
  |some (.lst xs)=>.ok (.lst (zO xs lo hi)) S
  |_=>.bad
 |.tup xs=>.ok (.tup (zO xs lo hi)) S
 |_=>.bad
noncomputable def dSl (fe:DE)(fl fh:DO):DE:=λenv S=>(fe env S).bind λd S1=>(fl env S1).bind λlo S2=>(fh env S2).bind λhi S3=>gSl d lo hi S3
end
end _D
namespace _D
open PySem PySem.Spec PyProof.Rows _L _H
section
variable {prog:A5}{w:AL}{A:AK}{E:Ac->Ag->Prop}{s:Ag}
theorem kZ {t sl:Af}{items:Aw Ac}{vl vu:Ac}{lo hi:Al Am}{Q:Ac->Ag->Prop}(ht:Ps s.heap t items)(hs:s.heap.IsSliceOf sl vl vu .none)(pl:Nh vl lo)(pu:Nh vu hi)
  (hw:sIx items.size 0 lo=0/\sIx items.size items.size hi=items.size) (h:Q (.ref t) s):Ao (Ar prog w) A (Km (.ref t) (.ref sl)) Q E s:=by
 obtain⟨ob,hob,hcb,_⟩:=id hs;have hTs:s.TypeIs (.ref sl) "slice":=⟨ob,hob,hcb⟩;unfold Km
 try with_reducible refine Cu ?_
 first|refine Ad (Ak ?_)|skip
 refine Ad (Nw ht.typeIs (by decide) ?_)
 refine Ad (Cj (name:=Fl "__getitem__") ht.typeIs Ca
  (Cy Ca ht.typeIs Ma ?_ (Mz _ _)))
 show Ao _ _ (IK (.ref t) >>= _) _ _ s;refine Ad (Rt ht ?_);refine Ad (IF hTs ?_);rw[AF (by decide)]
 refine Ad (u9 hs pl pu ?_);show Ao _ _ (if (((sIx items.size 0 lo:Ai):Am) == 0&&(1:Am) == 1&&(sIx items.size items.size hi-sIx items.size 0 lo) == items.size)=true then _ else _) _ _ s
 rw[hw.1,hw.2,AF (by simp)]
 unfold Xe;refine Ad (Ad (IF ht.typeIs (Ak ?_)));rw[AF (by decide)]
 exact Ad (Ex (Ak ⟨_,rfl,Ak h⟩))
end
section
variable {X:Cx}{e:AM}{fe:DE}{pos p2:CN}
def E1 (X:Cx):V->Al Am->Al Am->Hp->VK->Prop:=λx lo hi H Q=>∃ P α S d,Rel X.K H P α S/\Rep X.K P α d x/\qU X P α (gSl d lo hi S) Q
theorem E6:SlR X (E1 X):=by
 intro pins s σ H x v vl vu lo hi sl Q I rx hs pl pu h;obtain⟨P,α,S,d,r,p,af⟩:=h;cases d with
 |lst xs =>
  simp only[Rep] at p;obtain⟨a,vs,rfl,q,t⟩:=p;exact hW pins s σ H _ v vl vu lo hi sl Q I rx hs pl pu ⟨a,vs,rfl,(xA r.sub q).l,λb hb=>wD r hb (qD.cut t lo hi) af⟩
 |loc i =>
  obtain⟨xs,hS,af⟩:=kP (X:=X) (f:=λxs=>Res.ok (D.lst (zO xs lo hi)) S) af;simp only[Rep] at p;obtain⟨a,rfl,q⟩:=p;obtain⟨vs,z,t⟩:=r.at' i a _ q hS;exact hW pins s σ H _ v vl vu lo hi sl Q I rx hs pl pu ⟨a,vs,rfl,SqL.of z,λb hb=>wD r hb (qD.cut t lo hi) af⟩
 |tup xs =>
  have p0:=p;simp only[Rep] at p;obtain⟨a,vs,rfl,q,t⟩:=p;by_cases hw:sIx vs.length 0 lo=0/\sIx vs.length vs.length hi=vs.length
  .cases rx
   obtain⟨its,rv,ht,hz⟩:=I.tuple (xG r.sub q);have hlen:its.toArray.size=vs.length:=by rw[AD];exact rv.length.symm
   refine⟨"tuple",_,Ca.lookup,ht.typeIs,kZ ht hs pl pu (by rw[hlen];exact hw) ⟨.ref a,H,I,rfl,xr af r ?_⟩⟩
   have e:zO xs lo hi=xs:=by
    unfold zO;rw[t.length,hw.1,hw.2,<- t.length];simp
   rw[e];exact p0
  .exact N1 pins s σ H _ v vl vu lo hi sl Q I rx hs pl pu ⟨a,vs,rfl,xG r.sub q,hw,λb hb=>u0 r hb (qD.cut t lo hi) af⟩
 |_=>exact An af
theorem XC {lo hi:Al AM}{fl fh:DO}(he:PE X e (tD X fe))(hl:PO X lo (tDO X fl))(hu:PO X hi (tDO X fh)):PE X (.Subscript e (.Slice lo hi none p2) pos) (tD X (dSl fe fl fh)):=
 peW (WU E6 he hl hu) λσ H Q ⟨P,α,env,S,r,re,af⟩=>by
  refine⟨P,α,env,S,r,re,?_⟩;have af':qG X P α ((fe env S).bind λd S1=>(fl env S1).bind λlo S2=>(fh env S2).bind λhi S3=>gSl d lo hi S3) (OkV X P α Q):=af;cases q:fe env S with
  |bad=>rw[q] at af';exact af'
  |ex c x S'=>rw[q] at af';exact af'
  |ok d S1 =>
   rw[q] at af';intro v H1 P1 α1 r1 e1 e2 rp;refine⟨P1,α1,env,S1,r1,re.mono e1 e2,?_⟩;have af2:qG X P1 α1 ((fl env S1).bind λlo S2=>(fh env S2).bind λhi S3=>gSl d lo hi S3) (OkV X P1 α1 Q):=qU.base e1 e2 af';cases q2:fl env S1 with
   |bad=>rw[q2] at af2;exact af2
   |ex c x S'=>rw[q2] at af2;exact af2
   |ok l S2 =>
    rw[q2] at af2;intro H2 P2 α2 r2 e3 e4;refine⟨P2,α2,env,S2,r2,(re.mono e1 e2).mono e3 e4,?_⟩;have af3:qG X P2 α2 ((fh env S2).bind λhi S3=>gSl d l hi S3) (OkV X P2 α2 Q):=qU.base e3 e4 af2;cases q3:fh env S2 with
    |bad=>rw[q3] at af3;exact af3
    |ex c x S'=>rw[q3] at af3;exact af3
    |ok u S3 =>
     rw[q3] at af3;intro H3 P3 α3 r3 e5 e6;exact⟨P3,α3,S3,d,r3,Rep.mono (e3.trans e5) (e4.trans e6) _ _ rp,qU.base e5 e6 af3⟩
end
end _D
namespace _D
open PySem PySem.Spec PyProof.Rows _L
variable {h':AB}{α:Aa Af}{N:Aa As}{its ds dsF:Aa D}{body:Aa Dd}{vs:Aa V}{Q:Ac->Ag->Prop}{C:Af}{Qa Qd:Ag->Prop}{m:Ai}{o':Al (Ai × MO)}{tp:Ap}{xs ys:Aw Ac}{py:CN}{R:It->Hp->Prop}{S SF:Sto}{env envF:qE}
def zD (tp:Ap)(h:AB)(it l:Af)(k:Ai):Prop:=if tp then h.IsTupleIter it l k else h.IsListIter it l k
def xR (tp:Ap)(h:AB)(l:Af)(xs:Aw Ac):Prop:=if tp then h.IsTuple l xs else h.IsList l xs
theorem zD.keep {h:AB}{it l:Af}{k:Ai}(x:zD tp h it l k)(q:∀ o,h.get? it=Ab o->h'.get? it=Ab o):zD tp h' it l k:=by
 cases tp <;> (obtain⟨o,e,r⟩:=x;exact⟨o,q o e,r⟩)
theorem xR.keep {h:AB}{l:Af}(x:xR tp h l xs)(q:∀ o,h.get? l=Ab o->h'.get? l=Ab o):xR tp h' l xs:=by
 cases tp <;> (obtain⟨o,e,r⟩:=x;exact⟨o,q o e,r⟩)
theorem zD.there {h:AB}{it l:Af}{k:Ai}(x:zD tp h it l k):∃ o,h.get? it=Ab o/\∀ v,o.data≠.cell v:=by
 cases tp <;> (obtain⟨o,e,_,d⟩:=x;exact⟨o,e,λv z=>by rw[d] at z;cases z⟩)
section
variable {prog:A5}{w:AL}{A:AK}{E:Ac->Ag->Prop}{s:Ag}
theorem WL {it t:Af}{i:Ai}{items:Aw Ac}{x:Ac}(hit:s.heap.IsTupleIter it t i)(ht:s.heap.IsTuple t items)(hx:items[i]? = Ab x)
  (hQ:∀ h',h'.IsTupleIter it t (i+1)->CI it s.heap h'->Q x { s with heap:=h' }) : Ao (Ar prog w) A (Cp (.ref it)) Q E s:=by
 obtain⟨o,e,c,d⟩:=id hit;obtain⟨u,eu,_,m,du⟩:=ht;unfold Cp;refine Ad (Cj (name:=Fl "__next__") hit.typeIs Gy (Cy Gy hit.typeIs Mp ?_ (Md _)));show Ao _ _ (field (.ref it) 0 >>= _) _ _ s;refine Ad (Cg e d (x:=.ref t) rfl ?_);show Ao _ _ (if (AU t == Bs)=true then _ else _) _ _ s;rw[AC (show ¬ ((AU t == Bs)=true) from Fw)]
 show Ao _ _ (field (.ref it) 1 >>= _) _ _ s;refine Ad (Cg e d (x:=.int i 0) rfl ?_);show Ao _ _ (Xp (.ref t) >>= _) _ _ s;refine Ad (Fa eu du ?_);simp only[Dv,hx];refine Ad (Jv e d (by simp) (Ak ⟨x,rfl,Ak (hQ _ ⟨_,Dw _ e (Obj.isFreed_of_fields (Te d _)),(Obj.cls_mapFields ..).trans c,?_⟩ (Fg ..))⟩))
 rw[Te d];simp[DL]
theorem dO {it t:Af}{i:Ai}{items:Aw Ac}{Q:Ac->Ag->Prop}(hh:A.handled=none)(hit:s.heap.IsTupleIter it t i)(ht:s.heap.IsTuple t items)(hx:items[i]? = none)
  (hE:∀ h' e,Yq it s.heap h'->(∃ o,h'.get? e=Ab o/\o.cls=.type "StopIteration")->E (.ref e) { s with heap:=h' }) : Ao (Ar prog w) A (Cp (.ref it)) Q E s:=by
 obtain⟨o,e,c,d⟩:=id hit;obtain⟨u,eu,_,m,du⟩:=ht;unfold Cp;refine Ad (Cj (name:=Fl "__next__") hit.typeIs Gy (Cy Gy hit.typeIs Mp ?_ (Md _)));show Ao _ _ (field (.ref it) 0 >>= _) _ _ s;refine Ad (Cg e d (x:=.ref t) rfl ?_);show Ao _ _ (if (AU t == Bs)=true then _ else _) _ _ s;rw[AC (show ¬ ((AU t == Bs)=true) from Fw)]
 show Ao _ _ (field (.ref it) 1 >>= _) _ _ s;refine Ad (Cg e d (x:=.int i 0) rfl ?_);show Ao _ _ (Xp (.ref t) >>= _) _ _ s;refine Ad (Fa eu du ?_);simp only[Dv,hx];refine Ad (Ex (Ad (Jv e d (by simp) ?_)))
 show Ao _ _ (newExc (.type "StopIteration") [] >>= _) _ _ _;refine Ad ?_;simp only[newExc,newTuple];refine Ad (Bu ?_ (by size_fits))
 refine Ad (m:=Mq _ _) (Nj (a:=Bs) (by first|rfl|(simp only[Mq];rfl)) (Bu ?_ (by size_fits)))
 simp only[raiseNew];refine Ad (wpAny_handled ?_)
 first|rw[show A.in1.handled=none from hh]|rw[hh]
 exact Ad (Ak (wpAny_throw (hE _ _ (((Fg ..).extBut.push _).push _) ⟨_,A7 _ rfl,rfl⟩)))
theorem kN {it l:Af}{k:Ai}{x:Ac}(hit:zD tp s.heap it l k)(hl:xR tp s.heap l xs)(hx:xs[k]? = Ab x)
  (hQ:∀ h',zD tp h' it l (k+1)->CI it s.heap h'->Q x { s with heap:=h' }) : Ao (Ar prog w) A (Cp (.ref it)) Q E s:=by
 cases tp with
 |false=>exact wpAny_nextOf_list_item hit hl hx hQ
 |true=>exact WL hit hl hx hQ
theorem vX {it l:Af}{k:Ai}{Q:Ac->Ag->Prop}(hh:A.handled=none)(hit:zD tp s.heap it l k)(hl:xR tp s.heap l xs)(hx:xs[k]? = none)
  (hE:∀ h' e,Yq it s.heap h'->(∃ o,h'.get? e=Ab o/\o.cls=.type "StopIteration")->E (.ref e) { s with heap:=h' }) : Ao (Ar prog w) A (Cp (.ref it)) Q E s:=by
 cases tp with
 |false=>exact wpAny_nextOf_list_end hh hit hl hx hE
 |true=>exact dO hh hit hl hx hE
structure ZA (z I O i j:Af):Prop where
 Iz:I≠z
 Oz:O≠z
 iz:i≠z
 jz:j≠z
 IO:I≠O
 Ii:I≠i
 Ij:I≠j
 Oi:O≠i
 Oj:O≠j
 ij:i≠j
structure Off (z O i j a:Af):Prop where
 z:a≠z
 O:a≠O
 i:a≠i
 j:a≠j
abbrev ZV (z O i j:Af)(h h':AB):Prop:=∀ c o,c≠z->c≠O->c≠i->c≠j->h.get? c=Ab o->h'.get? c=Ab o
theorem YR {tq:Ap}{z I O i j a b:Af}{k:Ai}{x y p q:Ac}(D:ZA z I O i j)(Da:Off z O i j a)(Db:Off z O i j b)
  (hz:Mr s.heap z I O .none) (hI:Gz s.heap I (.ref i) (.ref j)) (hO:Gz s.heap O p q) (h1:zD tp s.heap i a k) (h2:zD tq s.heap j b k) (ha:xR tp s.heap a xs) (hb:xR tq s.heap b ys) (hx:xs[k]? = Ab x) (hy:ys[k]? = Ab y)
  (hQ:∀ h',Mr h' z I O (DL s.heap.objs.size)->Gz h' O x y->zD tp h' i a (k+1)->zD tq h' j b (k+1)->Gz h' s.heap.objs.size x y->h'.objs.size=s.heap.objs.size+1->ZV z O i j s.heap h'->Q (.ref s.heap.objs.size) { s with heap:=h' }) :
  Ao (Ar prog w) A (Fq.«zip.__next__» ⟨[.ref z],[]⟩) (λfin s'=>∃ v,fin=.done (.ret v)/\Q v s') E s:=by
 show Ao _ _ (field (.ref z) 2 >>= _) _ _ _;refine Ad (Cg hz rfl (x:=.bool false) rfl ?_);show Ao _ _ (field (.ref z) 3 >>= _) _ _ _;refine Ad (Cg hz rfl (x:=.ref I) rfl (Ad (Fa hI rfl ?_)));show Ao _ _ (CM (.ref z) >>= _) _ _ _;refine Ad ?_;unfold CM;refine Ad (Cg hz rfl (x:=.none) rfl (Ak ?_));simp only[Ct];refine Ad (Ex (Ad (Cg hz rfl (x:=.ref O) rfl (Ad (CY hz (by simp) λg1 z1 s1=>?_)))))
 replace z1:Mr g1 z I O .ellipsis:=z1
 refine Ad ?_;simp only[OC,Vy,Pa,Mn];refine Ad (Ad (Od ?_));show Ao _ _ (Cp (.ref i) >>= _) _ _ _;refine Ad (kN (h1.keep λo e=>s1.extBut _ _ D.iz e) (ha.keep λo e=>s1.extBut _ _ Da.z e) hx λg2 i2 s2=>Ak ?_);have O2:Gz g2 O p q:=s2.extBut _ _ D.Oi (s1.extBut _ _ D.Oz hO);refine Ad (Fa O2 rfl (Ad (Ld O2 λg3 O3 s3=>Ad (Pz (Ak ?_)))))
 replace O3:Gz g3 O x q:=O3
 refine Ad (Ad (Od ?_));show Ao _ _ (Cp (.ref j) >>= _) _ _ _;refine Ad (kN (h2.keep λo e=>s3.extBut _ _ D.Oj.symm (s2.extBut _ _ D.ij.symm (s1.extBut _ _ D.jz e))) (hb.keep λo e=>s3.extBut _ _ Db.O (s2.extBut _ _ Db.i (s1.extBut _ _ Db.z e))) hy λg4 j4 s4=>Ak ?_);have O4:Gz g4 O x q:=s4.extBut _ _ D.Oj O3;refine Ad (Fa O4 rfl (Ad (Ld O4 λg5 O5 s5=>Ad (Pz (Ak (Ak ?_))))))
 replace O5:Gz g5 O x y:=O5
 refine Ad (Fa O5 rfl (Ad (Qt ?_)));have sz:g5.objs.size=s.heap.objs.size:=by rw[s5.1,s4.1,s3.1,s2.1,s1.1]
 have z5:Mr g5 z I O .ellipsis:=s5.extBut _ _ D.Oz.symm (s4.extBut _ _ D.jz.symm (s3.extBut _ _ D.Oz.symm (s2.extBut _ _ D.iz.symm z1)));have k5:ZV z O i j s.heap g5:=λc o c1 c2 c3 c4 e=>s5.extBut _ _ c2 (s4.extBut _ _ c4 (s3.extBut _ _ c2 (s2.extBut _ _ c3 (s1.extBut _ _ c1 e))));have i5:zD tp g5 i a (k+1):=i2.keep λo e=>s5.extBut _ _ D.Oi.symm (s4.extBut _ _ D.ij (s3.extBut _ _ D.Oi.symm e));have j5:zD tq g5 j b (k+1):=j4.keep λo e=>s5.extBut _ _ D.Oj.symm e;have zl:z<g5.objs.size:=Az z5;show Ao _ _ (Ep (.ref z) (.ref g5.objs.size) >>= _) _ _ _;refine Ad ?_;unfold Ep;have z6:Mr (g5.push { cls:=.type "tuple",data:=.seq #[x,y] }) z I O .ellipsis:=Ah _ z5;refine Ad (CY z6 (by simp) λg7 z7 s7=>?_)
 replace z7:Mr g7 z I O (DL g5.objs.size):=z7
 refine CY z7 (by simp) λg8 z8 s8=>?_
 replace z8:Mr g8 z I O (DL g5.objs.size):=z8
 have up:∀ c o,c≠z->g5.get? c=Ab o->g8.get? c=Ab o:=λc o c1 e=>s8.extBut _ _ c1 (s7.extBut _ _ c1 (Ah _ e));have T8:Gz g8 g5.objs.size x y:=s8.extBut _ _ (El zl) (s7.extBut _ _ (El zl) (A7 _ rfl));have sz8:g8.objs.size=g5.objs.size+1:=by rw[s8.1,s7.1,Ci]
 rw[sz] at z8 T8 sz8;refine Ak ⟨_,rfl,?_⟩;show Q (.ref g5.objs.size) _;rw[sz];exact hQ g8 z8 (up _ _ D.Oz O5) (i5.keep λo e=>up _ o D.iz e) (j5.keep λo e=>up _ o D.jz e) T8 sz8 λc o c1 c2 c3 c4 e=>up c o c1 (k5 c o c1 c2 c3 c4 e)
end
section
variable {prog:A5}{w:AL}{A:AK}{E:Ac->Ag->Prop}{s:Ag}
theorem YT {tq:Ap}{z I O i j a b:Af}{k:Ai}{p q:Ac}{Q:Fin->Ag->Prop}(hh:A.handled=none)(D:ZA z I O i j)(Da:Off z O i j a)(Db:Off z O i j b)
  (hz:Mr s.heap z I O .none) (hI:Gz s.heap I (.ref i) (.ref j)) (hO:Gz s.heap O p q) (h1:zD tp s.heap i a k) (h2:zD tq s.heap j b k) (ha:xR tp s.heap a xs) (hb:xR tq s.heap b ys) (hend:xs[k]? = none\/ys[k]? = none)
  (hE:∀ h' e,ZV z O i j s.heap h'->(∃ o,h'.get? e=Ab o/\o.cls=.type "StopIteration")->E (.ref e) { s with heap:=h' }) : Ao (Ar prog w) A (Fq.«zip.__next__» ⟨[.ref z],[]⟩) Q E s:=by
 show Ao _ _ (field (.ref z) 2 >>= _) _ _ _;refine Ad (Cg hz rfl (x:=.bool false) rfl ?_);show Ao _ _ (field (.ref z) 3 >>= _) _ _ _;refine Ad (Cg hz rfl (x:=.ref I) rfl (Ad (Fa hI rfl ?_)));show Ao _ _ (CM (.ref z) >>= _) _ _ _;refine Ad ?_;unfold CM;refine Ad (Cg hz rfl (x:=.none) rfl (Ak ?_));simp only[Ct];refine Ad (Ex (Ad (Cg hz rfl (x:=.ref O) rfl (Ad (CY hz (by simp) λg1 z1 s1=>?_)))))
 replace z1:Mr g1 z I O .ellipsis:=z1
 refine Ad ?_;simp only[OC,Vy,Pa,Mn];refine Ad (Ad (Od ?_));show Ao _ _ (Cp (.ref i) >>= _) _ _ _;have it1:zD tp g1 i a k:=h1.keep λo e=>s1.extBut _ _ D.iz e;have sq1:xR tp g1 a xs:=ha.keep λo e=>s1.extBut _ _ Da.z e;cases hx:xs[k]? with
 |none =>
  refine Ad (vX hh it1 sq1 hx λg2 e x2 he=>?_);obtain⟨oe,h3,h4⟩:=he;have z2:Mr g2 z I O .ellipsis:=x2 _ _ D.iz.symm z1;have ne:e≠z:=λy=>by subst y;rw[z2] at h3;cases h3;simp at h4
  exact CY z2 (by simp) λg3 _ s3=>hE g3 e (λc o c1 _ c3 _ y=>s3.extBut _ _ c1 (x2 _ _ c3 (s1.extBut _ _ c1 y))) ⟨oe,s3.extBut _ _ ne h3,h4⟩
 |some x =>
  have hy:ys[k]? = none:=by
   rcases hend with y|y
   .rw[hx] at y;cases y
   .exact y
  refine Ad (kN it1 sq1 hx λg2 i2 s2=>Ak ?_);have O2:Gz g2 O p q:=s2.extBut _ _ D.Oi (s1.extBut _ _ D.Oz hO);refine Ad (Fa O2 rfl (Ad (Ld O2 λg3 O3 s3=>Ad (Pz (Ak ?_)))));refine Ad (Ad (Od ?_));show Ao _ _ (Cp (.ref j) >>= _) _ _ _;refine Ad (vX hh (h2.keep λo e=>s3.extBut _ _ D.Oj.symm (s2.extBut _ _ D.ij.symm (s1.extBut _ _ D.jz e))) (hb.keep λo e=>s3.extBut _ _ Db.O (s2.extBut _ _ Db.i (s1.extBut _ _ Db.z e))) hy λg4 e x4 he=>?_);obtain⟨oe,h3,h4⟩:=he;have z4:Mr g4 z I O .ellipsis:=x4 _ _ D.jz.symm (s3.extBut _ _ D.Oz.symm (s2.extBut _ _ D.iz.symm z1));have ne:e≠z:=λy=>by subst y;rw[z4] at h3;cases h3;simp at h4
  exact CY z4 (by simp) λg5 _ s5=>hE g5 e (λc o c1 c2 c3 c4 y=>s5.extBut _ _ c1 (x4 _ _ c4 (s3.extBut _ _ c2 (s2.extBut _ _ c3 (s1.extBut _ _ c1 y))))) ⟨oe,s5.extBut _ _ ne h3,h4⟩
noncomputable abbrev vC (tp:Ap)(l:Af):AX:={ cls:=.type (if tp then "tuple_iterator" else "list_iterator"),data:=.fields #[.ref l,.int 0 0] }
noncomputable abbrev zh1 (tp:Ap)(h:AB)(a:Af):AB:=h.push (vC tp a)
noncomputable abbrev zh2 (tp tq:Ap)(h:AB)(a b:Af):AB:=(zh1 tp h a).push (vC tq b)
noncomputable abbrev zh3 (tp tq:Ap)(h:AB)(a b:Af):AB:=(zh2 tp tq h a b).push { cls:=.type "tuple",data:=.seq #[.ref h.objs.size,.ref (zh1 tp h a).objs.size] }
noncomputable abbrev zh4 (tp tq:Ap)(h:AB)(a b:Af):AB:=(zh3 tp tq h a b).push { cls:=.type "tuple",data:=.seq #[.none,.none] }
noncomputable abbrev zh5 (tp tq:Ap)(h:AB)(a b:Af):AB:=(zh4 tp tq h a b).push { cls:=.type "zip",data:=.fields #[.none,.bool false,.bool false,.ref (zh2 tp tq h a b).objs.size,.ref (zh3 tp tq h a b).objs.size] }
set_option maxHeartbeats 4000000 in
theorem GY (tp:Ap)(a b:Af)(xs ys:Aw Ac) :
  Meets (Fq.«zip.__new__» ⟨[.type "zip",.ref a,.ref b],[]⟩) (λ_ R s=>xR tp s.heap a xs/\xR tp s.heap b ys/\R (.ok (.ret (.ref (zh4 tp tp s.heap a b).objs.size))) { s with heap:=zh5 tp tp s.heap a b }):=
 .of_wp λprog w A R s h=>by
  obtain⟨hp,g,d,tk,os⟩:=s;obtain⟨q1,q2,h⟩:=h;have hsub:=sub_zip;have e2:∀ ob:AX,xR tp (hp.push ob) b ys:=λob=>q2.keep λo e=>Ah _ e;cases tp
  .have l1:Vg (Kt ⟨hp,g,d,tk,os⟩) a xs:=q1
   have l2:Vg (Kt ⟨hp.push { cls:=.type "list_iterator",data:=.fields #[.ref a,.int 0 0] },g,d,tk,os⟩) b ys:=e2 _
   wp_walk using Ei l1,Ei l2
   exact⟨_,rfl,h⟩
  .have l1:Tu (Kt ⟨hp,g,d,tk,os⟩) a xs:=q1
   have l2:Tu (Kt ⟨hp.push { cls:=.type "tuple_iterator",data:=.fields #[.ref a,.int 0 0] },g,d,tk,os⟩) b ys:=e2 _
   wp_walk using Eu l1,Eu l2
   exact⟨_,rfl,h⟩
theorem kH {h:AB}{it l:Af}(e:h.get? it=Ab (vC tp l)):zD tp h it l 0:=by
 cases tp
 .exact⟨_,e,rfl,rfl⟩
 .exact⟨_,e,rfl,rfl⟩
theorem X1 {a b:Af}(ha:xR tp s.heap a xs)(hb:xR tp s.heap b ys)
  (h:∀ h',Mr h' (s.heap.objs.size+4) (s.heap.objs.size+2) (s.heap.objs.size+3) .none->Gz h' (s.heap.objs.size+2) (.ref s.heap.objs.size) (.ref (s.heap.objs.size+1)) ->
   Gz h' (s.heap.objs.size+3) .none .none->zD tp h' s.heap.objs.size a 0->zD tp h' (s.heap.objs.size+1) b 0->h'.objs.size=s.heap.objs.size+5->(∀ c o,s.heap.get? c=Ab o->h'.get? c=Ab o)->Q (.ref (s.heap.objs.size+4)) { s with heap:=h' }) :
  Ao (Ar prog w) A (call (.type "zip") [.ref a,.ref b]) Q E s:=by
 refine Tv F.called_zip (by decide) (F.typeCall_zip_2 _ _) (F.newCall_zip_2 _ _) (λobj=>F.args_object_init_3 obj _ _) F.entry_zip_new (GY tp a b xs ys) ⟨ha,hb,?_⟩
 have y1:(zh1 tp s.heap a).objs.size=s.heap.objs.size+1:=Ci ..;have y2:(zh2 tp tp s.heap a b).objs.size=s.heap.objs.size+2:=by rw[Ci,y1]
 have y3:(zh3 tp tp s.heap a b).objs.size=s.heap.objs.size+3:=by rw[Ci,y2]
 have y4:(zh4 tp tp s.heap a b).objs.size=s.heap.objs.size+4:=by rw[Ci,y3]
 have y5:(zh5 tp tp s.heap a b).objs.size=s.heap.objs.size+5:=by rw[Ci,y4]
 have g5:(zh5 tp tp s.heap a b).get? (zh4 tp tp s.heap a b).objs.size=Ab _:=A7 _ rfl;have g4:(zh5 tp tp s.heap a b).get? (zh3 tp tp s.heap a b).objs.size=Ab _:=Ah _ (A7 _ rfl);have g3:(zh5 tp tp s.heap a b).get? (zh2 tp tp s.heap a b).objs.size=Ab _:=Ah _ (Ah _ (A7 _ rfl));have g2:(zh5 tp tp s.heap a b).get? (zh1 tp s.heap a).objs.size=Ab (vC tp b):=Ah _ (Ah _ (Ah _ (A7 _ rfl)));have g1:(zh5 tp tp s.heap a b).get? s.heap.objs.size=Ab (vC tp a):=Ah _ (Ah _ (Ah _ (Ah _ (A7 _ rfl))));have kp:∀ c o,s.heap.get? c=Ab o->(zh5 tp tp s.heap a b).get? c=Ab o:=λc o e=>Ah _ (Ah _ (Ah _ (Ah _ (Ah _ e))));show _/\_;rw[y2,y3,y4] at g5;rw[y1,y2] at g3;rw[y3] at g4;rw[y1] at g2;rw[y4];exact⟨⟨_,g5,rfl⟩,h _ g5 g3 g4 (kH g1) (kH g2) y5 kp⟩
end
def Sq (tp:Ap)(K:Aj)(H:Hp)(a:Af)(xs:Aa V):Prop:=if tp then SqT K H a xs else SqL K H a xs
section
variable {X:Cx}{pins:Aa (Af × AX)}{σ : _L.St}{H:Hp}{s:Ag}
theorem Sq.at {a:Af}{xs:Aa V}(I:Inv X pins σ H s)(q:Sq tp X.K H a xs):∃ its,qJ xs its/\xR tp s.heap a its.toArray:=by
 cases tp with
 |true =>
  obtain⟨its,rv,p,_⟩:=I.tuple q;exact⟨its,rv,p⟩
 |false =>
  obtain⟨its,rv,p,_⟩:=I.list q;exact⟨its,rv,p.isList⟩
theorem Sq.inj {a:Af}{xs ys:Aa V}(I:Inv X pins σ H s)(q:Sq tp X.K H a xs)(q':Sq tp X.K H a ys):xs=ys:=by
 cases tp with
 |true=>exact I.tuple_inj q q'
 |false=>exact I.list_inj q q'
theorem Sq.off {a b:Af}{xs:Aa V}(I:Inv X pins σ H s)(q:Sq tp X.K H a xs)(f:x5 X pins H b):a≠b:=by
 have key:H a≠none\/∃ o,X.K.lookup a=Ab o:=by
  cases tp with
  |true =>
   rcases q with (q|⟨o,q⟩)|⟨o,_,_,q,_⟩
   .exact .inl (by rw[q];intro z;cases z)
   .exact .inl (by rw[q];intro z;cases z)
   .exact .inr ⟨_,q⟩
  |false =>
   rcases q with (q|⟨o,q⟩)|⟨o,_,_,q,_⟩
   .exact .inl (by rw[q];intro z;cases z)
   .exact .inl (by rw[q];intro z;cases z)
   .exact .inr ⟨_,q⟩
 rintro rfl;rcases key with k|⟨o,k⟩
 .exact k f.1
 .have e:=I.mod.kin a o k
  rcases f.2.2.2.1 with z|z
  .exact I.ok.noex a o e z
  .exact absurd (Az (I.ok.bs a o e).1) (Kh.mpr z)
theorem Inv.turnLay {fp:Aa Af}{T:Af}{xs:Aa V}{its:Aa Ac}(I:Inv X pins σ H s)(hf:∀ b∈fp,x5 X pins H b)(k:∀ b o,b ∉ fp->s.heap.get? b=Ab o->h'.get? b=Ab o)(th:∀ b∈fp,∃ o,h'.get? b=Ab o)
  (hT:s.heap.objs.size<=T) (rv:qJ xs its) (hx:Ps h' T its.toArray) (hz:xs.length<=sizeLine):Inv X pins σ (upd H T (.tup xs)) { s with heap:=h' }:=by
 have hn:H T=none:=I.hok.fresh hT;have ne:∀ b o,s.heap.get? b=Ab o->b≠T:=λb o e=>AZ (Ax (Az e) hT);refine I.step (g':=s.gens) (d':=s.drawn) (t':=s.toks) (ch:=fp) (λb hb=>⟨(hf b hb).2.2.2.1,(hf b hb).2.1,(hf b hb).2.2.2.2.1,(hf b hb).2.2.2.2.2⟩) (λb o _ _ hc e _=>k b o hc e) (λb o _ _ hc e _=>⟨o.slots,k b o hc e⟩)
  (λb o _ e n=>by rw[qI (ne b o e)];exact n) (λb o hc e=>⟨o,k b o hc e⟩) (λb ys e=>by rw[qI (qS e hn)];exact e) (λb o u e=>by rw[qI (qS e hn)];exact e)
  (λb ps e=>⟨#[],by rw[qI (qS e hn),e];simp⟩) (λm hm=>?_) (λb u e=>?_) I.bare
 .obtain⟨o,es,ep,ho,r⟩:=hm
  exact⟨o,es,ep,k _ o (λz=>(hf _ z).2.1 rfl) ho,r⟩
 .by_cases hb:b=T
  .subst hb
   rw[qV] at e;cases e;exact⟨hz,its,rv,hx⟩
  .rw[qI hb] at e
   refine(I.hok b u e).stay (λc v hc q=>k c v (λz=>?_) q) (λc q=>by rw[qI (qS q hn)];exact q) λc ys q=>by rw[qI (qS q hn)];exact q
   have hcn:=(hf c z).1;rcases hc with rfl|hc
   .rw[hcn] at e;cases e
   .rw[hcn] at hc;cases hc
theorem Inv.turnL {fp:Aa Af}(I:Inv X pins σ H s)(hf:∀ b∈fp,x5 X pins H b)(k:∀ b o,b ∉ fp->s.heap.get? b=Ab o->h'.get? b=Ab o):Inv X pins σ H { s with heap:=h' }:=by
 refine I.step (g':=s.gens) (d':=s.drawn) (t':=s.toks) (ch:=fp) (λb hb=>⟨(hf b hb).2.2.2.1,(hf b hb).2.1,(hf b hb).2.2.2.2.1,(hf b hb).2.2.2.2.2⟩) (λb o _ _ hc e _=>k b o hc e) (λb o _ _ hc e _=>⟨o.slots,k b o hc e⟩)
  (λb o _ e n=>n) (λb o hc e=>⟨o,k b o hc e⟩) (λb ys e=>e) (λb o u e=>e) (λb ps e=>⟨#[],by rw[e];simp⟩) (λm hm=>?_) (λb u e=>?_) I.bare
 .obtain⟨o,es,ep,ho,r⟩:=hm
  exact⟨o,es,ep,k _ o (λz=>(hf _ z).2.1 rfl) ho,r⟩
 .refine(I.hok b u e).stay (λc v hc q=>k c v (λz=>?_) q) (λc q=>q) λc ys q=>q
  have hcn:=(hf c z).1;rcases hc with rfl|hc
  .rw[hcn] at e;cases e
  .rw[hcn] at hc;cases hc
end
noncomputable def Itz (tp:Ap)(K:Aj)(a b:Af):It:=
  ⟨λi H=>∃ xs ys x y,Sq tp K H a xs/\Sq tp K H b ys/\xs[i]? = Ab x/\ys[i]? = Ab y,
   λi H v H'=>∃ T x y,v=.ref T/\H T=none/\H'=upd H T (.tup [x,y])/\(∀ xs,Sq tp K H a xs->xs[i]? = Ab x)/\∀ ys,Sq tp K H b ys->ys[i]? = Ab y,
   λi H=>∃ xs ys,Sq tp K H a xs/\Sq tp K H b ys/\(xs.length<=i\/ys.length<=i)⟩
def cM (tp:Ap)(z I O i j a b:Af)(k:Ai)(h:AB):Prop:=∃ p q,Mr h z I O .none/\Gz h I (.ref i) (.ref j)/\Gz h O p q/\zD tp h i a k/\zD tp h j b k
theorem gZ {z I O i j a b:Af}{k:Ai}{h:AB}(st:cM tp z I O i j a b k h):∀ c∈[z,I,O,i,j],∃ o,h.get? c=Ab o/\∀ v,o.data≠.cell v:=λc hc=>by
 obtain⟨p,q,s1,s2,s3,s4,s5⟩:=st;simp only[Av,Bj,Du] at hc;rcases hc with rfl|rfl|rfl|rfl|rfl
 .exact⟨_,s1,λv y=>by cases y⟩
 .exact⟨_,s2,λv y=>by cases y⟩
 .exact⟨_,s3,λv y=>by cases y⟩
 .exact s4.there
 .exact s5.there
theorem VD {c z I O i j:Af}(h:c ∉ [z,I,O,i,j]):c≠z/\c≠O/\c≠i/\c≠j:=by
 simp only[Av,Bj,Du,Qb] at h;exact⟨h.1,h.2.2.1,h.2.2.2.1,h.2.2.2.2⟩
theorem YN {P:A5}{w:AL}{K:Aj}{elts:Aa AM}{x1:Ai}{tpos:CN}{z I O i j a b:Af}(D:ZA z I O i j):Turn P w K (.Tuple elts x1 tpos) (Itz tp K a b) [z,I,O,i,j] z (cM tp z I O i j a b) where
 mem:=.head _
 obj:=λk h st=>gZ st
 keep:=λk h h' st kp=>by
  obtain⟨p,q,s1,s2,s3,s4,s5⟩:=st;exact⟨p,q,kp z (.head _) _ s1,kp I (.tail _ (.head _)) _ s2,kp O (.tail _ (.tail _ (.head _))) _ s3,s4.keep λo e=>kp i (.tail _ (.tail _ (.tail _ (.head _)))) o e,s5.keep λo e=>kp j (.tail _ (.tail _ (.tail _ (.tail _ (.head _))))) o e⟩
 item:=by
  intro X hP hw hK hc k pins s σ H E Iv hf st hg;subst hP hw hK;obtain⟨p,q,s1,s2,s3,s4,s5⟩:=st;obtain⟨xs,ys,x,y,qa,qb,hx,hy⟩:=hg;obtain⟨ia,ra,ha⟩:=qa.at Iv;obtain⟨ib,rb,hb⟩:=qb.at Iv;obtain⟨u,hu,ru⟩:=ra.get hx;obtain⟨u',hu',ru'⟩:=rb.get hy;have off:∀ {c:Af} {zs:Aa V},Sq tp X.K H c zs->Off z O i j c:=λ{c zs} qc=>⟨qc.off Iv (hf z (.head _)),qc.off Iv (hf O (.tail _ (.tail _ (.head _)))),qc.off Iv (hf i (.tail _ (.tail _ (.tail _ (.head _))))),qc.off Iv (hf j (.tail _ (.tail _ (.tail _ (.tail _ (.head _))))))⟩;have hT:s.TypeIs (.ref z) "zip":=⟨_,s1,rfl⟩;unfold Jt;refine Ad (Gm (Cj (name:=Fl "__next__") hT Lq (Cy Lq hT Vh
   (YR D (off qa) (off qb) s1 s2 s3 s4 s5 ha hb (by simpa using hu) (by simpa using hu') λh' a1 a2 a3 a4 a5 a6 a7=>Ak ?_) (Ul _))))
  refine⟨_,rfl,wpAny_letOwnedTupleGo_zip (s:={ s with heap:=h' }) a1 λh2 b1 b2=>?_⟩
  have up:∀ c o,c≠z->h'.get? c=Ab o->h2.get? c=Ab o:=λc o n e=>(b2.2 c n).trans e;have zl:z<s.heap.objs.size:=Az s1;have T2:Gz h2 s.heap.objs.size u u':=up _ _ (El zl) a5;have st2:cM tp z I O i j a b (k+1) h2:=⟨u,u',b1,up _ _ D.Iz (a7 I _ D.Iz D.IO D.Ii D.Ij s2),up _ _ D.Oz a2,a3.keep λo e=>up _ o D.iz e,a4.keep λo e=>up _ o D.jz e⟩;refine⟨.ref s.heap.objs.size,upd H s.heap.objs.size (.tup [x,y]),?_,rfl,⟨_,x,y,rfl,Iv.hok.fresh (Aq _),rfl,λzs qz=>by rw[qz.inj Iv qa];exact hx,λzs qz=>by rw[qz.inj Iv qb];exact hy⟩,st2,λc hc=>?_⟩
  .show _L.Inv X pins σ (upd H s.heap.objs.size (.tup [x,y])) { s with heap:=h2 }
   refine Inv.turnLay (fp:=[z,I,O,i,j]) (its:=[u,u']) Iv hf (λc o hc e=>?_) (λc hc=>?_) (Aq _) (.cons ru (.cons ru' .nil)) ⟨_,T2,rfl,_,rfl⟩ (by show 2<=sizeLine;decide)
   .have hc:=VD hc
    exact up c o hc.1 (a7 c o hc.1 hc.2.1 hc.2.2.1 hc.2.2.2 e)
   .obtain⟨o,e,_⟩:=gZ st2 c hc
    exact⟨o,e⟩
  .have hn:=(hf c hc).1
   rw[qI ?_]
   .exact hn
   .rintro rfl
    obtain⟨o,e,_⟩:=gZ ⟨p,q,s1,s2,s3,s4,s5⟩ _ hc;exact absurd (Az e) (Dh _)
 done:=by
  intro X hP hw hK hc k pins s σ H E Iv hf st hg;subst hP hw hK;obtain⟨p,q,s1,s2,s3,s4,s5⟩:=st;obtain⟨xs,ys,qa,qb,hend⟩:=hg;obtain⟨ia,ra,ha⟩:=qa.at Iv;obtain⟨ib,rb,hb⟩:=qb.at Iv;have off:∀ {c:Af} {zs:Aa V},Sq tp X.K H c zs->Off z O i j c:=λ{c zs} qc=>⟨qc.off Iv (hf z (.head _)),qc.off Iv (hf O (.tail _ (.tail _ (.head _)))),qc.off Iv (hf i (.tail _ (.tail _ (.tail _ (.head _))))),qc.off Iv (hf j (.tail _ (.tail _ (.tail _ (.tail _ (.head _))))))⟩;have hT:s.TypeIs (.ref z) "zip":=⟨_,s1,rfl⟩;have l1:=ra.length;have l2:=rb.length;unfold Jt;refine Ad (Gm (Cj (name:=Fl "__next__") hT Lq (Cy Lq hT Vh
   (YT (Iv.ok.hd hc) D (off qa) (off qb) s1 s2 s3 s4 s5 ha hb ?_ λh' e kp he=>?_) (Ul _))))
  .rcases hend with y|y
   .exact .inl (by simp;lia)
   .exact .inr (by simp;lia)
  .obtain⟨o,ho,hcl⟩:=he
   refine Ad (Ku (T:="StopIteration") (b:=true) ⟨o,ho,hcl⟩ Qu (Ak ⟨rfl,Inv.turnL (fp:=[z,I,O,i,j]) Iv hf λc o hc e=>?_⟩));have hc:=VD hc;exact kp c o hc.1 hc.2.1 hc.2.2.1 hc.2.2.2 e
 self:=λ_ _ _ _ _ st h=>by
  obtain⟨p,q,s1,_⟩:=st;exact Vi s1 h
noncomputable def yF (xs ys:Aa D):Aa D:=List.zipWith (λx y=>D.tup [x,y]) xs ys
noncomputable def NN (ds:Aa D):Al (Aa D):=match ds with
 |[.tup xs,.tup ys]=>Ab (yF xs ys)
 |[.lst xs,.lst ys]=>Ab (yF xs ys)
 |_=>none
noncomputable def j3 (f:DA):DI:=λenv S=>(f env S).bind λds S1=>v7 (NN ds) S1
theorem YQ {xs ys:Aa D}{i:Ai}:(yF xs ys)[i]? = match xs[i]?,ys[i]? with|some x,Ab y=>Ab (D.tup [x,y])|_,_=>none:=by
 unfold yF;rw[List.getElem?_zipWith];cases xs[i]? <;> cases ys[i]? <;> rfl
theorem bN (xs ys:Aa D):(yF xs ys).length=min xs.length ys.length:=by simp[yF]
section
variable {K:Aj}
theorem Sq.mono {P P':Hp}(e:qF P P'){a:Af}{xs:Aa V}(q:Sq tp K P a xs):Sq tp K P' a xs:=by
 cases tp with
 |true=>exact yE e q
 |false=>exact e.seq q
theorem JC {P:Hp}{a b:Af}{xs ys:Aa D}{ws:Aa V}(qa:Sq tp K P a vs)(qb:Sq tp K P b ws)(ta:qD K P α xs vs)(tb:qD K P α ys ws):ItD K (Itz tp K a b) P α (yF xs ys) where
 go:=λi H P1 α1 S hi r e _=>by
  rw[bN] at hi;have h1:i<vs.length:=by rw[<- ta.length];lia
  have h2:i<ws.length:=by rw[<- tb.length];lia
  exact⟨vs,ws,vs[i],ws[i],qa.mono (e.trans r.sub),qb.mono (e.trans r.sub),by simp,by simp⟩
 yld:=λi H x H' P1 α1 S hi r e e2 y=>by
  obtain⟨T,u,w,rfl,hT,rfl,hu,hw⟩:=y;rw[bN] at hi;have h1:i<xs.length:=by lia
  have h2:i<ys.length:=by lia
  obtain⟨v1,z1,p1⟩:=ta.get (Au h1);obtain⟨v2,z2,p2⟩:=tb.get (Au h2);have eu:=hu vs (qa.mono (e.trans r.sub));have ew:=hw ws (qb.mono (e.trans r.sub));rw[z1] at eu;cases eu;rw[z2] at ew;cases ew;obtain⟨r1,s1⟩:=r.pure (o:=.tup [u,w]) hT;refine⟨_,.tup [xs[i],ys[i]],?_,r1,s1,?_⟩
  .rw[YQ,Au h1,Au h2]
  .exact t7 (.of qV) (.cons (Rep.mono (e.trans s1) e2 _ _ p1) (.cons (Rep.mono (e.trans s1) e2 _ _ p2) .nil))
 stop:=λi H P1 α1 S hi r e _=>by
  rw[bN] at hi;have l1:=ta.length;have l2:=tb.length;exact⟨vs,ws,qa.mono (e.trans r.sub),qb.mono (e.trans r.sub),by lia⟩
end
section
variable {X:Cx}{e1 e2:AM}{elts:Aa AM}{x1:Ai}{tpos:CN}{f:DA}{p pos:CN}
theorem ZS {pins:Aa (Af × AX)}{σ:_L.St}{H P:Hp}{s:Ag}{a b:Af}{xs ys:Aa D}{ws:Aa V}(I:Inv X pins σ H s)(r:Rel X.K H P α S)(qa:Sq tp X.K P a vs)(qb:Sq tp X.K P b ws)(ta:qD X.K P α xs vs)(tb:qD X.K P α ys ws)
  (q:OkI X P α R (yF xs ys) S):Ao (Ar X.prog X.w) X.A (call (.type "zip") [.ref a,.ref b]) (λv s1=>Ao (Ar X.prog X.w) X.A (Kk v) (PIE X pins σ (.Tuple elts x1 tpos) R) X.xe s1) X.xe s:=by
 obtain⟨ia,ra,ha⟩:=(qa.mono r.sub).at I;obtain⟨ib,rb,hb⟩:=(qb.mono r.sub).at I;refine X1 ha hb λh' z1 z2 z3 z4 z5 z6 z7=>?_;refine Vi (s:={ s with heap:=h' }) z1 ?_
 have D:ZA (s.heap.objs.size+4) (s.heap.objs.size+2) (s.heap.objs.size+3) s.heap.objs.size (s.heap.objs.size+1):=by constructor <;> (intro z;simp at z)
 refine⟨_,[s.heap.objs.size+4,s.heap.objs.size+2,s.heap.objs.size+3,s.heap.objs.size,s.heap.objs.size+1],_,_,H,rfl,I.kept (t':=s.toks) z7,YN (a:=a) (b:=b) D,⟨_,_,z1,z2,z3,z4,z5⟩,λc hc=>?_,q _ _ P α r (qF.refl _) (AA _) (JC qa qb ta tb)⟩;have hl:s.heap.objs.size<=c:=by
  simp only[Av,Bj,Du] at hc;rcases hc with rfl|rfl|rfl|rfl|rfl <;> simp
 exact I.fpOk hl (I.hok.fresh hl)
inductive ZipV (ds:Aa D)(its:Aa D):Prop
 |tup (xs ys:Aa D) (ed:ds=[.tup xs,.tup ys]) (e:its=yF xs ys)
 |lst (xs ys:Aa D) (ed:ds=[.lst xs,.lst ys]) (e:its=yF xs ys)
theorem GX (h:NN ds=Ab its):ZipV ds its:=by
 cases ds with
 |nil=>exact nn h
 |cons a ds =>
  cases a with
  |tup xs =>
   cases ds with
   |nil=>exact nn h
   |cons b ds =>
    cases b with
    |tup ys =>
     cases ds with
     |nil=>exact .tup xs ys rfl (Bh h).symm
     |cons _ _=>exact nn h
    |_=>exact nn h
  |lst xs =>
   cases ds with
   |nil=>exact nn h
   |cons b ds =>
    cases b with
    |lst ys =>
     cases ds with
     |nil=>exact .lst xs ys rfl (Bh h).symm
     |cons _ _=>exact nn h
    |_=>exact nn h
  |_=>exact nn h
theorem BM (hg:Gl X "zip")(hm:X.mg "zip" = none)(ha:PA X [e1,e2] (tDA X f))(hs:Ay [e1,e2] X.env=(false,eval e1 X.env)::Ay [e2] X.env:=by rfl)(hpl:(Di pos (Ay [e2] X.env)).any (·.1)=false:=by rfl) :
  PI X (.Tuple elts x1 tpos) (.Call (.Name "zip" p) [e1,e2] [] pos) (tDI X (j3 f)):=by
 intro pins s σ H R I h;obtain⟨P,α,env,S,r,re,af⟩:=h;refine Vx (w4 I hg hm boot_zip (CK (thn (xS ha I r re af pos) λus s1 ⟨vs,H1,P1,α1,ds,S1,I1,rv,r1,re1,rp,e1,e2,af1⟩=>?_) hs hpl));obtain⟨its,hi,q⟩:=v8 af1;cases GX hi with
 |tup xs ys ed e =>
  subst ed e;obtain⟨v,w,u,x,rfl,rfl,p1,p2,q1,q2⟩:=pM rp rv;simp only[Rep] at p1 p2;obtain⟨a,va,rfl,qa,ta⟩:=p1;obtain⟨b,vb,rfl,qb,tb⟩:=p2;cases (show u=AU a from q1)
  cases (show x=AU b from q2)
  exact ZS (tp:=true) I1 r1 qa qb ta tb (q.base e1 e2)
 |lst xs ys ed e =>
  subst ed e;obtain⟨v,w,u,x,rfl,rfl,p1,p2,q1,q2⟩:=pM rp rv;simp only[Rep] at p1 p2;obtain⟨a,va,rfl,qa,ta⟩:=p1;obtain⟨b,vb,rfl,qb,tb⟩:=p2;cases (show u=AU a from q1)
  cases (show x=AU b from q2)
  exact ZS (tp:=false) I1 r1 qa.l qb.l ta tb (q.base e1 e2)
end
def Src (K:Aj)(mg:As->Al Ac)(x:As)(st:Dd)(ps:Aa As):Prop:=∃ f fd,mg x=Ab (.ref f)/\Fun K x x st f fd/\yJ K fd ps []
def Lk (K:Aj)(f:Af)(fd:Dq):Prop:=∃ oc od osl,K.lookup f=Ab ⟨oc,od,.func fd,osl⟩
theorem pE {K:Aj}{x q:As}{st:Dd}{f:Af}{fd:Dq}(F:Fun K x q st f fd):Lk K f fd:=by
 obtain⟨oc,od,kV,doc,pm,an,cdv,ct,osl,_,lk,_⟩:=F.ex;exact⟨oc,od,osl,lk⟩
theorem Lk.one {K:Aj}{f:Af}{fd fd':Dq}(h:Lk K f fd)(h':Lk K f fd'):fd=fd':=by
 obtain⟨oc,od,osl,e⟩:=h;obtain⟨oc',od',osl',e'⟩:=h';rw[e] at e';cases e';rfl
noncomputable def Def (P:A5)(w:AL)(K:Aj)(mg:As->Al Ac)(base:AB)(cm:Ap)(k:Ai)(x:As)(n:Ai)(F:DF):Prop:=
 ∃ f fd ps,ps.length=n/\mg x=Ab (.ref f)/\CJ K (.ref f)=true/\yJ K fd ps [] /\ Lk K f fd/\FnX P w K mg base cm k f fd ps (spD K n F)
def lB (P:A5)(w:AL)(K:Aj)(mg:As->Al Ac)(base:AB)(cm:Ap)(k:Ai)(x:As)(ps:Aa As)(F:DF):Prop:=
 ∃ f fd,mg x=Ab (.ref f)/\CJ K (.ref f)=true/\yJ K fd ps [] /\ Lk K f fd/\FnX P w K mg base cm k f fd ps (spD K ps.length F)
section
variable {P:A5}{w:AL}{K:Aj}{mg:As->Al Ac}{base:AB}{cm:Ap}
theorem YY {x:As}{f:Af}{fd:Dq}{cdv:Ac}(hm:mg x=Ab (.ref f))(lk:Lk K f fd)(h:fd.code=cdv/\Mod K mg base):jU K x cdv:=λc T e=>by
 obtain⟨oc,od,osl,lk⟩:=lk;rw[<- h.1];exact PySem.W.law_code h.2.kin h.2.glob e hm (h.2.kin _ _ lk) rfl
theorem BI {x:As}{st:Dd}{ps:Aa As}{k:Ai}{g:DS}(h:Src K mg x st ps)(S:FnScope N ps (qH st))
  (hbody:∀ (f:Af) (cdv:Ac) (A:AK) (outer:Aa Gj) (s:Ag) (H:Hp) (E:XK),jU K x cdv->RoomC cm k (A.deeper (Eb x (qH st) s.heap.objs.size f cdv)) ->
   PSs (cxC cm P w K mg base N x (qH st) f cdv A outer s H E) (zJ st) (tDS (cxC cm P w K mg base N x (qH st) f cdv A outer s H E) g)):Def P w K mg base cm (k+1) x ps.length (qX N.length g):=by
 obtain⟨f,fd,hm,F,hb⟩:=h;exact⟨f,fd,ps,rfl,hm,F.kp,hb,pE F,fnX F S λcdv A outer s H E hc hr=>hbody f cdv A outer s H E (YY hm (pE F) hc) hr⟩
theorem UE {x:As}{st:Dd}{ps:Aa As}{k:Ai}{g:DS}(h:Src K mg x st ps)(S:FnScope N ps (qH st))
  (hbody:∀ (f:Af) (cdv:Ac) (A:AK) (outer:Aa Gj) (s:Ag) (H:Hp) (E:XK),jU K x cdv->RoomC cm k (A.deeper (Eb x (qH st) s.heap.objs.size f cdv)) ->
   PSs (cxC cm P w K mg base N x (qH st) f cdv A outer s H E) (zJ st) (tDS (cxC cm P w K mg base N x (qH st) f cdv A outer s H E) g)):lB P w K mg base cm (k+1) x ps (qX N.length g):=by
 obtain⟨f,fd,hm,F,hb⟩:=h;exact⟨f,fd,hm,F.kp,hb,pE F,fnX F S λcdv A outer s H E hc hr=>hbody f cdv A outer s H E (YY hm (pE F) hc) hr⟩
theorem Def.mono {x:As}{j k n:Ai}{F:DF}(h:Def P w K mg base cm j x n F)(hk:j<=k:=by decide):Def P w K mg base cm k x n F:=by
 obtain⟨f,fd,ps,hn,hm,kp,hb,hl,X⟩:=h;exact⟨f,fd,ps,hn,hm,kp,hb,hl,X.len,λA outer s H args us vs Q E hr=>X.run A outer s H args us vs Q E (hr.mono hk)⟩
theorem Def.any {x:As}{k n:Ai}{F:DF}(h:Def P w K mg base false k x n F):Def P w K mg base cm k x n F:=by
 obtain⟨f,fd,ps,hn,hm,kp,hb,hl,X⟩:=h;exact⟨f,fd,ps,hn,hm,kp,hb,hl,X.any⟩
end
section
variable {X:Cx}{cm:Ap}{k n:Ai}{F:DF}{x:As}{p pos:CN}{e:AM}{es:Aa AM}{fa:DA}
theorem dcN (G:Def X.prog X.w X.K X.mg X.base cm k x n F)(hr:RoomC cm k X.A)(hF:Fn1 X)(hg:Gl X x)(ha:PA X (e::es) (tDA X fa))(hdb:(x == ("__debug__" : As))=false:=by decide)(he:Ay (e::es) X.env=(false,eval e X.env)::Ay es X.env:=by rfl)(hpl:(Di pos (Ay es X.env)).any (·.1)=false:=by rfl) :
  PE X (.Call (.Name x p) (e::es) [] pos) (tD X (qR n F fa)):=by
 obtain⟨f,fd,ps,hn,hm,kp,hb,hl,G⟩:=G;exact U7 G hr hF hg hm kp hb ha hdb he hpl
theorem dcL (G:Def X.prog X.w X.K X.mg X.base cm k x n F)(hr:RoomC cm k X.A)(hF:Fn1 X)(hg:Gl X x)(ha:PA X (e::es) (tDA X fa))(hdb:(x == ("__debug__" : As))=false:=by decide)(he:Ay (e::es) X.env=(false,eval e X.env)::Ay es X.env:=by rfl)(hpl:(Di pos (Ay es X.env)).any (·.1)=false:=by rfl) :
  PE X (.Call (.Name x p) (e::es) [] pos) (tD X (qR n (uN F) fa)):=by
 obtain⟨f,fd,ps,hn,hm,kp,hb,hl,G⟩:=G;exact X9 G hr hF hg hm kp hb ha hdb he hpl
theorem B8 (hg:Gl X x)(hm:X.mg x=Ab (.ref C))(hk:CJ X.K (.ref C)=true)(hd:(x == ("__debug__" : As))=false:=by decide):PE X (.Name x pos) (tD X (dC (.obj C))):=
 rO hg hm (v:=.ref C) rfl (λP α => by simp only[Rep];exact⟨trivial,hk⟩) hd
end
noncomputable def yB:DF:=λds S=>match ds with
 |[.dct0]=>.bad
 |_=>d8 ds S
theorem VX {X:Cx}:wJ X (.builtin "len") yB:=PR trivial
noncomputable def gI:DE:=λ_ _=>.bad
theorem B7 {X:Cx}{e:AM}:PE X e (tD X gI):=λ_ _ _ _ _ _ ⟨_,_,_,_,_,_,h⟩=>An h
theorem YX:∃ C:Am->Am->Ap,C=lJ:=⟨_,rfl⟩
def YW:Am->Am->Ap:=Vj YX
theorem lK:YW=lJ:=Qc YX
def yC:G2:=i2 YW λi j=>.int (i*j)
theorem eM {X:Cx}:OpD X (CS .Mult) yC:=by
 unfold yC;rw[lK];exact JZ
theorem hu1 {cm:Ap}{k:Ai}{A:AK}(hr:RoomC cm k A):A.units+1<Ee:=by have:=hr.units;lia
theorem ZX:CU "tuple" = Ab (.type "tuple"):=by decide +kernel
theorem iP:CU "len" = Ab (.builtin "len"):=by decide +kernel
noncomputable def okO (F:DF):DF:=λds S=>match F ds S with
 |.ok d S'=>.ok d S'
 |_=>.bad
theorem ME {F:DF}{S':Sto}{d:D}(h:F ds S=.ok d S'):okO F ds S=.ok d S':=by unfold okO;rw[h]
section
variable {X:Cx}{cm:Ap}{k n:Ai}{F:DF}{x:As}{p pos:CN}{e:AM}{es:Aa AM}{fa:DA}{f:Af}{fd:Dq}{ps:Aa As}
theorem GA {pins:Aa (Af × AX)}{σ:_L.St}{H:Hp}{s:Ag}{Q:VK}{us:Aa Ac}{P:Hp}(G:FnX X.prog X.w X.K X.mg X.base cm k f fd ps (spD X.K n F))(hr:RoomC cm k X.A)(hb:yJ X.K fd ps [])
  (I:Inv X pins σ H s) (r:Rel X.K H P α S) (rv:qJ vs us) (rp:qD X.K P α ds vs) (hn:ds.length=n) (af:qU X P α (okO F ds S) Q):Ao (Ar X.prog X.w) X.A (call (.ref f) us) (EP X pins σ Q) X.xe s:=by
 have hvn:vs.length=n:=by rw[<- rp.length];exact hn
 have hsp:spD X.K n F vs H Q λ_ _ _=>CP:=by
  refine⟨hvn,P,α,ds,S,r,rp,?_⟩;unfold okO at af;cases q:F ds S with
  |ok d S'=>rw[q] at af;exact af
  |ex c x S'=>rw[q] at af;exact An af
  |bad=>rw[q] at af;exact af
 have hl:us.length=ps.length:=by rw[<- rv.length];exact G.len _ _ _ _ hsp
 have hb':=hb s us I.kIn (by rw[Df];exact hl)
 rw[Df] at hb';refine Mc (Hb (G.run X.A X.stack s H ⟨us,[]⟩ us vs Q _ hr I.env0 hb' rv hsp) λr s' hq=>?_);cases r with
 |error u =>
  obtain⟨_,_,_,_,_,_,_,_,_,_,_,_,z⟩:=hq;exact An z
 |ok fl =>
  cases fl with
  |ret u=>exact I.after hq
  |next=>exact An hq
  |brk=>exact An hq
  |cont=>exact An hq
theorem dcO (G:Def X.prog X.w X.K X.mg X.base cm k x n F)(hr:RoomC cm k X.A)(hg:Gl X x)(ha:PA X (e::es) (tDA X fa))(hdb:(x == ("__debug__" : As))=false:=by decide)(he:Ay (e::es) X.env=(false,eval e X.env)::Ay es X.env:=by rfl)(hpl:(Di pos (Ay es X.env)).any (·.1)=false:=by rfl) :
  PE X (.Call (.Name x p) (e::es) [] pos) (tD X (qR n (okO F) fa)):=by
 obtain⟨f,fd,ps,hn0,hm,hk,hb,hl,G⟩:=G;intro pins s σ H Q I h;obtain⟨P,α,env,S,r,re,af⟩:=h;refine CW (v3 I hg hm ?_ hdb);refine Hv (h₀:=X.base) I.ok.mod.kin hk (thn (xS ha I r re af pos) λus s1 ⟨vs,H1,P1,α1,ds,S1,I1,rv,r1,re1,rp,e1,e2,af1⟩=>⟨I1.kIn,?_⟩) he hpl;obtain⟨hn,af2⟩:=gM (env:=env) (S:=S) af1;exact GA G hr hb I1 r1 rv rp hn (qU.base e1 e2 af2)
end
structure QE (X:Cx)(e:AM)(f:DE):Prop where
 get:PE X e (tD X f)
structure QT (X:Cx)(e:AM)(t:DT):Prop where
 get:PT X e (tDT X t)
structure QW (X:Cx)(e:AM)(t:DT):Prop where
 get:PWD X e t
structure QA (X:Cx)(es:Aa AM)(f:DA):Prop where
 get:PA X es (tDA X f)
structure QO (X:Cx)(e:Al AM)(f:DO):Prop where
 get:PO X e (tDO X f)
structure QG (X:Cx)(t:AM)(g:DG):Prop where
 get:PG X t (tDG X g)
structure QGs (X:Cx)(ts:Aa AM)(g:DGs):Prop where
 get:PGs X ts (sL X g)
structure QI (X:Cx)(tg it:AM)(f:DI):Prop where
 get:PI X tg it (tDI X f)
structure QS (X:Cx)(s:Dd)(f:DS):Prop where
 get:PS X s (tDS X f)
structure QB (X:Cx)(ss:Aa Dd)(f:DS):Prop where
 get:PSs X ss (tDS X f)
structure ZOp (X:Cx)(f:Ac->Ac->Il Ac)(g:G2):Prop where
 get:OpD X f g
structure ZUn (X:Cx)(f:Ac->Il Ac)(g:D->Sto->Res D):Prop where
 get:UnD X f g
structure ZIx (X:Cx)(g:G2):Prop where
 get:IxD X g
structure ZCall (X:Cx)(f:Ac)(F:DF):Prop where
 get:wJ X f F
structure ZMt (X:Cx)(id:CF)(g:D->Aa D->Sto->Res D):Prop where
 get:MtD X id g
structure ZSet (X:Cx)(g:G3):Prop where
 get:lC X (l9 X g)
structure ZPass (X:Cx):Prop where
 get:Pw (Ar X.prog X.w) X.A X.env X.xe
section
variable {X:Cx}{a b c e e1 e2 o i:AM}{es qO:Aa AM}{fa fb fc fe fo fi:DE}{ta tb:DT}{fA:DA}{f g:DS}{st:Dd}{sts:Aa Dd}{x:As}{p pos:CN}{n k:Ai}{cm:Ap}{F:DF}{G2':G2}
theorem QV:QE X (.Constant .none j pos) (dC .non):=⟨BD⟩
theorem VF:QE X (.Constant (.bool v) j pos) (dC (.bl v)):=⟨NS⟩
theorem T7:QE X (.Constant (.int v) j pos) (dC (.int v)):=⟨BB⟩
theorem TC:QE X (.Constant (.str v) j pos) (dC (.str v)):=⟨BG⟩
theorem TF (m:Ai)(hN:X.N[m]? = Ab x)(hv:Vis X.env.scope x)(hd:(x == ("__debug__" : As))=false)(hcd:(x == ("__classdict__" : As))=false):QE X (.Name x pos) (qC m):=⟨dv m hN hv hd hcd⟩
theorem KG {nm:CF}(hg:Gl X x)(hm:X.mg x=none)(hv:CU x=Ab (.type nm))(hn:x ≠ "__name__")(hd:(x == ("__debug__" : As))=false):QE X (.Name x pos) (dC (.ty nm)):=⟨U6 hg hm hv hn hd⟩
theorem T6 (hg:Gl X x)(hm:X.mg x=Ab (.ref C))(hk:CJ X.K (.ref C)=true)(hd:(x == ("__debug__" : As))=false):QE X (.Name x pos) (dC (.obj C)):=⟨B8 hg hm hk hd⟩
theorem KJ {v:Am}(hg:Gl X x)(hm:∃ t,X.mg x=Ab (.int v t))(hd:(x == ("__debug__" : As))=false):QE X (.Name x pos) (dC (.int v)):=⟨let ⟨_,h⟩:=hm;rO (v:=.int v) hg h ⟨_,rfl⟩ (λ_ _=>by simp only[Rep]) hd⟩
theorem T4:QE X e gI:=⟨B7⟩
theorem DU {op:UnaryOp}{h:D->Sto->Res D}(ho:ZUn X (Uy op) h)(ha:QE X a fa):QE X (.UnaryOp op a pos) (d1 h fa):=⟨NW ho.1 ha.1⟩
theorem TB (ha:QE X a fa):QE X (.UnaryOp .Not a pos) (cS fa):=⟨BE ha.1⟩
theorem DR {op:Operator}(ho:ZOp X (CS op) G2')(ha:QE X a fa)(hb:QE X b fb):QE X (.BinOp a op b pos) (d2 G2' fa fb):=⟨NV ho.1 ha.1 hb.1⟩
theorem QU {op:Rm}(ho:ZOp X (Cz op) G2')(ha:QE X a fa)(hb:QE X b fb)(hm:IN op b=false:=by first|exact jM _|with_unfolding_all rfl):QE X (.Compare a [op] [b] pos) (d2 G2' fa fb):=⟨B9 ho.1 ha.1 hb.1 hm⟩
theorem Y0 {op op':Rm}{g':G2}(ho:ZOp X (Cz op) G2')(ho':ZOp X (Cz op') g')(ha:QE X a fa)(hb:QE X b fb)(hc:QE X c fc)(hm:Ui [op,op'] [b,c]=false:=by with_unfolding_all rfl):QE X (.Compare a [op,op'] [b,c] pos) (wG G2' g' fa fb fc):=⟨XA ho.1 ho'.1 ha.1 hb.1 hc.1 hm⟩
theorem QX  (h:QE X a fa):QE X (.BoolOp op [a] pos) fa:=⟨BF h.1⟩
theorem QQ (ha:QE X a fa)(hb:QE X (.BoolOp .And (b::qO) pos) fb):QE X (.BoolOp .And (a::b::qO) pos) (uZ fa fb):=⟨B6 ha.1 hb.1⟩
theorem QY  (h:QA X es fA):QE X (.Tuple es x1 pos) (zL fA):=⟨BH h.1⟩
theorem T9 (h:QA X es fA):QE X (.List es pos) (zT fA):=⟨BC h.1⟩
theorem KL (h:QA X es fA):QE X (.List es pos) (nW fA):=⟨UA h.1⟩
theorem KH:QE X (.Dict [] [] pos) nV:=⟨U9⟩
theorem DQ (ho:ZIx X G2')(ha:QE X a fa)(hb:QE X b fb)(hs:fX b:=by intro _ _;rfl):QE X (.Subscript a b pos) (d2 G2' fa fb):=⟨NU ho.1 ha.1 hb.1 hs⟩
theorem Y2 {lo hi:Al AM}{fl fh:DO}{p2:CN}(he:QE X e fe)(hl:QO X lo fl)(hu:QO X hi fh):QE X (.Subscript e (.Slice lo hi none p2) pos) (dSl fe fl fh):=⟨XC he.1 hl.1 hu.1⟩
theorem KR:QO X none zH:=⟨UK⟩
theorem KS (he:QE X e fe):QO X (Ab e) (zA fe):=⟨UL he.1⟩
theorem QN:QA X [] qB:=⟨B0⟩
theorem eQ (ha:QE X e fa)(hr:QA X es fA)(hs:Ay (e::es) X.env=(false,eval e X.env)::Ay es X.env:=by rfl):QA X (e::es) (qA fa fA):=⟨U5 ha.1 hr.1 hs⟩
theorem qcN (G:Def X.prog X.w X.K X.mg X.base cm k x n F)(hr:RoomC cm k X.A)(hF:Fn1 X)(hg:Gl X x)(ha:QA X (e::es) fA)(hdb:(x == ("__debug__" : As))=false)(he:Ay (e::es) X.env=(false,eval e X.env)::Ay es X.env:=by rfl)(hpl:(Di pos (Ay es X.env)).any (·.1)=false:=by rfl):QE X (.Call (.Name x p) (e::es) [] pos) (qR n F fA):=⟨dcN G hr hF hg ha.1 hdb he hpl⟩
theorem qcL (G:Def X.prog X.w X.K X.mg X.base cm k x n F)(hr:RoomC cm k X.A)(hF:Fn1 X)(hg:Gl X x)(ha:QA X (e::es) fA)(hdb:(x == ("__debug__" : As))=false)(he:Ay (e::es) X.env=(false,eval e X.env)::Ay es X.env:=by rfl)(hpl:(Di pos (Ay es X.env)).any (·.1)=false:=by rfl):QE X (.Call (.Name x p) (e::es) [] pos) (qR n (uN F) fA):=⟨dcL G hr hF hg ha.1 hdb he hpl⟩
theorem WZ {id:CF}(hc:ZCall X (.builtin id) F)(hg:Gl X x)(hm:X.mg x=none)(hv:CU x=Ab (.builtin id))(ha:QA X (e::es) fA)(hn:x ≠ "__name__")(hdb:(x == ("__debug__" : As))=false)(he:Ay (e::es) X.env=(false,eval e X.env)::Ay es X.env:=by rfl)(hpl:(Di pos (Ay es X.env)).any (·.1)=false:=by rfl):QE X (.Call (.Name x p) (e::es) [] pos) (qL F fA):=⟨X7 hc.1 hg hm hv ha.1 hn hdb he hpl⟩
theorem QR {T:CF}(hc:ZCall X (.type T) F)(hg:Gl X x)(hm:X.mg x=none)(hv:CU x=Ab (.type T))(ha:QA X (e::es) fA)(hn:x ≠ "__name__")(hdb:(x == ("__debug__" : As))=false)(he:Ay (e::es) X.env=(false,eval e X.env)::Ay es X.env:=by rfl)(hpl:(Di pos (Ay es X.env)).any (·.1)=false:=by rfl):QE X (.Call (.Name x p) (e::es) [] pos) (qL F fA):=⟨o4 hc.1 hg hm hv ha.1 hn hdb he hpl⟩
theorem i3 {T id:CF}{name:As}{apos:CN}{h:D->Aa D->Sto->Res D}(pa:PlainAttrs T)(slot:Slot T name id)(hty:typeOf (.builtin id)=pure (.type "method_descriptor"))(hT:T = "list" \/ T = "dict" \/ T = "int" \/ T = "str")(hm:ZMt X id h)(ho:QE X o fo)(ha:QA X (e::es) fA)
  (hbase:attributeBase o name X.env (eval o X.env)=eval o X.env:=by rfl)
  (hfew:((Di pos (Ay (e::es) X.env)).all (λx=>!x.1)&&(backToKw pos (keywordEach [] X.env)).all (λx=>x.1.isSome)&&decide ((e::es).length+([]:Aa Xn).length+(if ([] : Aa Xn).isEmpty then 0 else 1)<30))=true:=by rfl)
  (hline:(apos.endLine == pos.line)=true:=by rfl) (hs:Ay (e::es) X.env=(false,eval e X.env)::Ay es X.env:=by rfl) (hplain:(Di pos (Ay es X.env)).any (·.1)=false:=by rfl):QE X (.Call (.Attribute o name apos) (e::es) [] pos) (dBm T h fo fA):=⟨NT pa slot hty hT hm.1 ho.1 ha.1 hbase hfew hline hs hplain⟩
theorem VH (h:QW X e ta):QT X e ta:=⟨PWD.pt h.1⟩
theorem fN (ha:QT X a ta):QW X (.BoolOp .Or [a] pos) ta:=⟨F0 ha.1⟩
theorem l6 (ha:QT X a ta)(hb:QW X (.BoolOp .Or (b::qO) pos) tb):QW X (.BoolOp .Or (a::b::qO) pos) (k8 ta tb):=⟨L7 ha.1 hb.1⟩
theorem TU (ha:QT X a ta):QT X (.UnaryOp .Not a pos) (xK ta):=⟨BY ha.1⟩
theorem Z5 {op:Rm}(ho:ZOp X (Cz op) G2')(ha:QE X a fa)(hb:QE X b fb)(hm:IN op b=false:=by first|exact jM _|with_unfolding_all rfl):QT X (.Compare a [op] [b] pos) (dTr (d2 G2' fa fb)):=⟨BX ho.1 ha.1 hb.1 hm⟩
theorem Y7 {op op':Rm}{g':G2}(ho:ZOp X (Cz op) G2')(ho':ZOp X (Cz op') g')(ha:QE X a fa)(hb:QE X b fb)(hc:QE X c fc)(hm:Ui [op,op'] [b,c]=false:=by with_unfolding_all rfl):QT X (.Compare a [op,op'] [b,c] pos) (dTr (wG G2' g' fa fb fc)):=⟨XJ ho.1 ho'.1 ha.1 hb.1 hc.1 hm⟩
theorem Z6 (ha:QE X a fa)(he:∀ whole,isTrue a X.env whole=(do let v <- whole;NE a.pos;holding [v] (truthy v)):=by intro _;rfl):QT X a (dTr fa):=⟨BZ ha.1 he⟩
theorem KP (hN:X.N.Nodup)(hi:X.N[m]? = Ab x)(hx:Loc X.env.scope x)(hf:X.fn x=true\/X.env.scope.names.lookup x=Ab .local):QG X (.Name x pos) (gNm m):=⟨UF hN hi hx hf⟩
theorem eR:QGs X [] yM:=⟨UG⟩
theorem dY {h:DG}{gs:DGs}(h1:QG X e h)(h2:QGs X es gs)(hs:(Ew (e::es) X.env).map (·.2)=assign e X.env::(Ew es X.env).map (·.2):=by rfl):QGs X (e::es) (zU h gs):=⟨XD h1.1 h2.1 hs⟩
theorem QZ {kk:Ai}{gs:DGs}(hc:X.calm=true)(h:QGs X es gs)(hn:(Ew es X.env).length=n:=by rfl)(hst:(Ew es X.env).findIdx? (·.1)=none:=by rfl):QG X (.Tuple es kk pos) (gTp n gs):=⟨BK hc h.1 hn hst⟩
theorem TH {h:G3}(ho:QE X o fo)(hi:QE X i fi)(hs:ZSet X h)
  (ha:∀ v,assign (.Subscript o i pos) X.env v=(do
   let ov <- holding [v] (eval o X.env)
   let iv <- holding [v,ov] (eval i X.env)
   NE pos
   holding [v,ov,iv] (Xi ov iv v)
   release [v,ov,iv] []):=by intro _;rfl):QG X (.Subscript o i pos) (gSb fo fi h):=⟨BJ ho.1 hi.1 hs.1 ha⟩
theorem TK {tg:AM}(ha:QE X e fa):QI X tg e (gL fa):=⟨BL ha.1⟩
theorem Y3 {tg:AM}(hg:Gl X "range")(hm:X.mg "range" = none)(ha:QA X (e::es) fA)(hs:Ay (e::es) X.env=(false,eval e X.env)::Ay es X.env:=by rfl)(hpl:(Di pos (Ay es X.env)).any (·.1)=false:=by rfl):QI X tg (.Call (.Name "range" p) (e::es) [] pos) (vO fA):=⟨XE hg hm ha.1 hs hpl⟩
theorem Z3 {elts:Aa AM}{x1:Ai}{tpos:CN}(hg:Gl X "zip")(hm:X.mg "zip" = none)(ha:QA X [e1,e2] fA)(hs:Ay [e1,e2] X.env=(false,eval e1 X.env)::Ay [e2] X.env:=by rfl)(hpl:(Di pos (Ay [e2] X.env)).any (·.1)=false:=by rfl):QI X (.Tuple elts x1 tpos) (.Call (.Name "zip" p) [e1,e2] [] pos) (j3 fA):=⟨BM hg hm ha.1 hs hpl⟩
theorem QP:QB X [] zN:=⟨BQ⟩
theorem fM (h:QS X st f):QB X [st] f:=⟨BR h.1⟩
theorem pL (h1:QS X st f)(h2:QB X sts g):QB X (st::sts) (qQ f g):=⟨UM h1.1 h2.1⟩
theorem KU (he:QE X e fa)(hs:Jz e none pos.line X.env=pure false:=by rfl):QS X (.Expr e pos) (yD fa):=⟨UN he.1 hs⟩
theorem Z4 (he:QE X e fa):QS X (.Return (Ab e) pos) (z0 fa):=⟨BU he.1⟩
theorem VG {as bs:Aa Dd}(hc:QT X c ta)(ha:QB X as f)(hb:QB X bs g):QS X (.If c as bs pos) (sIf ta f g):=⟨L4 hc.1 ha.1 hb.1⟩
theorem TM {tg iter:AM}{fI:DI}{h:DG}(hp:ZPass X)(hc:X.calm=true)(hi:QI X tg iter fI)(hg:QG X tg h)(hb:QB X body f)(hs:∀ x,Co iter X.env x=pure x:=by intro _;rfl):QS X (.For tg iter body [] pos) (tF fI h f):=⟨BP hp.1 hc hi.1 hg.1 hb.1 hs⟩
theorem TQ {pos':CN}(hN:X.N.Nodup)(he:QE X e fa)(hi:X.N[m]? = Ab x)(hx:Loc X.env.scope x)(hs:Jz e (Ab (.Name x pos')) pos.line X.env=pure false)(hf:X.fn x=true\/X.env.scope.names.lookup x=Ab .local):QS X (.Assign [.Name x pos'] e pos) (zG fa (gNm m)):=⟨BV hN he.1 hi hx hs hf⟩
theorem TL {tg:AM}{h:DG}(he:QE X e fa)(hg:QG X tg h)(hs:IM [tg] e pos.line X.env=pure false:=by rfl)(hw:IL [tg] e X.env=pure none:=by rfl)(h1:(Ew [tg] X.env).map (·.2)=[assign tg X.env]:=by rfl):QS X (.Assign [tg] e pos) (zG fa h):=⟨BO he.1 hg.1 hs hw h1⟩
theorem TN {l:Ai}{y:As}{px pt:CN} {kt k2 pt2} (hc:X.calm=true) (hN:X.N.Nodup) (ha:QA X [a,b] fA) (hi:X.N[m]? = Ab x) (hj:X.N[l]? = Ab y) (hij:m≠l) (hx:X.env.scope.names.lookup x=Ab .local) (hy:X.env.scope.names.lookup y=Ab .local)
  (hw:IL [.Tuple [.Name x px,.Name y py] kt pt] (.Tuple [a,b] k2 pt2) X.env=pure (Ab [x,y]):=by rfl) (hs:IM [.Tuple [.Name x px,.Name y py] kt pt] (.Tuple [a,b] k2 pt2) pos.line X.env=pure false:=by rfl) :
  QS X (.Assign [.Tuple [.Name x px,.Name y py] kt pt] (.Tuple [a,b] k2 pt2) pos) (gV m l fA):=⟨BS hc hN ha.1 hi hj hij hx hy hw hs⟩
theorem Y6 {Ae:Af}{np cpos:CN}(hc:X.calm=true)(hF:Fn1 X)(hg:Gl X x)(hm:X.mg x=Ab (.ref C))(hx:b9 X.K C Ae=true)(ha:QA X (e::qO) fA)(hdb:(x == ("__debug__" : As))=false)(he:Ay (e::qO) X.env=(false,eval e X.env)::Ay qO X.env:=by rfl)(hpl:(Di cpos (Ay qO X.env)).any (·.1)=false:=by rfl) :
  QS X (.Raise (Ab (.Call (.Name x np) (e::qO) [] cpos)) none pos) (jQ (.ref C) fA):=⟨XI hc hF hg hm hx ha.1 hdb he hpl⟩
theorem TR {nm:As}{C0:Af}{b₀:Dd}{suite:Aa Dd}{np hpos:CN}{cs:Aa Ac}(hF:Fn1 X)(hb:∀ E pn,ZPass (Cx.tryIn X E pn)->QB (Cx.tryIn X E pn) body f)(hs:∀ e,QB (Cx.suite X e) (b₀::suite) g)(hg:Gl X x)(hm:X.mg x=Ab (.ref C0))(hcs:∀ c∈cs,Hn X.K c (.ref C0)=Ab true)(hN:X.N.Nodup)(hi:X.N[m]? = Ab nm)(hlo:X.env.scope.names.lookup nm=Ab .local)(hdb:(x == ("__debug__" : As))=false)(hn:X.N.length=n) :
  QS X (.Try body [.ExceptHandler (Ab (.Name x np)) (Ab nm) (b₀::suite) hpos] [] [] pos) (bL n m cs f g):=⟨hn▸BW hF (λE pn hp=>(hb E pn ⟨hp⟩).1) (λe=>(hs e).1) hg hm hcs hN hi hlo hdb⟩
theorem SL:ZOp X (CS .Add) zC:=⟨M9⟩
theorem SV:ZOp X (CS .Sub) j8:=⟨MD⟩
theorem SQ:ZOp X (CS .Mult) yC:=⟨eM⟩
theorem SM:ZOp X (CS .FloorDiv) mH:=⟨MA⟩
theorem SO:ZOp X (CS .Mod) j7:=⟨MB⟩
theorem SS:ZOp X (CS .Pow) aA:=⟨MC⟩
theorem EH:ZOp X (Cz .Lt) gLt:=⟨D8⟩
theorem EG:ZOp X (Cz .LtE) gLe:=⟨D7⟩
theorem EE:ZOp X (Cz .GtE) gGe:=⟨D5⟩
theorem NH:ZOp X (Cz .Is) gIs:=⟨D6⟩
theorem NG (hr:RoomC cm k X.A):ZOp X (Cz .Eq) gEq:=⟨D4 hr.units⟩
theorem NL (hr:RoomC cm k X.A):ZOp X (Cz .NotEq) gNe:=⟨D9 hr.units⟩
theorem SR:ZUn X (Uy .USub) bE:=⟨NA⟩
theorem EF:ZIx X gIx:=⟨RP⟩
theorem VQ:ZCall X (.builtin "isinstance") zV:=⟨iT⟩
theorem NI {cl:Aa Af}(h:ClsK X.K cl):ZCall X (.builtin "isinstance") (zQ cl):=⟨VV h⟩
theorem VR:ZCall X (.builtin "len") yB:=⟨VX⟩
theorem VP (hc:X.calm=true):ZCall X (.builtin "all") (j6 false):=⟨PP false hc⟩
theorem SN:ZCall X (.type "int") a8:=⟨PQ⟩
theorem GW:ZCall X (.type "tuple") vR:=⟨X2⟩
theorem NJ:ZCall X (.type "list") pA:=⟨VY⟩
theorem YO:ZMt X "list.append" yZ:=⟨Q0⟩
theorem GU:ZMt X "list.count" bV:=⟨WG⟩
theorem GV:ZMt X "list.index" bW:=⟨WH⟩
theorem SU (hr:RoomC cm k X.A):ZSet X vA:=⟨N0 (hu1 hr)⟩
end
section
variable {P:A5}{w:AL}{K:Aj}{mg:As->Al Ac}{base:AB}{cm:Ap}
theorem cC {qual:As}{scope:Cs}{f:Af}{cd:Ac}{A:AK}{outer:Aa Gj}{s:Ag}{H:Hp}{E:XK}:ZPass (cxC cm P w K mg base N qual scope f cd A outer s H E):=⟨X5⟩
theorem RF {x:As}{st:Dd}{ps:Aa As}{k:Ai}{g:DS}(h:Src K mg x st ps)(S:FnScope N ps (qH st))(hbd:zJ st=body)
  (hbody:∀ (f:Af) (cdv:Ac) (A:AK) (outer:Aa Gj) (s:Ag) (H:Hp) (E:XK),jU K x cdv->RoomC cm k (A.deeper (Eb x (qH st) s.heap.objs.size f cdv)) ->
   QB (cxC cm P w K mg base N x (qH st) f cdv A outer s H E) body g):Def P w K mg base cm (k+1) x ps.length (qX N.length g):=
 BI h S λf cdv A outer s H E hc hr=>hbd▸(hbody f cdv A outer s H E hc hr).1
theorem NY {x:As}{st:Dd}{ps:Aa As}{k:Ai}{g:DS}(h:Src K mg x st ps)(S:FnScope N ps (qH st))(hbd:zJ st=body)
  (hbody:∀ (f:Af) (cdv:Ac) (A:AK) (outer:Aa Gj) (s:Ag) (H:Hp) (E:XK),jU K x cdv->RoomC cm k (A.deeper (Eb x (qH st) s.heap.objs.size f cdv)) ->
   QB (cxC cm P w K mg base N x (qH st) f cdv A outer s H E) body g):lB P w K mg base cm (k+1) x ps (qX N.length g):=
 UE h S λf cdv A outer s H E hc hr=>hbd▸(hbody f cdv A outer s H E hc hr).1
theorem UD {x:As}{st:Dd}{ps:Aa As}(h:Src K mg x st ps):Def P w K mg base cm 0 x ps.length λ_ _=>.bad:=by
 obtain⟨f,fd,hm,F,hb⟩:=h;exact⟨f,fd,ps,rfl,hm,F.kp,hb,pE F,⟨λvs H Q E z=>z.1,λA outer s H args us vs Q E _ _ _ _ z=>by obtain⟨_,_,_,_,_,_,_,z⟩:=z;exact An z⟩⟩
end
structure QTs (X:Cx)(ifs:Aa AM)(t:DT):Prop where
 get:PTs X ifs t
section
variable {X:Cx}{elt tg iter e:AM}{ifs es:Aa AM}{scope:Cs}{pos p:CN}{N':Aa As}{cap:Aa (Al Ai)}{fi:DI}{g:DG}{t u:DT}{fe:DE}{fa:DA}{x:As}{cm:Ap}{k n:Ai}{F:DF}
theorem eU:QTs X [] xI:=⟨UQ⟩
theorem qcO (G:Def X.prog X.w X.K X.mg X.base cm k x n F)(hr:RoomC cm k X.A)(hg:Gl X x)(ha:QA X (e::es) fa)(hdb:(x == ("__debug__" : As))=false)(he:Ay (e::es) X.env=(false,eval e X.env)::Ay es X.env:=by rfl)(hpl:(Di pos (Ay es X.env)).any (·.1)=false:=by rfl) :
  QE X (.Call (.Name x p) (e::es) [] pos) (qR n (okO F) fa):=⟨dcO G hr hg ha.1 hdb he hpl⟩
end
def stn (o:Al (Ai × MO))(S:Sto):Prop:=match o with
 |none=>Jn
 |some p=>S[p.1]? = Ab p.2
open Classical in
def iB (o:Al (Ai × MO))(S:Sto):Ap:=decide (stn o S)
theorem wF {o:Al (Ai × MO)}:iB o S=true↔stn o S:=by simp[iB]
structure ItD2 (K:Aj)(J:It)(P:Hp)(α : Aa Af)(o:Al (Ai × MO))(ds:Aa D):Prop where
 go:∀ i H P1 α1 S,i<ds.length->Rel K H P1 α1 S->stn o S->qF P P1->α<+:α1->J.go i H
 yld:∀ i H x H' P1 α1 S,i<ds.length->Rel K H P1 α1 S->stn o S->qF P P1->α<+:α1->J.yld i H x H'->∃ P2 d,ds[i]? = Ab d/\Rel K H' P2 α1 S/\qF P1 P2/\Rep K P2 α1 d x
 stop:∀ i H P1 α1 S,ds.length<=i->Rel K H P1 α1 S->stn o S->qF P P1->α<+:α1->J.stop i H
theorem ItD.two {K:Aj}{J:It}{P:Hp}(h:ItD K J P α ds):ItD2 K J P α none ds:=
 ⟨λi H P1 α1 S a b _ c d=>h.go i H P1 α1 S a b c d,λi H x H' P1 α1 S a b _ c d e=>h.yld i H x H' P1 α1 S a b c d e,λi H P1 α1 S a b _ c d=>h.stop i H P1 α1 S a b c d⟩
abbrev DI2:=qE->Sto->Res (Al (Ai × MO) × Aa D)
inductive tDI2 (X:Cx)(f:DI2)(σ : _L.St)(H:Hp)(R:It->Hp->Prop):Prop
 |mk (P:Hp) (α : Aa Af) (env:qE) (S:Sto) (r:Rel X.K H P α S) (re:qY X.K P α σ env) (af:qG X P α (f env S) (λp S'=>∀ J H' P' α',Rel X.K H' P' α' S'->qF P P'->α<+:α'->ItD2 X.K J P' α' p.1 p.2->R J H')):tDI2 X f σ H R
noncomputable def xE (f:DI):DI2:=λenv S=>(f env S).bind λds S1=>.ok (none,ds) S1
section
variable {X:Cx}{K:Aj}{tg e:AM}{fa:DE}{pos:CN}
theorem UI {f:DI}(h:PI X tg e (tDI X f)):PI X tg e (tDI2 X (xE f)):=PI.weak h λσ H R ⟨P,α,env,S,r,re,af⟩=>by
 refine⟨P,α,env,S,r,re,?_⟩;unfold xE at af;cases q:f env S with
 |bad=>rw[q] at af;exact af
 |ex c x S'=>rw[q] at af;exact af
 |ok ds S1 =>
  rw[q] at af;exact λJ H' P' α' r' e1 e2 it=>af J H' P' α' r' e1 e2 it.two
theorem JA {P:Hp}{a:Af}{n:Ai}(hα:α[n]? = Ab a):ItD2 K (Itl K a) P α (Ab (n,.lst ds)) ds where
 go:=λi H P1 α1 S hi r st e e2=>by
  obtain⟨vs,z,t⟩:=r.at' n a _ (pJ e2 hα) st;exact⟨vs,vs[i]'(by rw[<- t.length];exact hi),.of z,by simp⟩
 yld:=λi H x H' P1 α1 S hi r st e e2 y=>by
  obtain⟨rfl,y⟩:=y;obtain⟨vs,z,t⟩:=r.at' n a _ (pJ e2 hα) st;have hx:=y vs (.of z);obtain⟨v,h1,h2⟩:=t.get (Au hi);rw[hx] at h1;cases h1;exact⟨P1,_,Au hi,r,qF.refl _,h2⟩
 stop:=λi H P1 α1 S hi r st e e2=>by
  obtain⟨vs,z,t⟩:=r.at' n a _ (pJ e2 hα) st;exact⟨vs,.of z,by rw[<- t.length];exact hi⟩
noncomputable def itD (d:D)(S:Sto):Res (Al (Ai × MO) × Aa D):=match d with
 |.tup xs=>.ok (none,xs) S
 |.lst xs=>.ok (none,xs) S
 |.loc n=>match S[n]? with
  |some (.lst xs)=>.ok (Ab (n,.lst xs),xs) S
  |_=>.bad
 |_=>.bad
noncomputable def dIt (f:DE):DI2:=λenv S=>(f env S).bind λd S1=>itD d S1
theorem NZ (ha:PE X e (tD X fa)):PI X tg e (tDI2 X (dIt fa)):=by
 intro pins s σ H R I h;obtain⟨P,α,env,S,r,re,af⟩:=h;refine thn (zS ha I r re af) λvv s1 ⟨v,H1,P1,α1,d,S1,G1,af1⟩=>?_;have seq:∀ ds,zW d=Ab ds->(∀ J H' P' α',Rel X.K H' P' α' S1->qF P P'->α<+:α'->ItD2 X.K J P' α' none ds->R J H')->Ao (Ar X.prog X.w) X.A (Kk vv) (PIE X pins σ tg R) X.xe s1:=λds e1 q =>
  dE G1.inv G1.rel G1.val G1.rep e1 λJ H' P' α' r' h1 h2 it=>q J H' P' α' r' (G1.same.trans h1) (G1.pre.trans h2) it.two
 cases d with
 |tup xs=>exact seq xs rfl af1
 |lst xs=>exact seq xs rfl af1
 |loc n =>
  obtain⟨xs,hS,af1⟩:=kP (X:=X) (f:=λxs=>Res.ok (Ab (n,MO.lst xs),xs) S1) af1;have rp:=G1.rep;simp only[Rep] at rp;obtain⟨a,rfl,ha⟩:=rp;cases (show vv=AU a from G1.val)
  obtain⟨vs,z,t⟩:=G1.rel.at' n a _ ha hS;obtain⟨its,rv,p,hz⟩:=G1.inv.list (SqL.of z);refine Ei p.isList ?_;refine⟨s1.heap.objs.size,[s1.heap.objs.size],_,_,H1,rfl,G1.inv.kept (t':=s1.toks) λb o e=>Ah _ e,nM a _,⟨_,A7 _ rfl,rfl,rfl⟩,λb hb=>?_,af1 _ _ P1 α1 G1.rel G1.same G1.pre (JA ha)⟩;have e:b=s1.heap.objs.size:=by simpa using hb
  subst e;exact G1.inv.fpOk (Aq _) (G1.inv.hok.fresh (Aq _))
 |_=>exact An af1
end
noncomputable def emX (m:Ap)(elt:AM)(acc:Ac)(env:Gj):Il Mx:=match m with
 |false=>do let _ <- call (.builtin "list.append") [acc,<- eval elt env]
 |true=>do let v <- eval elt env;NE elt.pos;let _ <- call (.builtin "set.add") [acc,v]
noncomputable def zF (m:Ap)(elt:AM)(gens:Aa Bo)(scope:Cs)(pos:CN)(k:Ai)(acc:Ac)(env:Gj):Il Mx:=
 match gens[k+1]? with
 |some g'=>do
  let x <- eval g'.iter env
  NE g'.iter.pos
  let x <- Co g'.iter env x
  let it <- holding [x] (Kk x)
  let _ <- runOwn (.compStart (xN m elt gens scope pos) (k+1) it acc env) env
 |none=>emX m elt acc env
theorem YM (m:Ap)(elt target iter:AM)(ifs:Aa AM)(gens:Aa Bo)(scope:Cs)(pos:CN)(it acc:Ac)(env:Gj)(k:Ai)(hg:gens[k]? = Ab ⟨target,iter,ifs,0⟩)(ha:∀ g',gens[k+1]? = Ab g'->g'.is_async=0) :
  Vz (xN m elt gens scope pos) k it acc env=(do
   NE iter.pos
   match <- Jt it with
   |none=>pure (.done .next)
   |some v =>
    Hx target it v
    assign target env v
    let mut ok:=true
    for c in ifs do
     if ok then ok <- isTrue c env (eval c env)
    if ok then zF m elt gens scope pos k acc env
    again (.compLoop (xN m elt gens scope pos) k it acc env)):=by
 cases m <;>
 .unfold Vz zF xN emX
  simp only[hg];cases q:gens[k+1]? with
  |none=>rfl
  |some g' =>
   have h0:=ha g' q;have e0:(g'.is_async != 0)=false:=by rw[h0];rfl
   simp only[e0,AR,CB,bind_assoc,pure_bind];rfl
abbrev DK:=qE->Sto->Aa D->Res (qE × Aa D)
def goL (o:Al (Ai × MO))(g:DG)(t:DT)(k:DK):Aa D->DK
 |[],env,S,acc=>if iB o S then .ok (env,acc) S else .bad
 |d::ds,env,S,acc=>if iB o S then (g d env S).bind λenv1 S1=>(t env1 S1).bind λb S2 =>
   if b then (k env1 S2 acc).bind λp S3=>goL o g t k ds p.1 S3 p.2 else goL o g t k ds env1 S2 acc
  else .bad
noncomputable def zK (fe:DE):DK:=λenv S acc=>(fe env S).bind λx S1=>if acc.length<lim then .ok (env,acc++[x]) S1 else .bad
def kIn (fi:DI2)(g:DG)(t:DT)(k:DK):DK:=λenv S acc=>(fi env S).bind λp S1=>goL p.1 g t k p.2 env S1 acc
def cE (B:Acc)(Y:Cx)(pins:Aa (Af × AX))(P1:Hp)(α1:Aa Af)(acc:Af)(env:qE)(S:Sto)(ds:Aa D)(s:Ag):Prop:=
 ∃ σ H P α o,TurnSt B Y pins P1 α1 [] acc env S ds s σ H P α o
def PK (B:Acc)(Y:Cx)(step:Ac->Il Mx)(k:DK):Prop:=
 ∀ (pins:Aa (Af × AX)) (P1:Hp) (α1:Aa Af) (acc:Af) (env env':qE) (S S':Sto) (ds ds':Aa D) (s:Ag),(∀ H:Hp,H acc=none->x5 Y pins H acc)->cE B Y pins P1 α1 acc env S ds s->k env S ds=.ok (env',ds') S' ->
  Ao (Ar Y.prog Y.w) Y.A (step (.ref acc)) (λ_ s'=>cE B Y pins P1 α1 acc env' S' ds' s') (λ_ _=>CP) s
section
variable {B:Acc}{Y:Cx}{elt tg iter:AM}{ifs:Aa AM}{gens:Aa Bo}{scope:Cs}{pos:CN}{k:Ai}{g:DG}{t:DT}{fe:DE}{it acc:Af}{fp:Aa Af}{J:It}{tn:Ai->AB->Prop}{items:Aa D}{P1:Hp}{α1:Aa Af}{pins:Aa (Af × AX)}
theorem oH {X:Cx}{H:Hp}{b:Af}{h:AB}(f:x5 X pins H b)(hn:b ∉ fp):x5 X (pins++yP fp h) H b:=by
 obtain⟨f0,f1,f2,f3,f4,f5⟩:=f;refine⟨f0,f1,f2,f3,f4,λp hp=>?_⟩;rcases Ba.mp hp with z|z
 .exact f5 p (Bk _ z)
 .rcases Ba.mp z with z|z
  .exact f5 p (AI _ z)
  .rintro rfl
   exact hn (nD z).1
theorem Res.bind_inv {β γ:Type}{r:Res β}{f:β->Sto->Res γ}{x:γ}(h:r.bind f=.ok x S):∃ b S1,r=.ok b S1/\f b S1=.ok x S:=by
 cases r with
 |ok b S1=>exact⟨b,S1,rfl,h⟩
 |_=>cases h
inductive GoC (o:Al (Ai × MO))(g:DG)(t:DT)(k:DK)(d:D)(ds acc:Aa D)(env:qE)(S SF:Sto)(x:qE × Aa D):Prop
 |no (env1:qE) (S1 S2:Sto) (z:stn o S) (q1:g d env S=.ok env1 S1) (q2:t env1 S1=.ok false S2) (r:goL o g t k ds env1 S2 acc=.ok x SF):GoC o g t k d ds acc env S SF x
 |yes (env1:qE) (S1 S2:Sto) (env5:qE) (ds5:Aa D) (S5:Sto) (z:stn o S) (q1:g d env S=.ok env1 S1) (q2:t env1 S1=.ok true S2) (q3:k env1 S2 acc=.ok (env5,ds5) S5) (r:goL o g t k ds env5 S5 ds5=.ok x SF):GoC o g t k d ds acc env S SF x
set_option tactic.hygienic true in
theorem XZ {o:Al (Ai × MO)}{k:DK}{d:D}{acc:Aa D}{x:qE × Aa D}(h:goL o g t k (d::ds) env S acc=.ok x SF):GoC o g t k d ds acc env S SF x:=by
 simp only[goL] at h
 split at h
 .rename_i z
  obtain⟨env1,S1,q1,h⟩:=Res.bind_inv h;obtain⟨b,S2,q2,h⟩:=Res.bind_inv h;cases b with
  |false=>exact .no env1 S1 S2 (wF.mp z) q1 q2 h
  |true =>
   obtain⟨⟨env5,ds5⟩,S5,q3,h⟩:=Res.bind_inv h;exact .yes env1 S1 S2 env5 ds5 S5 (wF.mp z) q1 q2 q3 h
 .cases h
set_option tactic.hygienic true in
theorem UZ {o:Al (Ai × MO)}{k:DK}{acc:Aa D}(h:goL o g t k [] env S acc=.ok (envF,dsF) SF):stn o S/\env=envF/\acc=dsF/\S=SF:=by
 simp only[goL] at h
 split at h
 .rename_i z
  cases h;exact⟨wF.mp z,rfl,rfl,rfl⟩
 .cases h
inductive LpI (B:Acc)(Y:Cx)(pins:Aa (Af × AX))(P1:Hp)(α1:Aa Af)(fp:Aa Af)(acc:Af)(tn:Ai->AB->Prop)(G:Aa D->DK)(items:Aa D)(x:qE × Aa D)(SF:Sto)(n:Ai)(s:Ag):Prop
 |mk (i:Ai) (σ : _L.St) (H P:Hp) (α : Aa Af) (o:AX) (env:qE) (S:Sto) (ds:Aa D) (hn:n=items.length-i) (hi:i<=items.length) (st:TurnSt B Y pins P1 α1 fp acc env S ds s σ H P α o) (st1:tn i s.heap) (run:G (items.drop i) env S ds=.ok x SF):LpI B Y pins P1 α1 fp acc tn G items x SF n s
theorem GM {m:Ap}{M:Im}{A:AK}{Q:Fin->Ag->Prop}{E:Ac->Ag->Prop}{s:Ag}{it acc:Ac}{en:Gj}(hgk:gens[k]? = Ab ⟨tg,iter,ifs,0⟩)(has:∀ g',gens[k+1]? = Ab g'->g'.is_async=0)
  (ha:∀ s,Qa s->Q (.again (.compLoop (xN m elt gens scope pos) k it acc en)) s) (hd:∀ s,Qd s->Q (.done .next) s)
  (h:Ao M A (Jt it) (λr s1=>(r=none->Qd s1)/\∀ v,r=Ab v->Ao M A (Hx tg it v) (λ_ s2=>Ao M A (assign tg en v) (λ_ s3=>Ao M A (jR ifs en) (λb s4=>(b=false->Qa s4)/\(b=true->Ao M A (zF m elt gens scope pos k acc en) (λ_ s5=>Qa s5) E s4)) E s3) E s2) E s1) E s) :
  Ao M A (Vz (xN m elt gens scope pos) k it acc en) Q E s:=by
 rw[YM m elt tg iter ifs gens scope pos it acc en k hgk has];refine Ad (Hw (Ad (thn h λr s1 ⟨h0,h1⟩=>?_)));cases r with
 |none=>exact Ak (hd _ (h0 rfl))
 |some v =>
  refine Ad (thn (h1 v rfl) λ_ s2 h2=>Ad (thn h2 λ_ s3 h3=>Ad (thn h3 λb s4 h4=>?_)));cases b with
  |false=>exact Ak (ha _ (h4.1 rfl))
  |true=>exact Ad (thn (h4.2 rfl) λ_ s5 h5=>Ak (ha _ h5))
theorem UY (hfp:∀ H:Hp,(∀ b∈fp,H b=none)->∀ b∈fp,x5 Y pins H b)(hne:acc ∉ fp)(o:AX)(H':Hp)(hn:∀ b∈fp,H' b=none):∀ b∈fp,x5 Y (pins++[(acc,o)]) H' b:=λb hb=>by
 obtain⟨f0,f1,f2,f3,f4,f5⟩:=hfp H' hn b hb;refine⟨f0,f1,f2,f3,f4,λp hp=>?_⟩;rcases Ba.mp hp with z|z
 .exact f5 p (Bk _ z)
 .rcases Ba.mp z with z|z
  .exact f5 p (AI _ z)
  .rw[Bq.mp z]
   rintro rfl;exact hne hb
theorem uT {i:Ai}{h:AB}(T:Turn Y.prog Y.w Y.K tg J fp it tn)(st2:tn (i+1) h)(pl:∀ b∈fp,∃ o,h.get? b=Ab o/\∀ v,o.data≠.cell v){s5:Ag}{σ5:_L.St}{H5:Hp}(I5:Inv Y (pins++yP fp h) σ5 H5 s5):tn (i+1) s5.heap/\(∀ b∈fp,H5 b=none):=by
 refine⟨T.keep _ _ _ st2 λb hb o' e=>(I5.pin (b,o') (AI _ (AI _ (vF hb e)))).1,λb hb=>?_⟩;obtain⟨o',e,d'⟩:=pl b hb;exact(I5.pin (b,o') (AI _ (AI _ (vF hb e)))).2.1
theorem cR {kk:DK}{E:Ac->Ag->Prop}{s:Ag}{σ:_L.St}{H P:Hp}{o:AX}{i:Ai}(hc:Y.calm=true)(hx:Y.xe=λ_ _=>CP)
  (T:Turn Y.prog Y.w Y.K tg J fp it tn) (hit:ItD2 Y.K J P1 α1 o' items) (hg:PG Y tg (tDG Y g)) (ht:PTs Y ifs t) (he:PK B Y (λacc=>zF B.m elt gens scope pos k acc Y.env) kk) (hacc:∀ H:Hp,H acc=none->x5 Y pins H acc) (hfp:∀ H:Hp,(∀ b∈fp,H b=none)->∀ b∈fp,x5 Y pins H b) (hne:acc ∉ fp)
  (hi:i<=items.length) (st:TurnSt B Y pins P1 α1 fp acc env S ds s σ H P α o) (st1:tn i s.heap) (run:goL o' g t kk (items.drop i) env S ds=.ok (envF,dsF) SF)
  (hA:∀ s' σ' H' P' α' o1 env1 S' ds',i<items.length->TurnSt B Y pins P1 α1 fp acc env1 S' ds' s' σ' H' P' α' o1->tn (i+1) s'.heap->goL o' g t kk (items.drop (i+1)) env1 S' ds'=.ok (envF,dsF) SF->Qa s')
  (hD:∀ s' σ' H' P' α' o',TurnSt B Y pins P1 α1 fp acc envF SF dsF s' σ' H' P' α' o'->Qd s') :
  Ao (Ar Y.prog Y.w) Y.A (Jt (.ref it)) (λr s1=>(r=none->Qd s1)/\∀ v,r=Ab v->Ao (Ar Y.prog Y.w) Y.A (Hx tg (.ref it) v) (λ_ s2=>Ao (Ar Y.prog Y.w) Y.A (assign tg Y.env v) (λ_ s3=>Ao (Ar Y.prog Y.w) Y.A (jR ifs Y.env) (λb s4=>(b=false->Qa s4)/\(b=true->Ao (Ar Y.prog Y.w) Y.A (zF B.m elt gens scope pos k (.ref acc) Y.env) (λ_ s5=>Qa s5) E s4)) E s3) E s2) E s1) E s:=by
 have I1:=_D.Inv.pin1 st.inv (hacc H st.acn) st.at' (B.cell st.acc);have fp1:=UY hfp hne o;by_cases hlt:i<items.length
 .have hdr:items.drop i=items[i]::items.drop (i+1):=Fp hlt
  rw[hdr] at run;have run:=XZ run;have hst:stn o' S:=by cases run with|no _ _ _ z=>exact z|yes _ _ _ _ _ _ z=>exact z
  refine jB (T.item Y rfl rfl rfl hc i _ s σ H (λ_ _=>CP) I1 (fp1 H st.fpn) st1 (hit.go i H P α S hlt st.rel hst st.same st.pre)) λr s1 ⟨u,hr,h1⟩=>⟨λz=>(by rw[hr] at z;cases z),λv hv=>?_⟩
  obtain rfl:v=u:=Bh (hv.symm.trans hr);refine jB h1 λ_ s2 ⟨x,H2,I2,rx,y,st2,fr2⟩=>?_;obtain⟨P2,d,hd,r2,e2,rp⟩:=hit.yld i H x H2 P α S hlt st.rel hst st.same st.pre y;cases (Au hlt).symm.trans hd;have pl:=T.obj _ _ st2;have I2':=I2.pinned (fp1 _ fr2) pl;have two:∀ env1 S1 b S2,g items[i] env S=.ok env1 S1->t env1 S1=.ok b S2->(∀ s4 σ3 H4 P4 α4 (I4:Inv Y (pins++yP fp s2.heap) σ3 H4 s4),TurnSt B Y pins P1 α1 fp acc env1 S2 ds s4 σ3 H4 P4 α4 o->tn (i+1) s4.heap->(b=false->Qa s4)/\(b=true->Ao (Ar Y.prog Y.w) Y.A (zF B.m elt gens scope pos k (.ref acc) Y.env) (λ_ s5=>Qa s5) E s4))->Ao (Ar Y.prog Y.w) Y.A (assign tg Y.env v) (λ_ s3=>Ao (Ar Y.prog Y.w) Y.A (jR ifs Y.env) (λb s4=>(b=false->Qa s4)/\(b=true->Ao (Ar Y.prog Y.w) Y.A (zF B.m elt gens scope pos k (.ref acc) Y.env) (λ_ s5=>Qa s5) E s4)) E s3) E s2:=by
   intro env1 S1 b S2 q1 q2 next;refine jB (hx▸RX hg I2' r2 (st.env.mono e2 (AA _)) rx rp q1) λ_ s3 ⟨σ3,H3,P3,α3,I3,r3,re3,e3,e3'⟩=>?_;refine jB (hx▸DP ht I3 r3 re3 q2) λb' s4 ⟨hb,H4,P4,α4,I4,r4,re4,e4,e4'⟩=>?_;have I4':Inv Y (pins++yP fp s2.heap) σ3 H4 s4:=I4.pins_of λp hp=>I4.pin p (AI _ ((Ba.mp hp).elim (λz=>Bk _ (Bk _ z)) λz=>AI _ z));have a4:=I4.pin (acc,o) (AI _ (Bk _ (AI _ (Bq.mpr rfl))));rw[hb];exact next s4 σ3 H4 P4 α4 I4' ⟨I4'.unpinned,r4,re4,((st.same.trans e2).trans e3).trans e4,(st.pre.trans e3').trans e4',(uT T st2 pl I4').2,a4.2.1,a4.1,B.mono ((e2.trans e3).trans e4) (e3'.trans e4') st.acc⟩ (uT T st2 pl I4').1
  cases run with
  |no env1 S1 S2 _ q1 q2 run=>exact two env1 S1 false S2 q1 q2 λs4 σ3 H4 P4 α4 I4 st4 tn4=>⟨λ_=>hA s4 σ3 H4 P4 α4 o env1 S2 ds hlt st4 tn4 run,λz=>(by cases z)⟩
  |yes env1 S1 S2 env5 ds5 S5 _ q1 q2 q3 run =>
   refine two env1 S1 true S2 q1 q2 λs4 σ3 H4 P4 α4 I4 st4 tn4=>⟨λz=>(by cases z),λ_=>?_⟩
   refine jB (he (pins++yP fp s2.heap) P1 α1 acc env1 env5 S2 S5 ds ds5 s4 (λH hn=>oH (hacc H hn) hne) ⟨σ3,H4,P4,α4,o,I4,st4.rel,st4.env,st4.same,st4.pre,λb hb=>(by cases hb),st4.acn,st4.at',st4.acc⟩ q3) λ_ s5 ⟨σ5,H5,P5,α5,o5,T5⟩=>?_
   exact hA s5 σ5 H5 P5 α5 o5 env5 S5 ds5 hlt ⟨T5.inv.unpinned,T5.rel,T5.env,T5.same,T5.pre,(uT T st2 pl T5.inv).2,T5.acn,T5.at',T5.acc⟩ (uT T st2 pl T5.inv).1 run
 .rw[Kg li] at run
  obtain⟨z,rfl,rfl,rfl⟩:=UZ run;refine jB (T.done Y rfl rfl rfl hc i _ s σ H (λ_ _=>CP) I1 (fp1 H st.fpn) st1 (hit.stop i H P α _ li st.rel z st.same st.pre)) λr s1 ⟨hr,I2⟩=>⟨λ_=>?_,λv hv=>(by rw[hr] at hv;cases hv)⟩
  have a:=_D.Inv.pinned1 I2;exact hD s1 σ H P α o ⟨I2.unpinned,st.rel,st.env,st.same,st.pre,st.fpn,a.2,a.1,st.acc⟩
theorem WD (P:A5)(w:AL)(m:Ap)(elt:AM)(gens:Aa Bo)(scope:Cs)(pos:CN)(k:Ai)(it acc:Ac)(env:Gj):(Ar P w).den (.compLoop (xN m elt gens scope pos) k it acc env)=(Vz (xN m elt gens scope pos) k it acc env).onRaise (λx=>do Oa x env;theTreesLotGoes x):=by cases m <;> rfl
theorem WE (A:AK)(m:Ap)(elt:AM)(gens:Aa Bo)(scope:Cs)(pos:CN)(k:Ai)(it acc:Ac)(env:Gj):A.under (.compLoop (xN m elt gens scope pos) k it acc env)=A:=by cases m <;> rfl
theorem bP {kk:DK}{R:So->Ag->Prop}{s:Ag}{σ:_L.St}{H P:Hp}{ds0:Aa D}{o:AX}(hc:Y.calm=true)(hx:Y.xe=λ_ _=>CP)(hgk:gens[k]? = Ab ⟨tg,iter,ifs,0⟩)(has:∀ g',gens[k+1]? = Ab g'->g'.is_async=0)
  (T:Turn Y.prog Y.w Y.K tg J fp it tn) (hit:ItD2 Y.K J P1 α1 o' items) (hg:PG Y tg (tDG Y g)) (ht:PTs Y ifs t) (he:PK B Y (λacc=>zF B.m elt gens scope pos k acc Y.env) kk) (hacc:∀ H:Hp,H acc=none->x5 Y pins H acc) (hfp:∀ H:Hp,(∀ b∈fp,H b=none)->∀ b∈fp,x5 Y pins H b) (hne:acc ∉ fp)
  (st:TurnSt B Y pins P1 α1 fp acc env S ds0 s σ H P α o) (st0:tn 0 s.heap) (run:goL o' g t kk items env S ds0=.ok (envF,dsF) SF)
  (hR:∀ s' σ' H' P' α' o',TurnSt B Y pins P1 α1 fp acc envF SF dsF s' σ' H' P' α' o'->R (.ok .next) s') :
  Fn (Ar Y.prog Y.w) Y.A (.compLoop (xN B.m elt gens scope pos) k (.ref it) (.ref acc) Y.env) R s:=by
 refine codeAny_loop rfl (LpI B Y pins P1 α1 fp acc tn (goL o' g t kk) items (envF,dsF) SF) (λn s hI=>?_) items.length ⟨0,σ,H,P,α,o,env,S,ds0,rfl,Dp _,st,st0,run⟩;obtain⟨i,σ,H,P,α,o,env,S,ds,hn,hi,st,st1,run⟩:=hI;subst hn;rw[WD,WE];refine wpAny_noted (GM (m:=B.m) hgk has (Qa:=λs'=>∃ m,m<items.length-i/\LpI B Y pins P1 α1 fp acc tn (goL o' g t kk) items (envF,dsF) SF m s') (Qd:=R (.ok .next)) (λ_ h=>⟨rfl,h⟩) (λ_ h=>h) ?_);exact cR hc hx T hit hg ht he hacc hfp hne hi st st1 run (λs' σ' H' P' α' o1 env1 S' ds' hlt st' tn' run'=>⟨_,Nat.sub_succ_lt_self _ _ hlt,i+1,σ',H',P',α',o1,env1,S',ds',rfl,hlt,st',tn',run'⟩) hR
set_option tactic.hygienic true in
theorem KA (hx:Y.xe=λ_ _=>CP)(hlast:gens[k+1]? = none)(he:PE Y elt (tD Y fe)):PK accL Y (λacc=>zF false elt gens scope pos k acc Y.env) (zK fe):=by
 intro pins P1 α1 acc env env' S S' ds ds' s hacc ⟨σ,H,P,α,o,st⟩ run;show Ao _ _ (zF false elt gens scope pos k (.ref acc) Y.env) _ _ s;unfold zF;rw[hlast];dsimp only[emX];unfold zK at run;cases q3:fe env S with
 |bad=>rw[q3] at run;cases run
 |ex c z S'=>rw[q3] at run;cases run
 |ok d5 S5 =>
  rw[q3,Res.bind_ok] at run
  split at run
  .rename_i hlen
   cases run;have fA:=hacc H st.acn;have I1:=_D.Inv.pin1 st.inv fA st.at' (accL.cell st.acc);refine Ad (jB (hx▸MQ he I1 st.rel st.env q3) λu5 s5 ⟨v5,H5,P5,α5,G5⟩=>?_);have J:=_D.Inv.pinned1 G5.inv;have J1:=G5.inv.unpinned;obtain⟨J4,J5⟩:=J;obtain⟨its,n5,vs,ho,rvs,rps,hz⟩:=st.acc;subst ho;have hlen':vs.length=ds.length:=rps.length.symm;have hl2:=rvs.length;refine Ad (Mb Sz ⟨_,J4,rfl⟩ Rw (Rc _ _) (Ug acc its.toArray n5 u5 (by rw[AD];rw[<- zX];lia)) ⟨J4,?_⟩)
   have q:=Ve J4 (·.push u5)
   have fA5:=hacc H5 J5;have keep:∀ b o,b≠acc->s5.heap.get? b=Ab o->(s5.heap.update acc (Dn (·.push u5))).get? b=Ab o:=λb o hb e=>(Cf s5.heap _ (Ed hb)).trans e
   have I6:=J1.turned (t':=s5.toks) keep J5 fA5.2.1 fA5.2.2.2.1 fA5.2.2.2.2.1 fA5.2.2.2.2.2;refine Ak ⟨σ,H5,P5,α5,_,I6,G5.rel,G5.env,st.same.trans G5.same,st.pre.trans G5.pre,λb hb=>(by simp at hb),J5,q,?_⟩
   refine⟨its++[u5],_,vs++[v5],by simp <;> rfl,rvs.append (.cons G5.val .nil),?_,by simp;lia⟩
   exact(qD.mono G5.same G5.pre _ _ rps).append (.cons G5.rep .nil)
  .cases run
end
theorem gG {prog:A5}{w:AL}{A:AK}{R:So->Ag->Prop}{s:Ag}{elt:AM}{gens:Aa Bo}{scope:Cs}{pos:CN}{k:Ai}{it acc:Ac}{env:Gj}{g:Bo}{m:Ap}(hg:gens[k]? = Ab g)(ha:g.is_async=0)
  (h0:Fn (Ar prog w) A (.compLoop (xN m elt gens scope pos) k it acc env) R s)
  (h:Ao (Ar prog w) A (Kk it) (λit' s'=>Fn (Ar prog w) A (.compLoop (xN m elt gens scope pos) k it' acc env) R s') (notedBy (Ar prog w) A env λx s'=>R (.error x) s') s) :
  Fn (Ar prog w) A (.compStart (xN m elt gens scope pos) k it acc env) R s:=by
 refine Lr ?_;have e1:(Ar prog w).den (.compStart (xN m elt gens scope pos) k it acc env)=(compStart (xN m elt gens scope pos) k it acc env).onRaise (λx=>do Oa x env;NE theWindowsPlace):=by cases m <;> rfl
 have e2:A.under (.compStart (xN m elt gens scope pos) k it acc env)=A:=by cases m <;> rfl
 have e3:(Xq (xN m elt gens scope pos) k it acc env).quiet=true/\∀ it',(Xq (xN m elt gens scope pos) k it' acc env).quiet=true:=by cases m <;> exact⟨rfl,λ_=>rfl⟩
 rw[e1,e2];refine wpAny_notedAt ?_;have hcl:clausesOf (xN m elt gens scope pos)=gens:=by cases m <;> rfl
 have e0:(g.is_async != 0)=false:=by rw[ha];rfl
 unfold compStart;simp only[hcl,hg,Option.elim,e0,AR,CB];refine Ad (Gq (wpAny_ite ?_))
 split
 .exact Ak (And.intro e3.1 h0)
 .refine Ad (Ex ?_)
  exact Ad (Hw (Ad (Ff h (λit' s' h'=>Ak (And.intro (e3.2 _) h')) λ_ _ x=>x)))
section
variable {B:Acc}{Y:Cx}{elt tg iter:AM}{ifs:Aa AM}{gens:Aa Bo}{scope:Cs}{pos:CN}{k:Ai}{g:DG}{t:DT}{fi:DI2}{kk:DK}
theorem oG {X:Cx}{pins pl:Aa (Af × AX)}{H:Hp}{b:Af}(f:x5 X (pins++pl) H b):x5 X pins H b:=by
 obtain⟨f0,f1,f2,f3,f4,f5⟩:=f;refine⟨f0,f1,f2,f3,f4,λp hp=>f5 p ?_⟩;rcases Ba.mp hp with z|z
 .exact Bk _ z
 .exact AI _ (Bk _ z)
theorem DM (hc:Y.calm=true)(hx:Y.xe=λ_ _=>CP)(hgk:gens[k+1]? = Ab ⟨tg,iter,ifs,0⟩)(has:∀ g',gens[k+1+1]? = Ab g'->g'.is_async=0)(hi:PI Y tg iter (tDI2 Y fi))(hg:PG Y tg (tDG Y g))(ht:PTs Y ifs t)
  (he:PK B Y (λacc=>zF B.m elt gens scope pos (k+1) acc Y.env) kk) (hs:∀ x,Co iter Y.env x=pure x):PK B Y (λacc=>zF B.m elt gens scope pos k acc Y.env) (kIn fi g t kk):=by
 intro pins P1 α1 acc env env' S S' ds ds' s hacc ⟨σ,H,P,α,o,st⟩ run;show Ao _ _ (zF B.m elt gens scope pos k (.ref acc) Y.env) _ _ s;unfold zF;rw[hgk];dsimp only;unfold kIn at run;cases q:fi env S with
 |bad=>rw[q] at run;cases run
 |ex c z S'=>rw[q] at run;cases run
 |ok p S1 =>
  rw[q,Res.bind_ok] at run;have fA:=hacc H st.acn;have I1:=_D.Inv.pin1 st.inv fA st.at' (B.cell st.acc);have key:=hi (pins++[(acc,o)]) s σ H (λJ H1=>∃ P' α',Rel Y.K H1 P' α' S1/\qF P P'/\α<+:α'/\ItD2 Y.K J P' α' p.1 p.2) I1 ⟨P,α,env,S,st.rel,st.env,by rw[q];exact λJ H' P' α' r' e1 e2 it=>⟨P',α',r',e1,e2,it⟩⟩
  rw[hx] at key;refine Ad (jB key λv s1 h1=>Ad (Hw ?_));rw[hs];refine Ad (Ak (Ad (Cu (jB h1 λitv s2 h2=>?_))));obtain⟨it,fp,tn,J,H2,rfl,I2,T,st0,hf,P',α',r2,e1,e2,hit⟩:=h2;have a2:=_D.Inv.pinned1 I2;have hne:acc ∉ fp:=λhm=>(hf acc hm).2.2.2.2.2 (acc,o) (AI _ (AI _ (by simp))) rfl
  have loop:Fn (Ar Y.prog Y.w) Y.A (.compLoop (xN B.m elt gens scope pos) (k+1) (.ref it) (.ref acc) Y.env) (λr s'=>match r with
    |.ok f=>cE B Y pins P1 α1 acc env' S' ds' s'
    |.error _=>CP) s2:=by
   refine bP (pins:=pins) (fp:=fp) (P1:=P') (α1:=α') (σ:=σ) (H:=H2) (P:=P') (α:=α') (o:=o) hc hx hgk has T hit hg ht he hacc (λH hn b hb=>?_) hne
    ⟨I2.unpinned,r2,st.env.mono e1 e2,qF.refl _,AA _,λb hb=>(hf b hb).1,a2.2,a2.1,B.mono e1 e2 st.acc⟩ st0 run λs' σ' H' Pf αf o' T'=>?_
   .obtain⟨_,g1,g2,g3,g4,g5⟩:=oG (hf b hb)
    exact⟨hn b hb,g1,g2,g3,g4,g5⟩
   .exact⟨σ',H',Pf,αf,o',T'.inv,T'.rel,T'.env,(st.same.trans e1).trans T'.same,(st.pre.trans e2).trans T'.pre,λb hb=>(by simp at hb),T'.acn,T'.at',T'.acc⟩
  refine Ad (wpAny_runOwn (Hb (gG hgk rfl loop (T.self Y.A 0 _ _ _ st0 loop)) λr s' h=>?_));cases r with
  |error x=>exact An h
  |ok f=>exact Ak h
end
noncomputable def mkM (m:Ap)(r:Res (qE × Aa D)):Res D:=match r with
 |.ok p S2=>if m then .ok (.loc S2.length) (S2++[.lst p.2]) else .ok (.lst p.2) S2
 |_=>.bad
def zE (m:Ap)(cap:Aa (Al Ai))(fi:DI2)(g:DG)(t:DT)(k:DK):DE:=λenv S=>(fi env S).bind λp S1=>mkM m (goL p.1 g t k p.2 (zR cap env) S1 [])
section
variable {X:Cx}{elt tg iter:AM}{ifs:Aa AM}{scope:Cs}{pos:CN}{N':Aa As}{cap:Aa (Al Ai)}{fi:DI2}{g:DG}{t:DT}{kk:DK}{qO:Aa Bo}{mm:Ap}
theorem Q1 {P:Hp}{r:Res (qE × Aa D)}{Ok:D->Sto->Prop}(h:qG X P α (mkM mm r) Ok):∃ envF ds SF,r=.ok (envF,ds) SF/\(if mm then Ok (.loc SF.length) (SF++[.lst ds]) else Ok (.lst ds) SF):=by
 cases r with
 |ok p S =>
  obtain⟨envF,ds⟩:=p;refine⟨envF,ds,S,rfl,?_⟩;cases mm <;> exact h
 |ex c x S=>exact An h
 |bad=>exact An h
theorem XM {pins:Aa (Af × AX)}{σ:_L.St}{P1:Hp}{α1:Aa Af}{acc:Af}{s:Ag}{Q:VK}(c:jC X pins σ P1 α1 ds SF acc C s)(ok:if mm then OkV X P1 α1 Q (.loc SF.length) (SF++[.lst ds]) else OkV X P1 α1 Q (.lst ds) SF):EP X pins σ Q (.ref acc) s:=by
 cases mm with
 |false=>exact UR c ok
 |true =>
  obtain⟨H',P',α',vs,I,r,hn,e1,e2,rp,_⟩:=c;exact⟨.ref acc,_,I,rfl,mT r hn rp λv H2 P2 α2 r2 q1 q2 q3=>ok v H2 P2 α2 r2 (e1.trans q1) (e2.trans q2) q3⟩
theorem oA {M:Im}{A:AK}{E:Ac->Ag->Prop}{s:Ag}{globals:Af}{closure:Aa (As × Af)}{qual:As}{env:Gj}{Q:Gj->Ag->Prop}
  (hQ:Q (newEnv scope s.heap.objs.size globals (Fo (s.heap.objs.size+1) scope.names closure) qual none .none (Ab env) Lz) { s with heap:=Um (s.heap.push { cls:=.type "dict",data:=.dict #[] }) scope.names }) :
  Ao M A (Qv scope globals closure [] qual none .none (Ab env)) Q E s:=by
 simp only[Qv,Ta,Ct];refine Ad (Vk ?_);refine Ad (wpAny_layCells _ (λname kind cells=>by cases hkc:kind == Kq <;> simp[hkc]) _ _ _ _ ?_)
 rw[show ({ s with heap:=s.heap.push { cls:=.type "dict",data:=.dict #[] } } : Ag).heap.objs.size=s.heap.objs.size+1 from Ci ..]
 refine Ad ?_;rw[Mn];exact Ak (Ak hQ)
theorem uY {B:Acc}{o0:AX}{pins:Aa (Af × AX)}{σ:_L.St}{H2 P1:Hp}{α1:Aa Af}{s2:Ag}{S1:Sto}{items:Aa D}{it:Af}{fp:Aa Af}{tn:Ai->AB->Prop}{J:It}{E:Ac->Ag->Prop}{RR:Ac->Af->So->Ag->Prop}
  (hc:X.calm=true) (S:CompSc X.env.scope X.N scope N' cap) (has:∀ g',(⟨tg,iter,ifs,0⟩::qO:Aa Bo)[0+1]? = Ab g'->g'.is_async=0)
  (hg:∀ cl C ex s₀ H₀,PG (qN X N' scope cl C ex s₀ H₀) tg (tDG (qN X N' scope cl C ex s₀ H₀) g))
  (ht:∀ cl C ex s₀ H₀,PTs (qN X N' scope cl C ex s₀ H₀) ifs t) (he:∀ cl C ex s₀ H₀,PK B (qN X N' scope cl C ex s₀ H₀) (λacc=>zF B.m elt (⟨tg,iter,ifs,0⟩::qO) scope pos 0 acc (qN X N' scope cl C ex s₀ H₀).env) kk)
  (I2:Inv X pins σ H2 s2) (r:Rel X.K H2 P1 α1 S1) (re:qY X.K P1 α1 σ env) (T:Turn X.prog X.w X.K tg J fp it tn) (st0:tn 0 s2.heap) (hf:∀ b∈fp,x5 X pins H2 b) (hit:ItD2 X.K J P1 α1 o' items) (run:goL o' g t kk items (zR cap env) S1 [] = .ok (envF,ds) SF)
  (h0:B.O X.K P1 α1 [] o0) (hg0:o0.isFreed=false) (hRR:∀ acc C s',s2.heap.objs.size<=acc->(∃ m,s'.heap.Ns C m)->s2.heap.objs.size<=C->acc≠C->(∃ cl σ' H' P' α' o',TurnSt B (qN X N' scope cl C fp s2 H2) [] P1 α1 fp acc envF SF ds s' σ' H' P' α' o')->RR (.ref acc) C (.ok .next) s') :
  Ao (Ar X.prog X.w) X.A (Qv scope X.env.globals (wK X.env.cells scope.names []) [] X.env.qual none .none (Ab X.env)) (λcenv s₄ =>
   Fn (Ar X.prog X.w) X.A (.compStart (xN B.m elt (⟨tg,iter,ifs,0⟩::qO) scope pos) 0 (.ref it) (.ref s2.heap.objs.size) { cenv with scope:=relabel scope X.env }) (RR (.ref s2.heap.objs.size) cenv.locals) s₄) E { s2 with heap:=s2.heap.push o0 }:=by
 have hlt:∀ b∈fp,b<s2.heap.objs.size:=λb hb=>by
  obtain⟨o,e,_⟩:=T.obj 0 _ st0 b hb;exact Az e
 refine oA ?_;dsimp only;generalize hH2:s2.heap.push o0=Hh;have hsz:Hh.objs.size=s2.heap.objs.size+1:=by rw[<- hH2,Ci]
 have hC:s2.heap.objs.size<=Hh.objs.size:=by rw[hsz];exact Nk _
 have hne:s2.heap.objs.size≠Hh.objs.size:=by rw[hsz];exact AZ (Hq _)
 have kp:∀ b o,Hh.get? b=Ab o->(Um (Hh.push { cls:=.type "dict",data:=.dict #[] }) scope.names).get? b=Ab o:=λb o e=>Wa _ _ b o (Ah _ e);have hns₁:(Um (Hh.push { cls:=.type "dict",data:=.dict #[] }) scope.names).Ns Hh.objs.size (λ_=>none):=(Heap.Ns.new Hh (.type "dict")).keeps (Wa _ _);have co:=cellsFrom_ok scope.names (Hh.push { cls:=.type "dict",data:=.dict #[] }) (Hh.objs.size+1) [] ⟨λ_ _ hm=>(nomatch hm),Jy⟩ (by rw[Ci];exact Aq _)
 rw[Ci] at co;generalize hh₁:Um (Hh.push { cls:=.type "dict",data:=.dict #[] }) scope.names=h₁ at kp hns₁ co ⊢;have keep:∀ b o,s2.heap.get? b=Ab o->h₁.get? b=Ab o:=λb o e=>kp b o (hH2▸Ah _ e);have hacc:h₁.get? s2.heap.objs.size=Ab o0:=kp _ _ (hH2▸A7 _ hg0);have I4:∀ tk,Inv (qN X N' scope (jW X scope Hh.objs.size) Hh.objs.size fp s2 H2) [] (yW cap σ) H2 { s2 with heap:=h₁,toks:=tk }:=λtk =>
  X4 (s4:={ s2 with heap:=h₁,toks:=tk }) S I2 hf hlt hC hns₁ rfl rfl keep co
 have loop:∀ tk,Fn (Ar X.prog X.w) X.A (.compLoop (xN B.m elt (⟨tg,iter,ifs,0⟩::qO) scope pos) 0 (.ref it) (.ref s2.heap.objs.size) (compEnvC scope (jW X scope Hh.objs.size) Hh.objs.size X.env)) (RR (.ref s2.heap.objs.size) Hh.objs.size) { s2 with heap:=h₁,toks:=tk }:=λtk=>by
  refine bP (B:=B) (kk:=kk) (o':=o') (Y:=qN X N' scope (jW X scope Hh.objs.size) Hh.objs.size fp s2 H2) (pins:=[]) (fp:=fp) (acc:=s2.heap.objs.size) (P1:=P1) (α1:=α1) (σ:=yW cap σ) (H:=H2) (P:=P1) (α:=α1) (o:=o0) hc rfl rfl has T hit
   (hg _ _ _ _ _) (ht _ _ _ _ _) (he _ _ _ _ _) (λH hn=>?_) (λH hn b hb=>?_) (λhm=>Dh _ (hlt _ hm)) ⟨I4 tk,r,Z8 re cap,qF.refl _,AA _,λb hb=>(hf b hb).1,I2.hok.fresh (Aq _),hacc,h0⟩ (T.keep _ _ _ st0 λb hb o e=>keep b o e) run λs' σ' H' P' α' o' st=>?_
  .refine⟨hn,hne,λhm=>?_,.inr (Aq _),λx c h z=>?_,λp hp=>absurd (show p∈([]:Aa (Af × AX)) from hp) (by simp)⟩
   .obtain⟨_,o,ho,_⟩:=I2.stack.mem hm
    exact Dh _ (Az ho)
   .rcases xD S I2.ok h with⟨m,_⟩|⟨m,_⟩
    .exact Dh _ (Jl hC (z▸(co.empty x c m).2))
    .obtain⟨v,ob,hob,_⟩:=I2.cell x c m
     rw[z] at hob;exact Dh _ (Az hob)
  .obtain⟨_,h1,h2,h3,h4,h5⟩:=hf b hb
   refine⟨hn b hb,AZ (Ax (hlt b hb) hC),λhm=>?_,.inl hb,λx c h=>(by
    rcases xD S I2.ok h with⟨m,_⟩|⟨m,_⟩
    .exact Ed (AZ (Ge (Ax (hlt b hb) hC) (co.empty x c m).2))
    .exact h4 x c m),λp hp=>absurd (show p∈([]:Aa (Af × AX)) from hp) (by simp)⟩
   rcases Av.mp (I2.stkSub b hm) with z|z
   .exact h1 z
   .exact h2 z
  .obtain⟨m,hm,_⟩:=st.inv.loc
   exact hRR _ _ s' (Aq _) ⟨m,hm⟩ hC hne ⟨_,_,_,_,_,_,st⟩
 exact gG (k:=0) rfl rfl (loop _) (T.self X.A 0 _ _ _ (T.keep _ _ _ st0 λb hb o e=>keep b o e) (loop _))
theorem XB (hc:X.calm=true)(S:CompSc X.env.scope X.N scope N' cap)(hi:PI X tg iter (tDI2 X fi))
  (hg:∀ cl C ex s₀ H₀,PG (qN X N' scope cl C ex s₀ H₀) tg (tDG (qN X N' scope cl C ex s₀ H₀) g))
  (ht:∀ cl C ex s₀ H₀,PTs (qN X N' scope cl C ex s₀ H₀) ifs t) (has:∀ g',(⟨tg,iter,ifs,0⟩::qO:Aa Bo)[0+1]? = Ab g'->g'.is_async=0) (he:∀ cl C ex s₀ H₀,PK accL (qN X N' scope cl C ex s₀ H₀) (λacc=>zF false elt (⟨tg,iter,ifs,0⟩::qO) scope pos 0 acc (qN X N' scope cl C ex s₀ H₀).env) kk)
  (hs:∀ x,Co iter X.env x=pure x:=by intro _;rfl):PE X (.ListComp elt (⟨tg,iter,ifs,0⟩::qO) scope pos) (tD X (zE mm cap fi g t kk)):=by
 intro pins s σ H Q I h;obtain⟨P,α,env,S0,r,re,af⟩:=h;rw[eval_ListComp];have af':qG X P α ((fi env S0).bind λp S1=>mkM mm (goL p.1 g t kk p.2 (zR cap env) S1 [])) (OkV X P α Q):=af;refine Jh (use:=none) rfl hs (m9 S I.ok) S.kind S.names ?_;refine thn (hi pins s σ H (λJ H1=>∃ (P1:Hp) (α1:Aa Af) (p:Al (Ai × MO) × Aa _D.D) (S1:Sto),Rel X.K H1 P1 α1 S1/\qF P P1/\α<+:α1/\ItD2 X.K J P1 α1 p.1 p.2/\qG X P α (mkM mm (goL p.1 g t kk p.2 (zR cap env) S1 [])) (OkV X P α Q)) I ⟨P,α,env,S0,r,re,?_⟩) λxv s1 h1=>thn h1 λitv s2 h2=>?_
 .cases q:fi env S0 with
  |bad=>rw[q] at af';exact af'
  |ex c x S'=>rw[q] at af';exact af'
  |ok p S1=>rw[q] at af';exact λJ H1 P1 α1 r1 e1 e2 it=>⟨P1,α1,p,S1,r1,e1,e2,it,af'⟩
 obtain⟨it,fp,tn,J,H2,rfl,I2,T,st0,hf,P1,α1,p,S1,r1,e1,e2,hit,af1⟩:=h2;obtain⟨envF,ds,SF,run,ok⟩:=Q1 af1;refine Bu (uY (B:=accL) (o0:={ cls:=.type "list",dict:=none,data:=.seq ([] : Aa Ac).toArray }) (RR:=λacc C=>compPost (Ar X.prog X.w) X.A X.xe none (EP X pins σ Q) acc C) hc S has hg ht he I2 r1 (re.mono e1 e2) T st0 hf hit run ⟨[],0,[],rfl,.nil,.nil,Dp _⟩ rfl ?_);intro acc C s' hA ⟨m,hm⟩ hC hne ⟨cl,σf,Hf,Pf,αf,of,stf⟩;have fin:∀ h',CI C s'.heap h'->jC X pins σ P1 α1 ds SF acc C { s' with heap:=h' }:=λh' sb=>lO I2 hf rfl hC hA hne stf sb
 refine⟨m,hm,λh' sb=>XM (mm:=mm) (fin h' sb) ?_⟩;cases mm with
 |false=>exact λv H3 P3 α3 r3 q1 q2 q3=>ok v H3 P3 α3 r3 (e1.trans q1) (e2.trans q2) q3
 |true=>exact λv H3 P3 α3 r3 q1 q2 q3=>ok v H3 P3 α3 r3 (e1.trans q1) (e2.trans q2) q3
theorem XH {i:Ai}{y:As}{py spos:CN}(hc:X.calm=true)(hN:X.N.Nodup)(S:CompSc X.env.scope X.N scope N' cap)(hi:PI X tg iter (tDI2 X fi))
  (hg:∀ cl C ex s₀ H₀,PG (qN X N' scope cl C ex s₀ H₀) tg (tDG (qN X N' scope cl C ex s₀ H₀) g))
  (ht:∀ cl C ex s₀ H₀,PTs (qN X N' scope cl C ex s₀ H₀) ifs t) (has:∀ g',(⟨tg,iter,ifs,0⟩::qO:Aa Bo)[0+1]? = Ab g'->g'.is_async=0) (he:∀ cl C ex s₀ H₀,PK accL (qN X N' scope cl C ex s₀ H₀) (λacc=>zF false elt (⟨tg,iter,ifs,0⟩::qO) scope pos 0 acc (qN X N' scope cl C ex s₀ H₀).env) kk)
  (hy:X.N[i]? = Ab y:=by rfl) (hyl:Loc X.env.scope y:=by first|exact Xc rfl|exact Vf rfl) (hf:X.fn y=true\/X.env.scope.names.lookup y=Ab .local:=by first|exact .inl rfl|exact .inr rfl|assumption)
  (hsw:Jz (.ListComp elt (⟨tg,iter,ifs,0⟩::qO) scope pos) (Ab (.Name y py)) spos.line X.env=pure true:=by rfl)
  (hs:∀ x,Co iter X.env x=pure x:=by intro _;rfl):PS X (.Assign [.Name y py] (.ListComp elt (⟨tg,iter,ifs,0⟩::qO) scope pos) spos) (tDS X (zG (zE mm cap fi g t kk) (gNm i))):=by
 intro pins s σ H D I h;obtain⟨P,α,env,S0,r,re,af⟩:=h;have af0:=wR af;have af':qG X P α ((fi env S0).bind λp S1=>mkM mm (goL p.1 g t kk p.2 (zR cap env) S1 [])) (λd S=>z9 X P α (.nx (env.set i (Ab d)) S) D):=af0;rw[exec_Assign_Name_used _ _ _ _ hsw];refine Ad (Hw (Ad ?_));show Ao _ X.A (do let _ <- comprehension (.ListComp elt (⟨tg,iter,ifs,0⟩::qO) scope pos) scope X.env _ (newList []) false (eval iter X.env) (Ab (assign (.Name y py) X.env))) _ _ s
 refine Ad (Ff (Jh (use:=Ab (assign (.Name y py) X.env)) (Q:=λ_ s'=>SP X pins D .next s') rfl hs (m9 S I.ok) S.kind S.names ?_) (λ_ s' hq=>Ak (Ak hq)) λ_ _ e=>e);refine thn (hi pins s σ H (λJ H1=>∃ (P1:Hp) (α1:Aa Af) (p:Al (Ai × MO) × Aa _D.D) (S1:Sto),Rel X.K H1 P1 α1 S1/\qF P P1/\α<+:α1/\ItD2 X.K J P1 α1 p.1 p.2/\qG X P α (mkM mm (goL p.1 g t kk p.2 (zR cap env) S1 [])) (λd S=>z9 X P α (.nx (env.set i (Ab d)) S) D)) I ⟨P,α,env,S0,r,re,?_⟩) λxv s1 h1=>thn h1 λitv s2 h2=>?_
 .cases q:fi env S0 with
  |bad=>rw[q] at af';exact af'
  |ex c x S'=>rw[q] at af';exact af'
  |ok p S1=>rw[q] at af';exact λJ H1 P1 α1 r1 e1 e2 it=>⟨P1,α1,p,S1,r1,e1,e2,it,af'⟩
 obtain⟨it,fp,tn,J,H2,rfl,I2,T,st0,hfp,P1,α1,p,S1,r1,e1,e2,hit,af1⟩:=h2;obtain⟨envF,ds,SF,run,ok⟩:=Q1 af1;refine Bu (uY (B:=accL) (o0:={ cls:=.type "list",dict:=none,data:=.seq ([] : Aa Ac).toArray }) (RR:=λacc C=>compPost (Ar X.prog X.w) X.A X.xe (Ab (assign (.Name y py) X.env)) (λ_ s'=>SP X pins D .next s') acc C) hc S has hg ht he I2 r1 (re.mono e1 e2) T st0 hfp hit run ⟨[],0,[],rfl,.nil,.nil,Dp _⟩ rfl ?_);intro acc C s' hA ⟨m,hm⟩ hC hne ⟨cl,σf,Hf,Pf,αf,of,stf⟩;have fin:∀ h',CI C s'.heap h'->jC X pins σ P1 α1 ds SF acc C { s' with heap:=h' }:=λh' sb=>lO I2 hfp rfl hC hA hne stf sb
 show Ao _ X.A (assign (.Name y py) X.env (.ref acc)) _ _ s';obtain⟨H3,P3,α3,vs,I3,r3,hn3,q1,q2,rp,hCn⟩:=fin s'.heap (Oe _ _);obtain⟨r4,e4⟩:=r3.pure (o:=.lst vs) hn3;have hCn':(upd H3 acc (.lst vs)) C=none:=by rw[qI (Ed hne)];exact hCn
 have fC:=I2.fpOk hC hCn';refine TW (nK I3 hN hy hyl (show qK (V.ref acc) (AU acc) from rfl) (λs5 I5 ⟨a,sb,ha⟩=>?_) hf)
 have hCa:C≠a:=by
  rcases ha with rfl|ha
  .exact fC.2.1
  .exact λz=>fC.2.2.2.2.1 _ _ ha z.symm
 refine⟨m,hm.sameBut sb hCa,λh' sb'=>?_⟩;have I6:Inv X pins (σ.set i (Ab (V.ref acc))) (upd H3 acc (.lst vs)) { s5 with heap:=h' }:=I5.turned (t':=s5.toks) (λb o hb e=>(sb'.2 b hb).trans e) hCn' fC.2.1 fC.2.2.2.1 fC.2.2.2.2.1 fC.2.2.2.2.2
 cases mm with
 |false =>
  refine⟨_,_,I6,ok _ _ (upd P3 acc (.lst vs)) α3 r4 ?_ ((e1.trans q1).trans e4) (e2.trans q2)⟩;exact((re.mono e1 e2).mono (q1.trans e4) q2).set i (mZ (.inl (.inl qV)) (qD.mono e4 (AA _) _ _ rp))
 |true =>
  have hpre:α3<+:α3++[acc]:=Jk _ _;have r5:=r3.new (o:=.lst vs) (m:=.lst ds) hn3 ⟨vs,qV,qD.mono (qF.refl _) hpre _ _ rp⟩;refine⟨_,_,I6,ok _ _ P3 (α3++[acc]) r5 ?_ (e1.trans q1) ((e2.trans q2).trans hpre)⟩;refine((re.mono e1 e2).mono q1 (q2.trans hpre)).set i ?_;simp only[Rep];exact⟨acc,rfl,by rw[<- r3.len];simp⟩
end
section
variable {prog:A5}{w:AL}{A:AK}{E:Ac->Ag->Prop}{s:Ag}
theorem o9 {e it l:Af}{i:Ai}{x old:Ac}(he:Qe s.heap e it i old)(hit:zD tp s.heap it l i)(hl:xR tp s.heap l xs)(hx:xs[i]? = Ab x)(ne:e≠it)
  (hQ:∀ g,Xr g e it ((i:Am)+1) x s.heap.objs.size->zD tp g it l (i+1)->Gz g s.heap.objs.size (.int i s.toks) x->g.objs.size=s.heap.objs.size+1->(∀ b o,b≠e->b≠it->s.heap.get? b=Ab o->g.get? b=Ab o)->Q (.ref s.heap.objs.size) { s with heap:=g,toks:=s.toks+1 }) :
  Ao (Ar prog w) A (Fq.«enumerate.__next__» ⟨[.ref e],[]⟩) (λfin s'=>∃ v,fin=.done (.ret v)/\Q v s') E s:=by
 obtain⟨hp,gn,dr,tk,os⟩:=s;show Ao _ _ (field (.ref e) 2 >>= _) _ _ _;refine Ad (Cg he rfl (x:=.ref it) rfl (Ad (kN hit hl hx λg1 i1 s1=>?_)))
 replace s1:CI it hp g1:=s1
 have e1:Qe g1 e it i old:=(s1.2 e ne).trans he;show Ao _ _ (field (.ref e) 3 >>= _) _ _ ⟨g1,gn,dr,tk,os⟩;refine Ad (Cg e1 rfl (x:=DL i) rfl ?_);show Ao _ _ (field (.ref e) 4 >>= _) _ _ ⟨g1,gn,dr,tk,os⟩;refine Ad (Cg e1 rfl (x:=.none) rfl ?_);show Ao _ _ (mkInt i >>= _) _ _ ⟨g1,gn,dr,tk,os⟩;refine Ad (wpAny_mkInt ?_);show Ao _ _ (setField (.ref e) 3 (DL ((i:Am)+1)) >>= _) _ _ ⟨g1,gn,dr,tk+1,os⟩;refine Ad (CY e1 (by simp) λg2 e2 s2=>?_)
 replace s2:CI e g1 g2:=s2
 replace e2:Qe g2 e it ((i:Am)+1) old:=e2
 show Ao _ _ (setField (.ref e) 4 .none >>= _) _ _ ⟨g2,gn,dr,tk+1,os⟩;refine Ad (CY e2 (by simp) λg3 e3 s3=>?_)
 replace s3:CI e g2 g3:=s3
 replace e3:Qe g3 e it ((i:Am)+1) old:=e3
 show Ao _ _ (newTuple [.int i tk,x] >>= _) _ _ ⟨g3,gn,dr,tk+1,os⟩;refine Ad (Qt ?_);have e4:Qe (g3.push { cls:=.type "tuple",data:=.seq #[.int i tk,x] }) e it ((i:Am)+1) old:=Ah _ e3;generalize q4:g3.push { cls:=.type "tuple",data:=.seq #[.int i tk,x] } = g4 at e4;have sz:g3.objs.size=hp.objs.size:=by rw[s3.1,s2.1,s1.1]
 have el:e<hp.objs.size:=Az he;have t4:Gz g4 hp.objs.size (.int i tk) x:=by rw[<- q4,<- sz];exact A7 _ rfl
 have z4:g4.objs.size=hp.objs.size+1:=by rw[<- q4,Ci,sz]
 have k4:∀ b o,b≠e->b≠it->hp.get? b=Ab o->g4.get? b=Ab o:=λb o b1 b2 q=>by
  rw[<- q4];exact Ah _ (s3.extBut b o b1 (s2.extBut b o b1 (s1.extBut b o b2 q)))
 have i4:zD tp g4 it l (i+1):=i1.keep λo q=>by rw[<- q4];exact Ah _ (s3.extBut _ o ne.symm (s2.extBut _ o ne.symm q))
 show Ao _ _ (CM (.ref e) >>= _) _ _ ⟨g4,gn,dr,tk+1,os⟩;rw[sz];refine Ad ?_;unfold CM;refine Ad (Cg e4 rfl (x:=.none) rfl (Ak ?_));simp only[Ct];refine Ad (Ex (Ad (Cg e4 rfl (x:=old) rfl (Ad (CY e4 (by simp) λg5 e5 s5=>?_)))))
 replace s5:CI e g4 g5:=s5
 replace e5:Qe g5 e it ((i:Am)+1) x:=e5
 show Ao _ _ (Ep (.ref e) (.ref hp.objs.size) >>= _) _ _ ⟨g5,gn,dr,tk+1,os⟩;refine Ad ?_;unfold Ep;refine Ad (CY e5 (by simp) λg6 e6 s6=>?_)
 replace s6:CI e g5 g6:=s6
 replace e6:Xr g6 e it ((i:Am)+1) x hp.objs.size:=e6
 refine CY e6 (by simp) λg7 e7 s7=>?_
 replace s7:CI e g6 g7:=s7
 replace e7:Xr g7 e it ((i:Am)+1) x hp.objs.size:=e7
 have up:∀ b o,b≠e->g4.get? b=Ab o->g7.get? b=Ab o:=λb o b1 q=>s7.extBut b o b1 (s6.extBut b o b1 (s5.extBut b o b1 q));exact Ad (Pz (Ak ⟨_,rfl,hQ g7 e7 (i4.keep λo q=>up _ o ne.symm q) (up _ _ (El el) t4) (by rw[s7.1,s6.1,s5.1,z4]) λb o b1 b2 q=>up b o b1 (k4 b o b1 b2 q)⟩))
set_option maxHeartbeats 4000000 in
set_option tactic.hygienic true in
theorem XO (tp:Ap)(l:Af)(xs:Aw Ac) :
  Meets (Fq.«enumerate.__new__» ⟨[.type "enumerate",.ref l],[]⟩) (λ_ R s=>(∃ n dct sl,s.heap.get? l=Ab { cls:=.type (if tp then "tuple" else "list"),dict:=dct,data:=.seq xs n,slots:=sl }) /\ R (.ok (.ret (.ref (s.heap.push (vC tp l)).objs.size))) { s with heap:=(s.heap.push (vC tp l)).push { cls:=.type "enumerate",data:=.fields #[.none,.bool false,.ref s.heap.objs.size,DL 0,.none,.none] } }):=
 .of_wp λprog w A R s h=>by
  obtain⟨hp,gn,dr,tk,os⟩:=s;obtain⟨⟨n,dct,sl,hl⟩,h⟩:=h;have hsub:=sub_enumerate;cases tp
  .have L1:Vg (Kt ⟨hp,gn,dr,tk,os⟩) l xs:=⟨_,hl,rfl,n,rfl⟩
   wp_walk using Es hl
   refine Wb λst=>Ak ?_
   split
   .rename_i c _ _ _ _ _
    cases (c == Ev "enumerate") <;> (wp_walk using Es hl,Ei L1;exact⟨_,rfl,h⟩)
   .wp_walk using Es hl,Ei L1;exact⟨_,rfl,h⟩
  .have L1:Tu (Kt ⟨hp,gn,dr,tk,os⟩) l xs:=⟨_,hl,rfl,n,rfl⟩
   wp_walk using Es hl
   refine Wb λst=>Ak ?_
   split
   .rename_i c _ _ _ _ _
    cases (c == Ev "enumerate") <;> (wp_walk using Es hl,Eu L1;exact⟨_,rfl,h⟩)
   .wp_walk using Es hl,Eu L1;exact⟨_,rfl,h⟩
theorem iR {tp:Ap}{l:Af}{xs:Aw Ac}{Q:Ac->Ag->Prop}(hl:∃ n dct sl,s.heap.get? l=Ab { cls:=.type (if tp then "tuple" else "list"),dict:=dct,data:=.seq xs n,slots:=sl })
  (h:∀ g,Qe g (s.heap.objs.size+1) s.heap.objs.size 0 .none->zD tp g s.heap.objs.size l 0->(∀ b o,s.heap.get? b=Ab o->g.get? b=Ab o)->Q (.ref (s.heap.objs.size+1)) { s with heap:=g }) :
  Ao (Ar prog w) A (call (.type "enumerate") [.ref l]) Q E s:=by
 refine Tv F.called_enumerate (by decide) (F.typeCall_enumerate_1 _) (F.newCall_enumerate_1 _) (λobj=>F.args_object_init_2 obj _) F.entry_enumerate_new (XO tp l xs) ⟨hl,?_⟩
 have hz:(s.heap.push (vC tp l)).objs.size=s.heap.objs.size+1:=Ci ..;show _/\_;have he:((s.heap.push (vC tp l)).push { cls:=.type "enumerate",data:=.fields #[.none,.bool false,.ref s.heap.objs.size,DL 0,.none,.none] }).get? (s.heap.push (vC tp l)).objs.size=Ab _:=A7 _ rfl;rw[hz] at he ⊢;exact⟨⟨_,he,rfl⟩,h _ he (kH (Ah _ (A7 _ rfl))) λb o x=>Ah _ (Ah _ x)⟩
end
noncomputable def Ite (tp:Ap)(K:Aj)(a:Af):It:=
  ⟨λi H=>∃ xs x,Sq tp K H a xs/\xs[i]? = Ab x,
   λi H v H'=>∃ T x,v=.ref T/\H T=none/\H'=upd H T (.tup [.int i,x])/\∀ xs,Sq tp K H a xs->xs[i]? = Ab x,
   λi H=>∃ xs,Sq tp K H a xs/\xs.length<=i⟩
def iI (tp:Ap)(e it l:Af)(k:Ai)(h:AB):Prop:=∃ old,Qe h e it k old/\zD tp h it l k
theorem ZM {P:A5}{w:AL}{K:Aj}{elts:Aa AM}{x1:Ai}{tpos:CN}{e it a:Af}(ne:e≠it):Turn P w K (.Tuple elts x1 tpos) (Ite tp K a) [e,it] e (iI tp e it a) where
 mem:=by simp
 obj:=λk h st c hc=>by
  obtain⟨old,s1,s2⟩:=st;simp only[Av,Bj,Du] at hc;rcases hc with rfl|rfl
  .exact⟨_,s1,λv y=>by cases y⟩
  .exact s2.there
 keep:=λk h h' st kp=>by
  obtain⟨old,s1,s2⟩:=st;exact⟨old,kp e (by simp) _ s1,s2.keep λo q=>kp it (by simp) o q⟩
 item:=by
  intro X hP hw hK hc k pins s σ H E Iv hf st hg;subst hP hw hK;obtain⟨old,s1,s2⟩:=st;obtain⟨xs,x,qa,hx⟩:=hg;obtain⟨ia,ra,ha⟩:=qa.at Iv;obtain⟨u,hu,ru⟩:=ra.get hx;have hT:s.TypeIs (.ref e) "enumerate":=⟨_,s1,rfl⟩;unfold Jt;refine Ad (Gm (Cj (name:=Fl "__next__") hT Ir (Cy Ir hT Pc
   (o9 s1 s2 ha (by simpa using hu) ne λh' a1 a2 a3 a4 a5=>Ak ?_) (OK _))))
  refine⟨_,rfl,wpAny_letOwnedTupleGo_enum (s:={ s with heap:=h',toks:=s.toks+1 }) a1 λh2 b1 b2=>?_⟩
  have up:∀ c o,c≠e->h'.get? c=Ab o->h2.get? c=Ab o:=λc o n q=>(b2.2 c n).trans q;have el:e<s.heap.objs.size:=Az s1;have T2:Gz h2 s.heap.objs.size (.int k s.toks) u:=up _ _ (El el) a3;have st2:iI tp e it a (k+1) h2:=⟨u,b1,a2.keep λo q=>up _ o ne.symm q⟩;refine⟨.ref s.heap.objs.size,upd H s.heap.objs.size (.tup [.int k,x]),?_,rfl,⟨_,x,rfl,Iv.hok.fresh (Aq _),rfl,λzs qz=>by rw[qz.inj Iv qa];exact hx⟩,st2,λc hc=>?_⟩
  .have:=Inv.turnLay (fp:=[e,it]) (its:=[.int k s.toks,u]) (h':=h2) (xs:=[.int k,x]) Iv hf (λc o hc q=>by
    simp only[Av,Bj,Du,Qb] at hc;exact up c o hc.1 (a5 c o hc.1 hc.2 q)) (λc hc=>by
    obtain⟨old',t1,t2⟩:=st2;simp only[Av,Bj,Du] at hc;rcases hc with rfl|rfl
    .exact⟨_,t1⟩
    .obtain⟨o,q,_⟩:=t2.there;exact⟨o,q⟩) (Aq _) (.cons ⟨_,rfl⟩ (.cons ru .nil)) ⟨_,T2,rfl,_,rfl⟩ (by show 2<=sizeLine;decide)
   exact this.tok (s.toks+1)
  .have hn:=(hf c hc).1
   rw[qI ?_]
   .exact hn
   .rintro rfl
    obtain⟨o,q,_⟩:∃ o,s.heap.get? s.heap.objs.size=Ab o/\Jn:=by
     simp only[Av,Bj,Du] at hc;rcases hc with z|z
     .exact⟨_,z▸s1,trivial⟩
     .obtain⟨o,e',_⟩:=s2.there;exact⟨o,z▸e',trivial⟩
    exact absurd (Az q) (Dh _)
 done:=by
  intro X hP hw hK hc k pins s σ H E Iv hf st hg;subst hP hw hK;obtain⟨old,s1,s2⟩:=st;obtain⟨xs,qa,hend⟩:=hg;obtain⟨ia,ra,ha⟩:=qa.at Iv;have hT:s.TypeIs (.ref e) "enumerate":=⟨_,s1,rfl⟩;have l1:=ra.length;unfold Jt;refine Ad (Gm (Cj (name:=Fl "__next__") hT Ir (Cy Ir hT Pc ?_ (OK _))));show Ao _ _ (field (.ref e) 2 >>= _) _ _ _;refine Ad (Cg s1 rfl (x:=.ref it) rfl (Ad (vX (Iv.ok.hd hc) s2 ha (by simp;omega) λh' x kp hx'=>?_)))
  obtain⟨o,ho,hcl⟩:=hx';refine Ad (Ku (T:="StopIteration") (b:=true) ⟨o,ho,hcl⟩ Qu (Ak ⟨rfl,Inv.turnL (fp:=[e,it]) Iv hf λc o hc q=>?_⟩));simp only[Av,Bj,Du,Qb] at hc;exact kp c o hc.2 q
 self:=λ_ _ _ _ _ st h=>by
  obtain⟨old,s1,_⟩:=st;exact Uo s1 h
noncomputable def yA (xs:Aa D):Aa D:=xs.mapIdx λi x=>D.tup [.int i,x]
noncomputable def V1 (ds:Aa D):Al (Aa D):=match ds with
 |[.tup xs]=>Ab (yA xs)
 |[.lst xs]=>Ab (yA xs)
 |_=>none
noncomputable def bQ (f:DA):DI:=λenv S=>(f env S).bind λds S1=>v7 (V1 ds) S1
theorem o8 (xs:Aa D)(i:Ai):(yA xs)[i]? = (xs[i]?).map λx=>D.tup [.int i,x]:=by
 unfold yA;rw[List.getElem?_mapIdx]
theorem gN (xs:Aa D):(yA xs).length=xs.length:=by simp[yA]
theorem W3 {K:Aj}{P:Hp}{a:Af}{xs:Aa D}(qa:Sq tp K P a vs)(ta:qD K P α xs vs):ItD K (Ite tp K a) P α (yA xs) where
 go:=λi H P1 α1 S hi r e _=>by
  rw[gN] at hi;have h1:i<vs.length:=by rw[<- ta.length];omega
  exact⟨vs,vs[i],qa.mono (e.trans r.sub),by simp⟩
 yld:=λi H x H' P1 α1 S hi r e e2 y=>by
  obtain⟨T,u,rfl,hT,rfl,hu⟩:=y;rw[gN] at hi;obtain⟨v1,z1,p1⟩:=ta.get (Au hi);have eu:=hu vs (qa.mono (e.trans r.sub));rw[z1] at eu;cases eu;obtain⟨r1,s1⟩:=r.pure (o:=.tup [.int i,u]) hT;refine⟨_,.tup [.int i,xs[i]],?_,r1,s1,?_⟩
  .rw[o8,Au hi];rfl
  .exact t7 (.of qV) (.cons (by simp only[Rep]) (.cons (Rep.mono (e.trans s1) e2 _ _ p1) .nil))
 stop:=λi H P1 α1 S hi r e _=>by
  rw[gN] at hi;have l1:=ta.length;exact⟨vs,qa.mono (e.trans r.sub),by omega⟩
section
variable {X:Cx}{e1:AM}{elts:Aa AM}{x1:Ai}{tpos:CN}{f:DA}{p pos:CN}
theorem Sq.obj {pins:Aa (Af × AX)}{σ:_L.St}{H:Hp}{s:Ag}{a:Af}{xs:Aa V}(I:Inv X pins σ H s)(q:Sq tp X.K H a xs):∃ its:Aa Ac,qJ xs its/\∃ n dct sl,s.heap.get? a=Ab { cls:=.type (if tp then "tuple" else "list"),dict:=dct,data:=.seq its.toArray n,slots:=sl }:=by
 obtain⟨its,rv,h⟩:=q.at I;refine⟨its,rv,?_⟩;cases tp with
 |true =>
  obtain⟨o,ho,hc,n,hd⟩:=h;obtain⟨c,d,dt,sl⟩:=o;dsimp only at hc hd;subst hc;subst hd;exact⟨n,_,_,ho⟩
 |false =>
  obtain⟨o,ho,hc,n,hd⟩:=h;obtain⟨c,d,dt,sl⟩:=o;dsimp only at hc hd;subst hc;subst hd;exact⟨n,_,_,ho⟩
theorem rP {pins:Aa (Af × AX)}{σ:_L.St}{H P:Hp}{s:Ag}{a:Af}{xs:Aa D}(I:Inv X pins σ H s)(r:Rel X.K H P α S)(qa:Sq tp X.K P a vs)(ta:qD X.K P α xs vs)
  (q:OkI X P α R (yA xs) S):Ao (Ar X.prog X.w) X.A (call (.type "enumerate") [.ref a]) (λv s1=>Ao (Ar X.prog X.w) X.A (Kk v) (PIE X pins σ (.Tuple elts x1 tpos) R) X.xe s1) X.xe s:=by
 obtain⟨ia,ra,ha⟩:=Sq.obj I (qa.mono r.sub);refine iR (tp:=tp) ha λh' z1 z2 z7=>?_;refine Uo (s:={ s with heap:=h' }) z1 ?_
 refine⟨_,[s.heap.objs.size+1,s.heap.objs.size],_,_,H,rfl,I.kept (t':=s.toks) z7,ZM (tp:=tp) (a:=a) (by intro z;simp at z),⟨_,z1,z2⟩,λc hc=>?_,q _ _ P α r (qF.refl _) (AA _) (W3 qa ta)⟩
 have hl:s.heap.objs.size<=c:=by
  simp only[Av,Bj,Du] at hc;rcases hc with rfl|rfl <;> simp
 exact I.fpOk hl (I.hok.fresh hl)
theorem fZ:CU "enumerate" = Ab (.type "enumerate"):=by decide +kernel
theorem XN (h:V1 ds=Ab its):∃ d xs,ds=[d]/\ItV d xs/\its=yA xs:=by
 cases ds with
 |nil=>exact nn h
 |cons d ds =>
  cases ds with
  |cons _ _=>cases d <;> exact nn h
  |nil =>
   cases d with
   |tup xs=>exact⟨_,xs,rfl,.tup rfl,(Bh h).symm⟩
   |lst xs=>exact⟨_,xs,rfl,.lst rfl,(Bh h).symm⟩
   |_=>exact nn h
theorem UH (hg:Gl X "enumerate")(hm:X.mg "enumerate" = none)(ha:PA X [e1] (tDA X f))(hs:Ay [e1] X.env=(false,eval e1 X.env)::Ay [] X.env:=by rfl)(hpl:(Di pos (Ay [] X.env)).any (·.1)=false:=by rfl) :
  PI X (.Tuple elts x1 tpos) (.Call (.Name "enumerate" p) [e1] [] pos) (tDI X (bQ f)):=by
 intro pins s σ H R I h;obtain⟨P,α,env,S,r,re,af⟩:=h;refine Vx (w4 I hg hm fZ (CK (thn (xS ha I r re af pos) λus s1 ⟨vs,H1,P1,α1,ds,S1,I1,rv,r1,re1,rp,e1,e2,af1⟩=>?_) hs hpl));obtain⟨its,hi,q⟩:=v8 af1;obtain⟨d,xs,rfl,hd,rfl⟩:=XN hi;obtain⟨v,u,rfl,rfl,p1,q1⟩:=yS rp rv;cases hd with
 |tup ed =>
  subst ed;simp only[Rep] at p1;obtain⟨a,va,rfl,qa,ta⟩:=p1;cases (show u=AU a from q1)
  exact rP (tp:=true) I1 r1 qa ta (q.base e1 e2)
 |lst ed =>
  subst ed;simp only[Rep] at p1;obtain⟨a,va,rfl,qa,ta⟩:=p1;cases (show u=AU a from q1)
  exact rP (tp:=false) I1 r1 qa.l ta (q.base e1 e2)
end
section
variable {X:Cx}
noncomputable def zY:Aa D->Al (Aa Am)
 |[]=>Ab []
 |.int i::r=>(zY r).map (i::·)
 |_::_=>none
theorem wA (ns:Aa Am):zY (ns.map D.int)=Ab ns:=by
 induction ns with
 |nil=>rfl
 |cons n r ih=>exact congrArg (Option.map (n::·)) ih
theorem vU:∀ {ds:Aa D} {ns:Aa Am},zY ds=Ab ns->ds=ns.map D.int
 |[],ns,h=>by cases h;rfl
 |d::r,ns,h=>by
  cases d with
  |int i =>
   obtain⟨m,h1,rfl⟩:=Bn.mp (show (zY r).map (i::·)=Ab ns from h)
   rw[vU h1];rfl
  |_=>exact nn h
theorem uL {K:Aj}{P:Hp}:∀ {ns:Aa Am} {vs:Aa V},qD K P α (ns.map D.int) vs->vs=ns.map V.int
 |[],vs,r=>by rw[r.nil_inv];rfl
 |n::ns,vs,r=>by
  obtain⟨w,ws,rfl,p,t⟩:=r.cons_inv;simp only[Rep] at p;rw[p,uL t];rfl
end
section
variable {X:Cx}
def uK:G2:=λa b S=>match a,b with
 |.lst xs,.int k=>if 0<=k/\k<2 ^ 62/\xs.length*k.toNat<=lim then .ok (.lst (Br k.toNat xs).flatten) S else .bad
 |_,_=>yC a b S
theorem sE {K:Aj}{P:Hp}(r:qD K P α ds vs):∀ k:Ai,qD K P α (Br k ds).flatten (Br k vs).flatten
 |0=>by simpa using qD.nil
 |k+1=>by
  rw[Eh,Eh,Gb,Gb];exact r.append (sE r k)
inductive MulV (a b:D)(S:Sto):Prop
 |old (e:uK a b S=yC a b S)
 |of (xs:Aa D) (k:Am) (ea:a=.lst xs) (eb:b=.int k)
theorem RT (a b:D)(S:Sto):MulV a b S:=by
 cases a with
 |lst xs=>cases b with
  |int k=>exact .of xs k rfl rfl
  |_=>exact .old rfl
 |_=>exact .old rfl
theorem K0:OpD X (CS .Mult) uK:=by
 intro pins σ H s P α S v u vv uu a b Q I r rv ru pa pb af;cases RT a b S with
 |old e =>
  rw[e] at af;exact eM pins σ H s P α S v u vv uu a b Q I r rv ru pa pb af
 |of xs k ea eb =>
  subst ea eb;obtain⟨hk,af⟩:=xZ (X:=X) af;obtain⟨h1,h2,hz⟩:=hk;obtain⟨l,vs,its,n,rfl,q1,t1,rv1,e,l1,_⟩:=yN I r pa;cases (show vv=AU l from rv)
  have:=xP pb;subst this;obtain⟨t,rfl⟩:=ru;have hl:its.length=vs.length:=rv1.length.symm;have hlen:its.toArray.size*k.toNat<=sizeLine:=by rw[AD,<- l1,<- zX];exact hz
  have hcap:¬ its.toArray.size*k.toNat>(2 ^ 63-1)/8:=by
   have:(sizeLine:Ai)<=(2 ^ 63-1)/8:=by decide
   omega
  have hfit:¬ (!Builtin.List.listFitsIndex k)=true:=by
   rw[fitsIndex_both om om];exact Fw
  have hlong:¬ Jg (its.toArray.size*k.toNat)=true:=by
   rw[WM hlen];exact Fw
  have hnew:Wp (λx1 x2=>x1++x2) #[] (Br (if its.toArray.isEmpty=true then 0 else k.toNat) its.toArray)=(Br k.toNat its).flatten.toArray:=by
   have f0:∀ m:Ai,Wp (λx1 x2=>x1++x2) #[] (Br m its.toArray)=(Br m its).flatten.toArray:=λm=>by
    have:=tW its m [];rw[Fh] at this;exact this
   rw[f0];cases its with
   |nil=>simp
   |cons a r'=>rw[AC (by simp)]
  refine wpAny_binaryOp_repeat_ref (T:="list") (U:="int") (by decide) ⟨_,e,rfl⟩ (λs'=>Wn s' k t) noFill_list_mul F.fills_int_mul Wc repeat_list F.slot_int_index.lookup
   (Mb Wc (Wn s k t) F.entry_int_rmul (F.args_int_rmul_2 _ _) (int___rmul___int_list k t l its.toArray n)
    ⟨e,rfl,⟨_,e,rfl⟩,Mb F.slot_list_mul ⟨_,e,rfl⟩ F.entry_list_mul (F.args_list_mul_2 _ _) (AutoListH.list___mul___list_int_3 l its.toArray n k t hfit hcap hlong) ⟨e,?_⟩⟩)
  rw[hnew];exact dG I r (sE t1 k.toNat) (rv1.rep k.toNat) (by rw[JL,Nat.mul_comm];exact hz) af
noncomputable def cV (ns:Aa Am):Ai:=(ns.foldl Wr []).length
theorem kY (ns:Aa Am):firstMet (λi=>ns.getD i 0) ns.length=ns.foldl Wr []:=by
 unfold firstMet
 congr 1
 apply Of;intro i;rw[By];by_cases h:i<ns.length
 .simp[h]
 .simp[h]
theorem lH:CU "set" = Ab (.type "set"):=by decide +kernel
variable {e:AM}{fa:DE}{p1 p2 pos1 pos2:CN}
end
structure QI2 (X:Cx)(tg it:AM)(f:DI2):Prop where
 get:PI X tg it (tDI2 X f)
structure QK (B:Acc)(Y:Cx)(step:Ac->Il Mx)(k:DK):Prop where
 get:PK B Y step k
section
variable {B:Acc}{X Y:Cx}{tg it e o elt iter ie:AM}{es ifs qO:Aa AM}{fa fo fe fi:DE}{fA:DA}{fI:DI}{f2:DI2}{g:DG}{t:DT}{kk:DK}{p pos:CN}{n k:Ai}{x:As}{cm:Ap}{F:DF}{f:DS}{gens grest:Aa Bo}{scope:Cs}{N':Aa As}{cap:Aa (Al Ai)}{mm:Ap}
theorem Z2 (h:QI X tg it fI):QI2 X tg it (xE fI):=⟨UI h.1⟩
theorem TJ (h:QE X e fa):QI2 X tg e (dIt fa):=⟨NZ h.1⟩
theorem KQ {e1:AM}{elts:Aa AM}{x1:Ai}{tpos:CN}(hg:Gl X "enumerate")(hm:X.mg "enumerate" = none)(ha:QA X [e1] fA)(hs:Ay [e1] X.env=(false,eval e1 X.env)::Ay [] X.env:=by rfl)(hpl:(Di pos (Ay [] X.env)).any (·.1)=false:=by rfl) :
  QI X (.Tuple elts x1 tpos) (.Call (.Name "enumerate" p) [e1] [] pos) (bQ fA):=⟨UH hg hm ha.1 hs hpl⟩
theorem eS (hx:Y.xe=λ_ _=>CP)(hlast:gens[k+1]? = none)(he:QE Y elt fe):QK accL Y (λacc=>zF false elt gens scope pos k acc Y.env) (zK fe):=⟨KA hx hlast he.1⟩
theorem DV (hc:Y.calm=true)(hx:Y.xe=λ_ _=>CP)(hgk:gens[k+1]? = Ab ⟨tg,iter,ifs,0⟩)(has:∀ g',gens[k+1+1]? = Ab g'->g'.is_async=0)(hi:QI2 Y tg iter f2)(hg:QG Y tg g)(ht:QTs Y ifs t)(he:QK B Y (λacc=>zF B.m elt gens scope pos (k+1) acc Y.env) kk)(hs:∀ x,Co iter Y.env x=pure x) :
  QK B Y (λacc=>zF B.m elt gens scope pos k acc Y.env) (kIn f2 g t kk):=⟨DM hc hx hgk has hi.1 hg.1 ht.1 he.1 hs⟩
theorem Y1 (hc:X.calm=true)(S:CompSc X.env.scope X.N scope N' cap)(hi:QI2 X tg iter f2)(hg:∀ cl C ex s₀ H₀,QG (qN X N' scope cl C ex s₀ H₀) tg g)(ht:∀ cl C ex s₀ H₀,QTs (qN X N' scope cl C ex s₀ H₀) ifs t)
  (has:∀ g',(⟨tg,iter,ifs,0⟩::grest:Aa Bo)[0+1]? = Ab g'->g'.is_async=0)
  (he:∀ cl C ex s₀ H₀,QK accL (qN X N' scope cl C ex s₀ H₀) (λacc=>zF false elt (⟨tg,iter,ifs,0⟩::grest) scope pos 0 acc (qN X N' scope cl C ex s₀ H₀).env) kk) (hs:∀ x,Co iter X.env x=pure x) :
  QE X (.ListComp elt (⟨tg,iter,ifs,0⟩::grest) scope pos) (zE mm cap f2 g t kk):=
 ⟨XB hc S hi.1 (λcl C ex s H=>(hg cl C ex s H).1) (λcl C ex s H=>(ht cl C ex s H).1) has (λcl C ex s H=>(he cl C ex s H).1) hs⟩
theorem Y5 {y:As}{spos:CN}(hc:X.calm=true)(hN:X.N.Nodup)(S:CompSc X.env.scope X.N scope N' cap)(hi:QI2 X tg iter f2)(hg:∀ cl C ex s₀ H₀,QG (qN X N' scope cl C ex s₀ H₀) tg g)(ht:∀ cl C ex s₀ H₀,QTs (qN X N' scope cl C ex s₀ H₀) ifs t)
  (has:∀ g',(⟨tg,iter,ifs,0⟩::grest:Aa Bo)[0+1]? = Ab g'->g'.is_async=0)
  (he:∀ cl C ex s₀ H₀,QK accL (qN X N' scope cl C ex s₀ H₀) (λacc=>zF false elt (⟨tg,iter,ifs,0⟩::grest) scope pos 0 acc (qN X N' scope cl C ex s₀ H₀).env) kk) (hy:X.N[m]? = Ab y) (hyl:Loc X.env.scope y) (hf:X.fn y=true\/X.env.scope.names.lookup y=Ab .local)
  (hsw:Jz (.ListComp elt (⟨tg,iter,ifs,0⟩::grest) scope pos) (Ab (.Name y py)) spos.line X.env=pure true) (hs:∀ x,Co iter X.env x=pure x):QS X (.Assign [.Name y py] (.ListComp elt (⟨tg,iter,ifs,0⟩::grest) scope pos) spos) (zG (zE mm cap f2 g t kk) (gNm m)):=
 ⟨XH hc hN S hi.1 (λcl C ex s H=>(hg cl C ex s H).1) (λcl C ex s H=>(ht cl C ex s H).1) has (λcl C ex s H=>(he cl C ex s H).1) hy hyl hf hsw hs⟩
theorem NK:ZOp X (CS .Mult) uK:=⟨K0⟩
end
noncomputable def kR (H:Hp):Aa (Af × HO)->Hp
 |[]=>H
 |p::ps=>kR (upd H p.1 p.2) ps
theorem tK {b:Af}:∀ {L:Aa (Af × HO)} {H:Hp},b ∉ L.map (·.1)->kR H L b=H b
 |[],_,_=>rfl
 |p::ps,H,h=>by
  simp only[Ce,Av,Qb] at h;show kR (upd H p.1 p.2) ps b=H b;rw[tK h.2,qI h.1]
theorem sO {b:Af}{u:HO}:∀ {L:Aa (Af × HO)} {H:Hp},kR H L b=Ab u->(b,u)∈L\/H b=Ab u
 |[],_,h=>.inr h
 |p::ps,H,h=>by
  rcases sO (L:=ps) (H:=upd H p.1 p.2) h with h|h
  .exact .inl (Bb _ h)
  .by_cases hb:b=p.1
   .subst hb
    rw[qV] at h;cases h;exact .inl (Bx ..)
   .rw[qI hb] at h
    exact .inr h
section
variable {X:Cx}{pins:Aa (Af × AX)}{σ : _L.St}{H:Hp}{s:Ag}
theorem Inv.laidL {L:Aa (Af × HO)}{t':Ai}(I:Inv X pins σ H s)(k:∀ b u,s.heap.get? b=Ab u->h'.get? b=Ab u)(hp:∀ p∈L,s.heap.objs.size<=p.1)(new:∀ p∈L,qZ X.prog X.w (kR H L) h' p.1 p.2) :
  Inv X pins σ (kR H L) { s with heap:=h',toks:=t' }:=by
 have old:∀ b u,H b=Ab u->kR H L b=Ab u:=λb u e=>by
  rw[tK (L:=L)]
  .exact e
  .intro hb
   obtain⟨p,hp',rfl⟩:=Bl.mp hb;rw[I.hok.fresh (hp p hp')] at e;cases e
 have low:∀ b,b<s.heap.objs.size->kR H L b=H b:=λb hb=>tK λhm=>by
  obtain⟨p,hp',rfl⟩:=Bl.mp hm;exact absurd (Ax hb (hp p hp')) (Dh _)
 refine I.un ⟨λb u q _ _ _=>k b u q,λb u q _ _ _=>⟨u.slots,k b u q⟩,λb u q n _=>by rw[low b (Az q)];exact n,λb u q _=>⟨u,k b u q⟩,λb xs q=>old b _ q,λb o xs q=>old b _ q,λb ps q=>⟨#[],by rw[old b _ q];simp⟩⟩ λb u e=>?_
 rcases sO e with hm|hb
 .exact new (b,u) hm
 .exact(I.hok b u hb).stay (λc v _ q=>k c v q) (λc q=>old c _ q) λc xs q=>old c _ q
end
end _D
namespace _S
open PySem
variable {mask:Ai}{xs:Aw Ai}
def Rs (xs:Aw Ai):Prop:=xs.toList.Pairwise (· < ·)
theorem Rs.lt (h:Rs xs){a b:Ai}{x y:Ai}(hab:a<b)(ha:xs[a]? = Ab x)(hb:xs[b]? = Ab y):x<y:=by
 obtain⟨h1,e1⟩:=Ch.mp ha;obtain⟨h2,e2⟩:=Ch.mp hb;have:=Hj.mp h a b (by simpa using h1) (by simpa using h2) hab
 rw[<- e1,<- e2];simpa using this
theorem getD_some {i x d:Ai}(h:xs[i]? = Ab x):xs.getD i d=x:=by
 obtain⟨h1,e1⟩:=Ch.mp h;simp[Ek,h1,e1]
structure Bel (xs:Aw Ai)(j p:Ai):Prop where
 le:p<=xs.size
 lo:∀ i x,i<p->xs[i]? = Ab x->x<j
 hi:∀ i x,p<=i->xs[i]? = Ab x->j<=x
set_option tactic.hygienic true in
theorem b0 (h:Rs xs)(j:Ai):∀ (fuel lo hi:Ai),hi-lo<=fuel->lo<=hi->hi<=xs.size ->
  (∀ i x,i<lo->xs[i]? = Ab x->x<j)->(∀ i x,hi<=i->xs[i]? = Ab x->j<=x)->Bel xs j (Up xs j fuel lo hi)
 |0,lo,hi,h1,h2,h3,h4,h5=>by
  have:lo=hi:=by lia
  subst this;exact⟨h3,h4,h5⟩
 |fuel+1,lo,hi,h1,h2,h3,h4,h5=>by
  unfold Up;by_cases hlt:lo<hi
  .rw[AF hlt]
   have hm:(lo+hi)/2<xs.size:=by lia
   have e:xs[(lo+hi)/2]? = Ab xs[(lo+hi)/2]:=Cq hm;simp only[getD_some e]
   split
   .rename_i hc
    refine b0 h j fuel _ hi (by lia) (by lia) h3 (λi x hi' ex=>?_) h5
    by_cases q:i=(lo+hi)/2
    .subst q;rw[e] at ex;cases ex;exact hc
    .exact Ge (h.lt (by lia) ex e) hc
   .rename_i hc
    refine b0 h j fuel lo _ (by lia) (by lia) (by lia) h4 (λi x hi' ex=>?_)
    by_cases q:i=(lo+hi)/2
    .subst q;rw[e] at ex;cases ex;lia
    .have:=h.lt (show (lo+hi)/2<i by lia) e ex
     lia
  .rw[AC hlt]
   have:lo=hi:=by lia
   subst this;exact⟨h3,h4,h5⟩
theorem vN (h:Rs xs)(j:Ai):Bel xs j (AV xs j):=
 b0 h j _ _ _ (by lia) (by lia) (Aq _) (λi x hi=>by lia) λi x hi ex=>by
  have:=(Ch.mp ex).1
  lia
theorem pZ (h:Rs xs){i j:Ai}(e:xs[i]? = Ab j):AV xs j=i:=by
 have b:=vN h j;have hi:=(Ch.mp e).1;by_cases h1:AV xs j<i
 .have e2:xs[AV xs j]? = Ab xs[AV xs j]:=Cq (by lia)
  have:=h.lt h1 e2 e;have:=b.hi _ _ (Aq _) e2
  lia
 .by_cases h2:i<AV xs j
  .have:=b.lo _ _ h2 e
   lia
  .lia
theorem cO (h:Rs xs){i j:Ai}(e:xs[i]? = Ab j):AV xs (j+1)=i+1:=by
 have b:=vN h (j+1);have hi:=(Ch.mp e).1;have h1:i<AV xs (j+1):=by
  apply Ds;intro q;have:=b.hi _ _ (by lia) e
  lia
 by_cases h2:i+1<AV xs (j+1)
 .have hz:i+1<xs.size:=by have:=b.le;lia
  have e2:xs[i+1]? = Ab xs[i+1]:=Cq hz;have:=b.lo _ _ h2 e2;have:=h.lt (Hq i) e e2
  lia
 .lia
theorem cP (h:Rs xs):AV xs 0=0:=by
 have b:=vN h 0;apply Ds;intro q;have hz:0<xs.size:=by have:=b.le;lia
 have e2:xs[0]? = Ab xs[0]:=Cq hz;have:=b.lo _ _ (by lia) e2
 lia
structure Tb (t:CT):Prop where
 rs:Rs t.place
 dm:t.dummies=#[]
theorem rW (j:Ai):Tw #[] j=false:=by simp[Tw]
theorem nH {t:CT}(T:Tb t){i j:Ai}(e:t.place[i]? = Ab j):t.slot j=.live i:=by
 unfold Xs;simp only[pZ T.rs e,e];simp
theorem i9 {t:CT}(T:Tb t)(j:Ai):(∃ i,t.slot j=.live i/\t.place[i]? = Ab j)\/(t.slot j=.empty/\j ∉ t.place.toList):=by
 by_cases h:j∈t.place.toList
 .obtain⟨i,hi,e⟩:=Bv.mp h
  have e':t.place[i]? = Ab j:=by rw[<- A9,Au hi,e]
  exact .inl ⟨i,nH T e',e'⟩
 .refine .inr ⟨?_,h⟩
  unfold Xs;simp only[T.dm,rW];rw[AC,AC (by simp)]
  intro q;apply h;have:t.place[AV t.place j]? = Ab j:=by simpa using q
  obtain⟨h1,e1⟩:=Ch.mp this;rw[<- e1];simp
theorem ZG (h:Rs xs){j:Ai}(hj:j ∉ xs.toList):Rs (AS xs (AV xs j) j):=by
 have b:=vN h j;unfold Rs;rw[Ou];have key:∀ (i:Ai) (x:Ai),xs.toList[i]? = Ab x->(i<AV xs j->x<j)/\(AV xs j<=i->j<x):=λi x e=>by
  have e':xs[i]? = Ab x:=by rw[<- A9];exact e
  refine⟨λq=>b.lo _ _ q e',λq=>?_⟩;have h1:=b.hi _ _ q e';have:x≠j:=by
   rintro rfl;exact hj (AQ e)
  lia
 have tk:∀ x∈xs.toList.take (AV xs j),x<j:=λx hx=>by
  obtain⟨i,hi,e⟩:=Bv.mp hx;rw[CO] at hi;rw[Og] at e;exact(key i x (by rw[Au (by lia),e])).1 (by lia)
 have dr:∀ x∈xs.toList.drop (AV xs j),j<x:=λx hx=>by
  obtain⟨i,hi,e⟩:=Bv.mp hx;rw[Ho] at hi;rw[Oh] at e;exact(key (AV xs j+i) x (by rw[Au (by lia),e])).2 (by lia)
 rw[Cw,CD];refine⟨Yx h,⟨dr,Yy h⟩,λx hx y hy=>?_⟩;rcases Av.mp hy with rfl|hy
 .exact tk x hx
 .exact Ge (tk x hx) (dr y hy)
theorem bX {α:Type}(xs:Aw α){p:Ai}(hp:p<=xs.size)(x:α)(i:Ai):(AS xs p x)[i]? = if i<p then xs[i]? else if i=p then Ab x else xs[i-1]?:=by
 rw[<- A9,Ou];have hl:(xs.toList.take p).length=p:=by simp;lia
 by_cases h1:i<p
 .rw[AF h1,AY (by lia),Je h1,A9]
 .rw[AC h1,Bf (by lia),hl]
  by_cases h2:i=p
  .subst h2;simp
  .rw[AC h2]
   obtain⟨k,hk⟩:∃ k,i-p=k+1:=⟨i-p-1,by lia⟩
   rw[hk,OL,Tf,A9]
   congr 1;lia
theorem vB {α:Type}(xs:Aw α)(p:Ai)(x:α):(AS xs p x).size=xs.size+1:=by
 have:=(Gr xs p x).length_eq;simpa using this
theorem T1 {t:CT}(T:Tb t){j:Ai}(hj:j ∉ t.place.toList):Tb (t.put j).1:=by
 refine⟨ZG T.rs hj,?_⟩;show (if Tw t.dummies j then _ else t.dummies)=#[]
 rw[T.dm,rW];rfl
open PySem.SetTable (Probe leap runEnd turns bits)
noncomputable def adv (mask:Ai)(p:Ka):Ka:=if p.more>0 then { p with j:=p.j+1,more:=p.more-1 } else { p with j:=(leap mask p.i p.perturb).1,more:=Fk mask (leap mask p.i p.perturb).1-(leap mask p.i p.perturb).1,i:=(leap mask p.i p.perturb).1,perturb:=(leap mask p.i p.perturb).2 }
theorem PL (t:CT)(p:Ka):t.advance p=adv t.mask p:=rfl
noncomputable def it (mask:Ai):Ai->Ka->Ka
 |0,p=>p
 |n+1,p=>it mask n (adv mask p)
theorem pC (mask:Ai):∀ (n:Ai) (p:Ka),it mask (n+1) p=adv mask (it mask n p)
 |0,p=>rfl
 |n+1,p=>pC mask n (adv mask p)
theorem f9 (mask:Ai):∀ (m n:Ai) (p:Ka),it mask (m+n) p=it mask n (it mask m p)
 |0,n,p=>by rw[En];rfl
 |m+1,n,p=>by rw[Nb];exact f9 mask m n (adv mask p)
noncomputable def rs (mask i pert:Ai):Ka:={ j:=i,more:=Fk mask i-i,i,perturb:=pert,dummy:=none }
noncomputable def st (mask:Ai)(h:Am):Ka:=rs mask (bits h % (mask+1)) (bits h)
theorem SB (t:CT)(h:Am):t.probeStart h=st t.mask h:=rfl
theorem gO (mask i pert:Ai):∀ k,k<=Fk mask i-i->it mask k (rs mask i pert)={ j:=i+k,more:=Fk mask i-i-k,i,perturb:=pert,dummy:=none }
 |0,_=>rfl
 |k+1,hk=>by
  rw[pC,gO mask i pert k (by lia)]
  unfold adv;rw[AF (by show Fk mask i-i-k>0;lia)]
  simp only[Probe.mk.injEq,and_true,true_and]
  lia
theorem eA (mask i pert:Ai):it mask (Fk mask i-i+1) (rs mask i pert)=rs mask (leap mask i pert).1 (leap mask i pert).2:=by
 rw[pC,gO mask i pert _ (Aq _)];unfold adv;rw[AC (by show ¬ (Fk mask i-i-(Fk mask i-i)>0);lia)]
 rfl
theorem TY (mask i:Ai):Fk mask i-i+1<=10:=by
 unfold Fk
 split <;> lia
noncomputable def lp (mask:Ai):Ai->Ai × Ai->Ai × Ai
 |0,q=>q
 |n+1,q=>lp mask n (leap mask q.1 q.2)
theorem oY (mask:Ai):∀ (m n:Ai) (q:Ai × Ai),lp mask (m+n) q=lp mask n (lp mask m q)
 |0,n,p=>by rw[En];rfl
 |m+1,n,p=>by rw[Nb];exact oY mask m n _
theorem V8 (mask:Ai):∀ (n i pert:Ai),∃ k,k<=10*n/\it mask k (rs mask i pert)=rs mask (lp mask n (i,pert)).1 (lp mask n (i,pert)).2
 |0,i,pert=>⟨0,by lia,rfl⟩
 |n+1,i,pert=>by
  obtain⟨k,hk,e⟩:=V8 mask n (leap mask i pert).1 (leap mask i pert).2;refine⟨(Fk mask i-i+1)+k,by have:=TY mask i;lia,?_⟩
  rw[f9,eA,e];rfl
theorem eG (mask:Ai):∀ (n i pert:Ai),(lp mask n (i,pert)).2=pert/32 ^ n
 |0,i,pert=>by simp[lp]
 |n+1,i,pert=>by
  show (lp mask n ((leap mask i pert).1,pert/32)).2=_;rw[eG mask n _ (pert/32),Nat.div_div_eq_div_mul,<- Nat.pow_succ']
theorem mQ (mask i pert:Ai):(leap mask i pert).1<=mask:=Iu (Me _ (Ly _))
theorem VC (mask:Ai):∀ (n i pert:Ai),i<=mask->(lp mask n (i,pert)).1<=mask
 |0,i,pert,h=>h
 |n+1,i,pert,h=>VC mask n _ _ (mQ mask i pert)
theorem rH (h:Am):bits h<2 ^ 64:=by
 unfold bits;have h1:(0:Am)<=h % 2 ^ 64:=Ib _ (by decide)
 have h2:h % 2 ^ 64<(2 ^ 64:Am):=Gu _ (by decide)
 lia
noncomputable def cyc (mask:Ai):Ai->Ai->Ai
 |0,i=>i
 |n+1,i=>cyc mask n ((i*5+1) % (mask+1))
theorem p6 (mask:Ai):∀ (m n i:Ai),cyc mask (m+n) i=cyc mask n (cyc mask m i)
 |0,n,p=>by rw[En];rfl
 |m+1,n,p=>by rw[Nb];exact p6 mask m n _
theorem oZ (mask:Ai):∀ (n i:Ai),(lp mask n (i,0)).1=cyc mask n i
 |0,i=>rfl
 |n+1,i=>by
  show (lp mask n (leap mask i 0)).1=_;have:leap mask i 0=((i*5+1) % (mask+1),0):=by simp[leap]
  rw[this,oZ mask n];rfl
def Msk (mask:Ai):Prop:=mask=7\/mask=31\/mask=127\/mask=511\/mask=2047
noncomputable def orb (mask:Ai):Ai->Ai->Ai->Ai
 |0,_,acc=>acc
 |n+1,i,acc=>orb mask n ((i*5+1) % (mask+1)) (acc ||| 1 <<< i)
noncomputable def iY (mask:Ai):Ap:=orb mask (mask+1) 0 0 == 2 ^ (mask+1)-1&&cyc mask (mask+1) 0 == 0
theorem iZ (h:Msk mask):iY mask=true:=by
 rcases h with rfl|rfl|rfl|rfl|rfl <;> decide +kernel
theorem eO (mask e:Ai):∀ (n i acc:Ai),(orb mask n i acc).testBit e=true->acc.testBit e=true\/∃ m,m<n/\cyc mask m i=e
 |0,i,acc,h=>.inl h
 |n+1,i,acc,h=>by
  rcases eO mask e n _ _ h with q|⟨m,hm,q⟩
  .rw[Nat.testBit_or,Ia] at q
   rcases q with q|q
   .exact .inl q
   .rw[Nat.one_shiftLeft,Nat.testBit_two_pow,AG] at q
    exact .inr ⟨0,by lia,q⟩
  .exact .inr ⟨m+1,by lia,q⟩
theorem X6 (h:Msk mask){i e:Ai}(hi:i<=mask)(he:e<=mask):∃ n,n<=mask/\cyc mask n i=e:=by
 have a:=iZ h;unfold iY at a;rw[A0] at a;obtain⟨a1,a2⟩:=a;have a1:orb mask (mask+1) 0 0=2 ^ (mask+1)-1:=by simpa using a1
 have g:∀ e,e<=mask->∃ n,n<=mask/\cyc mask n 0=e:=λe he=>by
  have q:(orb mask (mask+1) 0 0).testBit e=true:=by rw[a1,Nat.testBit_two_pow_sub_one];simp;lia
  rcases eO mask e _ _ _ q with q|⟨n,hn,q⟩
  .simp at q
  .exact⟨n,by lia,q⟩
 have a3:cyc mask (mask+1) 0=0:=by simpa using a2
 obtain⟨m,hm,em⟩:=g i hi;obtain⟨n,hn,en⟩:=g e he;by_cases q:m<=n
 .refine⟨n-m,by lia,?_⟩
  rw[<- em,<- p6,show m+(n-m)=n by lia]
  exact en
 .refine⟨n+(mask+1)-m,by lia,?_⟩
  rw[<- em,<- p6,show m+(n+(mask+1)-m)=(mask+1)+n by lia,p6,a3]
  exact en
theorem dM (h:Msk mask){i pert e:Ai}(hi:i<=mask)(hp:pert<2 ^ 64)(he:e<=mask):∃ n,n<=mask+13/\(lp mask n (i,pert)).1=e:=by
 have h0:(lp mask 13 (i,pert)).2=0:=by
  rw[eG];apply Nat.div_eq_of_lt;exact Ge hp (by decide)
 obtain⟨n,hn,q⟩:=X6 h (VC mask 13 i pert hi) he;refine⟨13+n,by lia,?_⟩
 rw[oY];have:lp mask 13 (i,pert)=((lp mask 13 (i,pert)).1,0):=by rw[<- h0]
 rw[this,oZ];exact q
theorem dD (h:Msk mask)(hs:Am){e:Ai}(he:e<=mask):∃ n,n<10*turns mask/\(it mask n (st mask hs)).j=e:=by
 obtain⟨n,hn,q⟩:=dM h (i:=bits hs % (mask+1)) (Iu (Me _ (Ly _))) (rH hs) he;obtain⟨k,hk,e1⟩:=V8 mask n (bits hs % (mask+1)) (bits hs);refine⟨k,by unfold turns;lia,?_⟩
 show (it mask k (rs mask _ _)).j=e;rw[e1];exact q
theorem bG (mask:Ai):∀ (n:Ai) (p:Ka),(it mask n p).dummy=p.dummy
 |0,p=>rfl
 |n+1,p=>by
  show (it mask n (adv mask p)).dummy=_;rw[bG mask n];unfold adv
  split <;> rfl
def Way (t:CT)(p:Ka)(n:Ai):Prop:=∀ m,m<n->(it t.mask m p).j∈t.place.toList
inductive Meets (t:CT)(hashAt:Ai->Am)(h:Am)(p:Ka)(fuel:Ai):Al SetTable.Met->Prop
 |emp (n:Ai) (hn:n<fuel) (w:Way t p n) (e:(it t.mask n p).j ∉ t.place.toList) (q:∀ m i,m<n->t.place[i]? = Ab (it t.mask m p).j->hashAt i≠h):Meets t hashAt h p fuel (Ab (.empty (it t.mask n p).j none))
 |cand (n i:Ai) (hn:n<fuel) (w:Way t p n) (e:t.place[i]? = Ab (it t.mask n p).j) (hh:hashAt i=h) (q:∀ m i,m<n->t.place[i]? = Ab (it t.mask m p).j->hashAt i≠h):Meets t hashAt h p fuel (Ab (.candidate (it t.mask n p).j i (it t.mask (n+1) p)))
theorem ZE (h:Rs xs){a b x:Ai}(ha:xs[a]? = Ab x)(hb:xs[b]? = Ab x):a=b:=by rw[<- pZ h ha,pZ h hb]
set_option tactic.hygienic true in
theorem kE {t:CT}(T:Tb t)(hashAt:Ai->Am)(h:Am):∀ (fuel:Ai) (p:Ka),p.dummy=none->(∃ n,n<fuel/\(it t.mask n p).j ∉ t.place.toList)->Meets t hashAt h p fuel (Iw t hashAt h fuel p)
 |0,p,_,⟨n,hn,_⟩=>by lia
 |fuel+1,p,hd,⟨n,hn,hne⟩=>by
  unfold Iw;rcases i9 T p.j with⟨i,e,ei⟩|⟨e,q⟩
  .rw[e]
   simp only
   split
   .rename_i hh
    exact Meets.cand 0 i (by lia) (λm hm=>by lia) ei (by simpa using hh) λm i hm=>by lia
   .rename_i hh
    have hh':hashAt i≠h:=by simpa using hh
    have hn0:n≠0:=by
     rintro rfl;exact hne (AQ (by rw[A9];exact ei))
    obtain⟨n',rfl⟩:∃ n',n=n'+1:=⟨n-1,by lia⟩
    have ih:=kE T hashAt h fuel (adv t.mask p) (by rw[<- hd];exact bG t.mask 1 p) ⟨n',by lia,hne⟩
    rw[PL];have mem0:p.j∈t.place.toList:=AQ (by rw[A9];exact ei)
    have up:∀ {k:Ai},Way t (adv t.mask p) k->Way t p (k+1):=λ{k} w m hm=>by
     cases m with
     |zero=>exact mem0
     |succ m=>exact w m (by lia)
    have upq:∀ {k:Ai},(∀ m i,m<k->t.place[i]? = Ab (it t.mask m (adv t.mask p)).j->hashAt i≠h)->∀ m i,m<k+1->t.place[i]? = Ab (it t.mask m p).j->hashAt i≠h:=λ{k} q m i' hm e'=>by
     cases m with
     |zero=>rw[ZE T.rs e' ei];exact hh'
     |succ m=>exact q m i' (by lia) e'
    generalize hg:Iw t hashAt h fuel (adv t.mask p)=r at ih;cases ih with
    |emp k hk w e1 q1=>exact Meets.emp (p:=p) (k+1) (by lia) (up w) e1 (upq q1)
    |cand k i' hk w e1 hh1 q1=>exact Meets.cand (p:=p) (k+1) i' (by lia) (up w) e1 hh1 (upq q1)
  .rw[e]
   simp only[hd];exact Meets.emp (p:=p) 0 (by lia) (λm hm=>by lia) q λm i hm=>by lia
end _S
namespace _S
open PySem
open PySem.SetTable (Probe leap runEnd turns bits)
variable {us:Aa Ai}{mask:Ai}{owner:Aw (Al Ai)}
structure Own (mask:Ai)(owner:Aw (Al Ai))(us:Aa Ai):Prop where
 size:owner.size=mask+1
 nd:us.Nodup
 le:∀ u∈us,u<=mask
 at':∀ j k,j<=mask->(owner.getD j (Ab 0)=Ab k↔us[k]? = Ab j)
theorem tB {i:Ai}(hi:i<=mask):Fk mask i<=mask:=by
 unfold Fk
 split <;> lia
theorem tE (mask i:Ai):i<=Fk mask i:=by
 unfold Fk
 split <;> lia
theorem Own.none (O:Own mask owner us){j:Ai}(hj:j<=mask):(owner.getD j (Ab 0)).isNone=true↔j ∉ us:=by
 constructor
 .intro h hm
  obtain⟨k,hk,e⟩:=Bv.mp hm;have:=(O.at' j k hj).mpr (by rw[Au hk,e])
  rw[this] at h;cases h
 .intro h
  cases q:owner.getD j (Ab 0) with
  |none=>rfl
  |some k=>exact absurd (AQ ((O.at' j k hj).mp q)) h
theorem tX (O:Own mask owner us):∀ (fuel i pert:Ai),i<=mask->(∃ L,L<fuel/\(lp mask L (i,pert)).1 ∉ us) ->
  ∃ n,Gs mask owner fuel i pert=Ab (it mask n (rs mask i pert)).j/\(it mask n (rs mask i pert)).j<=mask/\(it mask n (rs mask i pert)).j ∉ us/\∀ m,m<n->(it mask m (rs mask i pert)).j∈us
 |0,i,pert,hi,⟨L,hL,_⟩=>by lia
 |fuel+1,i,pert,hi,⟨L,hL,hne⟩=>by
  unfold Gs;have hmx:=tB hi;have hmn:=tE mask i;cases hf:(Be (Fk mask i+1-i)).find? λk=>(owner.getD (i+k) (Ab 0)).isNone with
  |some k =>
   obtain⟨h1,h2,h3⟩:=List.find?_range_eq_some.mp hf;have hk:k<Fk mask i+1-i:=De.mp h2;have ej:(it mask k (rs mask i pert)).j=i+k:=by rw[gO mask i pert k (by lia)]
   refine⟨k,?_,?_,?_,λm hm=>?_⟩
   .rw[ej]
   .rw[ej];lia
   .rw[ej];exact(O.none (by lia)).mp h1
   .rw[gO mask i pert m (by lia)]
    have:=h3 m hm;apply Ds;intro q;rw[(O.none (show i+m<=mask by lia)).mpr q] at this
    cases this
  |none =>
   have hall:∀ k,k<Fk mask i+1-i->i+k∈us:=λk hk=>by
    have:=List.find?_eq_none.mp hf k (De.mpr hk);apply Ds;intro q;exact this ((O.none (show i+k<=mask by lia)).mpr q)
   have hL0:L≠0:=by
    rintro rfl;exact hne (hall 0 (by lia))
   obtain⟨L',rfl⟩:∃ L',L=L'+1:=⟨L-1,by lia⟩
   obtain⟨n,q1,q2,q3,q4⟩:=tX O fuel (leap mask i pert).1 (leap mask i pert).2 (mQ mask i pert) ⟨L',by lia,hne⟩
   have e:∀ m,it mask (Fk mask i-i+1+m) (rs mask i pert)=it mask m (rs mask (leap mask i pert).1 (leap mask i pert).2):=λm=>by rw[f9,eA]
   refine⟨Fk mask i-i+1+n,?_,?_,?_,λm hm=>?_⟩
   .rw[e];exact q1
   .rw[e];exact q2
   .rw[e];exact q3
   .by_cases hlt:m<Fk mask i-i+1
    .rw[gO mask i pert m (by lia)]
     exact hall m (by lia)
    .obtain⟨m',rfl⟩:∃ m',m=Fk mask i-i+1+m':=⟨m-(Fk mask i-i+1),by lia⟩
     rw[e];exact q4 m' (by lia)
theorem gap (h:us.length<=mask):∃ e,e<=mask/\e ∉ us:=by
 apply Ds;intro q;have:Be (mask+1) ⊆ us:=λe he=>by
  apply Ds;intro r;exact q ⟨e,by have:=De.mp he;lia,r⟩
 have:=List.Nodup.length_le_of_subset Vl this;rw[CC] at this
 lia
theorem K5 (mask:Ai):Own mask (Array.replicate (mask+1) none) []:=by
 refine⟨by simp,Ms,λu hu=>by simp at hu,λj k hj=>?_⟩
 have:j<mask+1:=by lia
 simp[Ek,this]
theorem WS (O:Own mask owner us){j:Ai}(hj:j<=mask)(hn:j ∉ us):Own mask (owner.setIfInBounds j (Ab us.length)) (us++[j]):=by
 refine⟨by simp[O.size],?_,λu hu=>?_,λi k hi=>?_⟩
 .rw[Nz]
  refine⟨O.nd,by simp,λa ha b hb=>?_⟩
  simp at hb;rintro rfl;subst hb;exact hn ha
 .rcases Ba.mp hu with h|h
  .exact O.le u h
  .simp at h;lia
 .have hsz:=O.size
  have hi':i<owner.size:=by lia
  have hk:∀ {k},us[k]? = Ab i->k<us.length:=λq=>(Bg.mp q).1;by_cases hij:j=i
  .subst hij
   have e1:(owner.setIfInBounds j (Ab us.length)).getD j (Ab 0)=Ab us.length:=by simp[Ek,hi']
   rw[e1];constructor
   .intro q;cases q;simp
   .intro q
    by_cases h1:k<us.length
    .rw[AY h1] at q
     exact absurd (AQ q) hn
    .rw[Bf (by lia)] at q
     have:k-us.length=0:=by
      cases hz:k-us.length with
      |zero=>rfl
      |succ z=>rw[hz] at q;simp at q
     congr 1;lia
  .have e1:(owner.setIfInBounds j (Ab us.length)).getD i (Ab 0)=owner.getD i (Ab 0):=by
    simp[Ek,hi',Array.getElem_setIfInBounds,hij]
   rw[e1,O.at' i k hi];constructor
   .intro q;rw[AY (hk q)];exact q
   .intro q
    by_cases h1:k<us.length
    .rw[AY h1] at q;exact q
    .rw[Bf (by lia)] at q
     cases hz:k-us.length with
     |zero=>rw[hz] at q;simp at q;exact absurd q hij
     |succ z=>rw[hz] at q;simp at q
def cI (mask:Ai)(us:Aa Ai)(hs:Aa Am):Prop:=∀ (k:Ai) (h:Am),hs[k]? = Ab h->∃ n,us[k]? = Ab (it mask n (st mask h)).j/\∀ m,m<n->(it mask m (st mask h)).j∈us
theorem tV (hM:Msk mask):∀ (hs done:Aa Am) (owner:Aw (Al Ai)) (us:Aa Ai),Own mask owner us->us.length=done.length->done.length+hs.length<=mask->cI mask us done ->
  ∃ owner' us',hs.foldl (λacc h=>do
   let (owner,k) <- acc
   let j <- Gs mask owner (turns mask) (bits h % (mask+1)) (bits h)
   pure (owner.setIfInBounds j (Ab k),k+1)) (Ab (owner,us.length))=Ab (owner',us'.length)/\Own mask owner' us'/\us'.length=done.length+hs.length/\cI mask us' (done++hs)
 |[],done,owner,us,O,hl,_,hL=>⟨owner,us,rfl,O,by simpa using hl,by simpa using hL⟩
 |h::hs,done,owner,us,O,hl,hlen,hL=>by
  rw[AO] at hlen;obtain⟨e,he,hne⟩:=gap (mask:=mask) (us:=us) (by lia)
  obtain⟨L,hLn,hLe⟩:=dM hM (i:=bits h % (mask+1)) (Iu (Me _ (Ly _))) (rH h) he;obtain⟨n,q1,q2,q3,q4⟩:=tX O (turns mask) (bits h % (mask+1)) (bits h) (Iu (Me _ (Ly _))) ⟨L,by unfold turns;lia,by rw[hLe];exact hne⟩
  have O':=WS O q2 q3;have hL':cI mask (us++[(it mask n (rs mask (bits h % (mask+1)) (bits h))).j]) (done++[h]):=λk h' e'=>by
   by_cases hk:k<done.length
   .rw[AY hk] at e'
    obtain⟨n',w1,w2⟩:=hL k h' e';exact⟨n',by rw[AY (by lia)];exact w1,λm hm=>Bk _ (w2 m hm)⟩
   .rw[Bf (by lia)] at e'
    cases hz:k-done.length with
    |succ z=>rw[hz] at e';simp at e'
    |zero =>
     rw[hz] at e';simp at e';subst e';refine⟨n,?_,λm hm=>Bk _ (q4 m hm)⟩;rw[Bf (by lia),hl,hz]
     rfl
  obtain⟨owner',us',r1,r2,r3,r4⟩:=tV hM hs (done++[h]) _ _ O' (by simp[hl]) (by simp;lia) hL'
  refine⟨owner',us',?_,r2,by simpa [Xt,Lw 1] using r3,by simpa using r4⟩
  rw[IY];rw[AT] at r1;have e0:(do
   let (owner,k) <- Ab (owner,us.length)
   let j <- Gs mask owner (turns mask) (bits h % (mask+1)) (bits h)
   pure (owner.setIfInBounds j (Ab k),k+1))=Ab (owner.setIfInBounds (it mask n (rs mask (bits h % (mask+1)) (bits h))).j (Ab us.length),us.length+1):=by
   show (Gs mask owner (turns mask) (bits h % (mask+1)) (bits h)).bind _=_;rw[q1];rfl
  rw[e0];exact r1
theorem nO (hM:Msk mask)(hs:Aw Am)(hlen:hs.size<=mask):∃ owner us,Uq mask hs=Ab owner/\Own mask owner us/\us.length=hs.size/\cI mask us hs.toList:=by
 obtain⟨owner',us',r1,r2,r3,r4⟩:=tV hM hs.toList [] _ [] (K5 mask) rfl (by simpa using hlen) (λk h e=>by simp at e)
 refine⟨owner',us',?_,r2,by simpa using r3,by simpa using r4⟩
 unfold Uq;rw[<- Array.foldl_toList];have:(([]:Aa Ai).length)=0:=rfl;rw[this] at r1
 erw [r1]
 rfl
structure Laid (mask:Ai)(hs:Aw Am)(t:CT)(qP:Aw Ai):Prop where
 msk:t.mask=mask
 tb:Tb t
 size:t.place.size=hs.size
 le:∀ x∈t.place.toList,x<=mask
 perm:qP.toList.Perm (Be hs.size)
 way:∀ (i k:Ai) (h:Am),qP[i]? = Ab k->hs[k]? = Ab h->∃ n,t.place[i]? = Ab (it mask n (st mask h)).j/\Way t (st mask h) n
theorem oS (hM:Msk mask)(hs:Aw Am)(hlen:hs.size<=mask)(finger moves:Ai)(led plain:Ap) :
  ∃ t qP,Ry mask finger moves led plain hs=Ab (t,qP)/\t.led=led/\t.plain=plain/\Laid mask hs t qP:=by
 obtain⟨owner,us,e,O,hl,hL⟩:=nO hM hs hlen;have hg:∀ j,j<=mask->owner.getD j none=owner.getD j (Ab 0):=λj hj=>by
  have:j<owner.size:=by rw[O.size];lia
  simp[Ek,this]
 generalize hlv:((Be (mask+1)).filterMap λj=>(owner.getD j none).map (j,·))=live
 have mem:∀ (j k:Ai),(j,k)∈live↔us[k]? = Ab j:=λj k=>by
  rw[<- hlv,Fv];constructor
  .rintro⟨j',hj',q⟩
   have hj'':j'<=mask:=by have:=De.mp hj';lia
   rw[hg j' hj''] at q;cases hz:owner.getD j' (Ab 0) with
   |none=>rw[hz] at q;cases q
   |some k' =>
    rw[hz] at q;simp at q;obtain⟨rfl,rfl⟩:=q;exact(O.at' _ _ hj'').mp hz
  .intro q
   have hj:j<=mask:=O.le j (AQ q);refine⟨j,De.mpr (by lia),?_⟩
   rw[hg j hj,(O.at' j k hj).mpr q];rfl
 have hfst:live.map (·.1)=(Be (mask+1)).filter λj=>(owner.getD j none).isSome:=by
  rw[<- hlv,List.map_filterMap];generalize owner.getD=f
  induction Be (mask+1) with
  |nil=>rfl
  |cons a l ih =>
   rw[Ec,List.filter_cons];cases hz:f a none with
   |none=>simpa using ih
   |some k=>simpa using ih
 have hR:(live.map (·.1)).Pairwise (· < ·):=by
  rw[hfst];exact Ys _ Pd
 have ndl:(live.map (·.2)).Nodup:=by
  unfold Ws;rw[Fd];have h1:=Fd.mp hR;refine Ov (λ{a b} ha hb hab=>?_) h1;intro q;have ea:=(mem a.1 a.2).mp ha;have eb:=(mem b.1 b.2).mp hb;rw[<- q,ea] at eb;simp at eb
  lia
 have pm:(live.map (·.2)).Perm (Be hs.size):=by
  rw[Nl ndl Vl];intro k;rw[Bl,De,<- hl];constructor
  .rintro⟨⟨j,k'⟩,h1,rfl⟩
   exact(Bg.mp ((mem j k').mp h1)).1
  .intro hk
   exact⟨(us[k],k),(mem _ _).mpr (Au hk),rfl⟩
 have hmem:∀ j,j∈live.map (·.1)↔j∈us:=λj=>by
  rw[Bl];constructor
  .rintro⟨⟨j',k⟩,h1,rfl⟩
   exact AQ ((mem _ _).mp h1)
  .intro h1
   obtain⟨k,hk,e⟩:=Bv.mp h1;exact⟨(j,k),(mem _ _).mpr (by rw[Au hk,e]),rfl⟩
 refine⟨{ mask,place:=(live.map (·.1)).toArray,dummies:=#[],finger,led,moves,plain },(live.map (·.2)).toArray,?_,rfl,rfl,rfl,⟨?_,rfl⟩,?_,λx hx=>?_,?_,λi k h e1 e2=>?_⟩
 .unfold Ry
  rw[e,<- hlv];rfl
 .exact hR
 .have:=pm.length_eq
  simp at this ⊢;exact this
 .exact O.le x ((hmem x).mp hx)
 .exact pm
 .have e1':(live.map (·.2))[i]? = Ab k:=by simpa using e1
  rw[By] at e1';cases hz:live[i]? with
  |none=>rw[hz] at e1';cases e1'
  |some jk =>
   rw[hz] at e1';simp at e1';have hin:=AQ hz;have hu:=(mem jk.1 jk.2).mp hin;obtain⟨n,w1,w2⟩:=hL k h (by rw[A9];exact e2)
   rw[<- e1'] at w1;rw[hu] at w1;refine⟨n,?_,λm hm=>?_⟩
   .rw[<- w1]
    simp[hz]
   .have:=(hmem _).mpr (w2 m hm)
    simpa using this
theorem GE {t:CT}{hs:Aw Am}{w:Ai}:SetTable.relaid t hs w=Ry (CZ w-1) t.finger (t.movedTo (CZ w-1)) t.led t.plain hs:=rfl
end _S
namespace _S
open PySem
open PySem.SetTable (Probe leap runEnd turns bits)
structure Set0 {K:Type}(is:K->Ac->Prop)(hash:K->Am)(es:Aw (Am × Ac))(seen:Aa K):Prop where
 good:∀ e∈es.toList,∃ k,e.1=hash k/\is k e.2
 nd:es.toList.Pairwise λa b=>∀ k,is k a.2->¬ is k b.2
 mem:∀ k,k∈seen↔∃ e∈es.toList,is k e.2
section
variable {K:Type}{is:K->Ac->Prop}{hash:K->Am}{es es':Aw (Am × Ac)}{seen seen':Aa K}
theorem Set0.perm (Z:Set0 is hash es seen)(p:es'.toList.Perm es.toList):Set0 is hash es' seen:=
 ⟨λe he=>Z.good e (p.mem_iff.mp he),(p.pairwise_iff λ{x y} h k hy hx=>h k hx hy).mpr Z.nd,λk=>(Z.mem k).trans ⟨λ⟨e,he,q⟩=>⟨e,p.mem_iff.mpr he,q⟩,λ⟨e,he,q⟩=>⟨e,p.mem_iff.mp he,q⟩⟩⟩
theorem Set0.nil:Set0 is hash #[] []:=⟨λe he=>by simp at he,by simp,λk=>by simp⟩
theorem Set0.push (Z:Set0 is hash es seen)(inj:∀ {k k':K} {v:Ac},is k v->is k' v->k=k'){k:K}{x:Ac}(hk:is k x)(hn:k ∉ seen)(p:es'.toList.Perm (es.toList++[(hash k,x)])):Set0 is hash es' (k::seen):=by
 refine Set0.perm (es:=es.push (hash k,x)) ⟨λe he=>?_,?_,λk'=>?_⟩ (by simpa using p)
 .rw[CL] at he
  rcases Ba.mp he with he|he
  .exact Z.good e he
  .simp at he;subst he;exact⟨k,rfl,hk⟩
 .rw[CL,Cw]
  refine⟨Z.nd,by simp,λa ha b hb k' h1 h2=>?_⟩
  simp at hb;subst hb;have:=inj hk h2;subst this;exact hn ((Z.mem k).mpr ⟨a,ha,h1⟩)
 .rw[Av,Z.mem,CL]
  constructor
  .rintro (rfl|⟨e,he,q⟩)
   .exact⟨(hash k',x),by simp,hk⟩
   .exact⟨e,Bk _ he,q⟩
  .rintro⟨e,he,q⟩
   rcases Ba.mp he with he|he
   .exact .inr ⟨e,he,q⟩
   .simp at he;subst he;exact .inl (inj q hk)
theorem Set0.again (Z:Set0 is hash es seen){k:K}(hk:k∈seen):Set0 is hash es (k::seen):=
 ⟨Z.good,Z.nd,λk'=>by rw[Av,Z.mem];exact⟨λh=>h.elim (λe=>by subst e;exact(Z.mem _).mp hk) id,.inr⟩⟩
end
section
open Classical in
theorem bJ {K:Type}{is:K->Ac->Prop}:∀ (L:Aa (Am × Ac)) (U:Aa K),L.Pairwise (λa b=>∀ k,is k a.2->¬ is k b.2)->(∀ e∈L,∃ k∈U,is k e.2)->L.length<=U.length
 |[],U,_,_=>Dp _
 |e::L,U,nd,h=>by
  rw[CD] at nd;obtain⟨k0,hk0,q0⟩:=h e (by simp)
  have ih:=bJ L (U.erase k0) nd.2 λe' he'=>by
   obtain⟨k,hk,q⟩:=h e' (by simp[he'])
   have:k≠k0:=λz=>nd.1 e' he' k0 q0 (z▸q);exact⟨k,(Lg this).mpr hk,q⟩
  rw[Ow hk0] at ih;have:0<U.length:=Pe hk0;rw[AO]
  lia
open Classical in
theorem Set0.few {K:Type}{is:K->Ac->Prop}{hash:K->Am}{es:Aw (Am × Ac)}{seen U:Aa K}{k:K}(Z:Set0 is hash es seen)(hU:∀ k'∈seen,k'∈U)(hk:k∈U)(hn:k ∉ seen):es.size<U.length:=by
 have:=bJ es.toList (U.erase k) Z.nd λe he=>by
  obtain⟨k',_,q⟩:=Z.good e he;have hs:=(Z.mem k').mpr ⟨e,he,q⟩;have hne:k'≠k:=λz=>hn (z▸hs);exact⟨k',(Lg hne).mpr (hU k' hs),q⟩
 rw[Ow hk,A6] at this;have:0<U.length:=Pe hk
 lia
end
structure TabT (t:CT)(es:Aw (Am × Ac)):Prop where
 tb:Tb t
 msk:Msk t.mask
 size:t.place.size=es.size
 le:∀ x∈t.place.toList,x<=t.mask
 few:es.size*5<t.mask*3
 way:∀ (i:Ai) (e:Am × Ac),es[i]? = Ab e->∃ n,t.place[i]? = Ab (it t.mask n (st t.mask e.1)).j/\Way t (st t.mask e.1) n
 plain:t.plain=true
theorem TabT.fits {t:CT}{es:Aw (Am × Ac)}(T:TabT t es):t.fits es.size=true:=by
 have h1:=T.size;have h2:=T.few;have h3:t.fill=es.size:=by unfold IR;rw[T.tb.dm,h1];rfl
 unfold Rz;rw[h3,h1];rcases T.msk with h|h|h|h|h <;> rw[h] at h2 ⊢ <;> simp <;> lia
theorem TabT.gap {t:CT}{es:Aw (Am × Ac)}(T:TabT t es):∃ e,e<=t.mask/\e ∉ t.place.toList:=by
 apply _S.gap;rw[A6,T.size];have h2:=T.few;rcases T.msk with h|h|h|h|h <;> rw[h] at h2 ⊢ <;> lia
theorem TabT.odd {t:CT}{es:Aw (Am × Ac)}(T:TabT t es):t.gaveWay=false:=by
 unfold SetTable.gaveWay;rcases T.msk with h|h|h|h|h <;> rw[h] <;> rfl
theorem TabT.put {t:CT}{es:Aw (Am × Ac)}(T:TabT t es){h:Am}{x:Ac}{n:Ai}(w:Way t (st t.mask h) n)(hn:(it t.mask n (st t.mask h)).j ∉ t.place.toList)(hle:(it t.mask n (st t.mask h)).j<=t.mask) :
  let es':=AS es (t.put (it t.mask n (st t.mask h)).j).2 (h,x)
  Tb (t.put (it t.mask n (st t.mask h)).j).1/\(t.put (it t.mask n (st t.mask h)).j).1.place.size=es'.size/\(∀ y∈(t.put (it t.mask n (st t.mask h)).j).1.place.toList,y<=t.mask) /\
  (∀ (i:Ai) (e:Am × Ac),es'[i]? = Ab e->∃ m,(t.put (it t.mask n (st t.mask h)).j).1.place[i]? = Ab (it t.mask m (st t.mask e.1)).j/\Way (t.put (it t.mask n (st t.mask h)).j).1 (st t.mask e.1) m):=by
 generalize hj:(it t.mask n (st t.mask h)).j=j at *;have pm:∀ y,y∈(t.put j).1.place.toList↔y=j\/y∈t.place.toList:=λy=>by
  show y∈(AS t.place (AV t.place j) j).toList↔_;rw[(Gr _ _ _).mem_iff];simp[or_comm]
 have hb:AV t.place j<=t.place.size:=(vN T.tb.rs j).le;have wm:∀ {p:Ka} {m:Ai},Way t p m->Way (t.put j).1 p m:=λ{p m} w q hq=>(pm _).mpr (.inr (w q hq));refine⟨T1 T.tb hn,?_,λy hy=>?_,λi e he=>?_⟩
 .show (AS t.place _ j).size=(AS es _ (h,x)).size
  rw[vB,vB,T.size]
 .rcases (pm y).mp hy with rfl|hy
  .exact hle
  .exact T.le y hy
 .have he':(if i<AV t.place j then es[i]? else if i=AV t.place j then Ab (h,x) else es[i-1]?)=Ab e:=by
   rw[<- bX es (by rw[<- T.size];exact hb)]
   exact he
  have pl:(t.put j).1.place[i]? = if i<AV t.place j then t.place[i]? else if i=AV t.place j then Ab j else t.place[i-1]?:=bX t.place hb j i
  rw[pl];by_cases h1:i<AV t.place j
  .rw[AF h1] at he' ⊢
   obtain⟨m,q1,q2⟩:=T.way i e he';exact⟨m,q1,wm q2⟩
  .rw[AC h1] at he' ⊢
   by_cases h2:i=AV t.place j
   .rw[AF h2] at he' ⊢
    cases he';exact⟨n,by rw[hj],wm w⟩
   .rw[AC h2] at he' ⊢
    obtain⟨m,q1,q2⟩:=T.way _ e he';exact⟨m,q1,wm q2⟩
theorem V7 {mask:Ai}(p:Ka)(hp:p.j+p.more<=mask):∀ n,(it mask n p).j+(it mask n p).more<=mask
 |0=>hp
 |n+1=>by
  rw[pC];have ih:=V7 p hp n;unfold adv
  split
  .show (it mask n p).j+1+((it mask n p).more-1)<=mask
   lia
  .show (leap mask _ _).1+(Fk mask (leap mask _ _).1-(leap mask _ _).1)<=mask
   have h1:=tB (mQ mask (it mask n p).i (it mask n p).perturb);have h2:=tE mask (leap mask (it mask n p).i (it mask n p).perturb).1
   lia
theorem VL (mask:Ai)(h:Am)(n:Ai):(it mask n (st mask h)).j<=mask:=by
 have h0:bits h % (mask+1)<=mask:=Iu (Me _ (Ly _));have:=V7 (mask:=mask) (st mask h) (by
  show bits h % (mask+1)+(Fk mask (bits h % (mask+1))-bits h % (mask+1))<=mask;have h1:=tB h0;have h2:=tE mask (bits h % (mask+1))
  lia) n
 lia
theorem pV {t:CT}{es:Aw (Am × Ac)}(hM:Msk t.mask)(hp:t.plain=true)(h1:t.place.size=es.size)(h2:es.size<=1001)(hf:t.tooFull=true)(hd:t.dummies=#[])(h3:(es.size-1)*5<t.mask*3)(h4:0<es.size) :
  CZ (Fb es.size)<=2048/\∃ t' qP,t.relaid (es.map (·.1)) (Fb es.size)=Ab (t',qP)/\t'.led=t.led/\(qP.filterMap (es[·]?)).toList.Perm es.toList/\TabT t' (qP.filterMap (es[·]?))/\qP.toList.Perm (Be es.size):=by
 have hfill:t.fill=es.size:=by unfold IR;rw[hd,h1];rfl
 have hful:t.mask*3<=es.size*5:=by
  unfold OD at hf;rw[hfill] at hf;simpa using hf
 have hcase:(es.size=5/\CZ (Fb es.size)=32)\/(es.size=19/\CZ (Fb es.size)=128)\/(es.size=77/\CZ (Fb es.size)=512)\/(es.size=307/\CZ (Fb es.size)=2048):=by
  rcases hM with h|h|h|h|h <;> rw[h] at hful h3
  .have:es.size=5:=by lia
   exact .inl ⟨this,by rw[this];decide⟩
  .have:es.size=19:=by lia
   exact .inr (.inl ⟨this,by rw[this];decide⟩)
  .have:es.size=77:=by lia
   exact .inr (.inr (.inl ⟨this,by rw[this];decide⟩))
  .have:es.size=307:=by lia
   exact .inr (.inr (.inr ⟨this,by rw[this];decide⟩))
  .lia
 have hM':Msk (CZ (Fb es.size)-1):=by
  rcases hcase with⟨_,h⟩|⟨_,h⟩|⟨_,h⟩|⟨_,h⟩ <;> rw[h]
  .exact .inr (.inl rfl)
  .exact .inr (.inr (.inl rfl))
  .exact .inr (.inr (.inr (.inl rfl)))
  .exact .inr (.inr (.inr (.inr rfl)))
 have hle:(es.map (·.1)).size<=CZ (Fb es.size)-1:=by
  rw[Qw];rcases hcase with⟨h5,h⟩|⟨h5,h⟩|⟨h5,h⟩|⟨h5,h⟩ <;> rw[h,h5] <;> lia
 obtain⟨t',qP,e,l1,l2,L⟩:=oS hM' (es.map (·.1)) hle t.finger (t.movedTo (CZ (Fb es.size)-1)) t.led t.plain
 have hosz:qP.size=es.size:=by
  have:=L.perm.length_eq;simpa using this
 have hord:∀ i k,qP[i]? = Ab k->k<es.size:=λi k q=>by
  have:k∈Be (es.map (·.1)).size:=L.perm.mem_iff.mp (AQ (by rw[A9];exact q))
  simpa using this
 have hfm:(qP.filterMap (es[·]?)).toList=qP.toList.map λk=>es.toList.getD k (0,.none):=by
  rw[Array.toList_filterMap];have:∀ l:Aa Ai,(∀ k∈l,k<es.size)->l.filterMap (es[·]?)=l.map λk=>es.toList.getD k (0,.none):=by
   intro l
   induction l with
   |nil=>intro _;rfl
   |cons a l ih =>
    intro hl;have ha:=hl a (by simp)
    rw[Ec,Ce,ih λk hk=>hl k (by simp[hk])]
    rw[Cq ha];simp[ha]
  refine this _ λk hk=>?_;obtain⟨i,hi,q⟩:=Bv.mp hk;exact hord i k (by rw[<- A9,Au hi,q])
 have hperm:(qP.filterMap (es[·]?)).toList.Perm es.toList:=by
  rw[hfm];have p1:=L.perm.map λk=>es.toList.getD k (0,Bs);refine p1.trans ?_;have e2:(Be (es.map (·.1)).size).map (λk=>es.toList.getD k (0,Bs))=es.toList:=by
   apply OE
   .simp
   .intro i a1 a2
    have a3:i<es.size:=by simpa using a2
    simp[a3]
  rw[e2]
 have hsz:(qP.filterMap (es[·]?)).size=es.size:=by rw[<- A6,hperm.length_eq,A6]
 have hentry:∀ i,(qP.filterMap (es[·]?))[i]? = (qP[i]?).map λk=>es.toList.getD k (0,.none):=λi=>by
  rw[<- A9,hfm,By,A9]
 refine⟨by rcases hcase with⟨_,h⟩|⟨_,h⟩|⟨_,h⟩|⟨_,h⟩ <;> rw[h] <;> decide,t',qP,by rw[GE];exact e,l1,hperm,⟨L.tb,by rw[L.msk];exact hM',by rw[L.size,hsz,Qw],by rw[L.msk];exact L.le,?_,λi en q=>?_,by rw[l2];exact hp⟩,by have:=L.perm;rwa [Qw] at this⟩
 .rw[hsz,L.msk]
  rcases hcase with⟨h5,h⟩|⟨h5,h⟩|⟨h5,h⟩|⟨h5,h⟩ <;> rw[h,h5] <;> lia
 .rw[hentry] at q
  cases hz:qP[i]? with
  |none=>rw[hz] at q;cases q
  |some k =>
   rw[hz] at q;simp only[Ic,Option.some.injEq] at q;have hk:=hord i k hz;have:(es.map (·.1))[k]? = Ab en.1:=by
    rw[Array.getElem?_map,Cq hk];rw[<- q];simp[hk]
   rw[L.msk];exact L.way i k en.1 hz this
end _S
namespace _S
open PySem
open PySem.SetTable (Probe leap runEnd turns bits)
variable {Q:Ap->Ag->Prop}
def Sup (h0 h:AB):Prop:=∀ b o,h0.get? b=Ab o->h.get? b=Ab o
def isT (prog:A5)(w:AL)(h0:AB)(ks:Aa Am)(v:Ac):Prop:=∃ a,v=.ref a/\OF (A8 prog w) h0 ks a
section
variable {prog:A5}{w:AL}{h0:AB}
theorem isT.inj {x y:Aa Am}{v:Ac}(hx:isT prog w h0 x v)(hy:isT prog w h0 y v):x=y:=by
 obtain⟨a,rfl,h1⟩:=hx;obtain⟨b,e,h2⟩:=hy;cases e;exact h1.inj h2
theorem vE {h:AB}{ks:Aa Am}{a:Af}(hS:Sup h0 h)(hx:OF (A8 prog w) h0 ks a):OF (A8 prog w) h ks a:=by
 obtain⟨o,items,n,ho,r⟩:=hx;exact⟨o,items,n,hS _ _ ho,r⟩
variable {A:AK}{E:Ac->Ag->Prop}{s:Ag}
theorem LG {k:Aa Am}{v:Ac}{Q:Am->Ag->Prop}(hu:A.units<Ee)(hS:Sup h0 s.heap)(hx:isT prog w h0 k v)(h:Q (AJ (A8 prog w) k) { s with toks:=s.toks+(k.length+1) }) : Ao (Ar prog w) A (pyHash v) Q E s:=by
 obtain⟨a,rfl,hx⟩:=hx;exact wpAny_pyHash_tuple hu (vE hS hx) h
theorem eqT {k k':Aa Am}{v v':Ac}(hu:A.units<Ee)(hS:Sup h0 s.heap)(hx:isT prog w h0 k v)(hy:isT prog w h0 k' v')(h:Q (decide (k=k')) s):Ao (Ar prog w) A (eqBool v v') Q E s:=by
 obtain⟨a,rfl,hx⟩:=hx;obtain⟨b,rfl,hy⟩:=hy;exact wpAny_eqBool_tuple hu (vE hS hx) (vE hS hy) h
theorem fB:∀ {ks:Aa Am} {vs:Aa Ac},ItemsAre (A8 prog w) ks vs->∀ v∈vs,∃ i t,v=.int i t:=by
 intro ks vs h
 induction h with
 |nil=>intro v hv;simp at hv
 |@cons k v' ks vs h1 _ ih =>
  intro v hv;rcases Av.mp hv with rfl|hv
  .cases v <;> first|exact⟨_,_,rfl⟩|exact absurd h1 (by rintro⟨⟩)
  .exact ih v hv
theorem R9 {k:Aa Am}{v:Ac}(hS:Sup h0 s.heap)(hx:isT prog w h0 k v)(h:Q true s):Ao (Ar prog w) A (Nm 8 v) Q E s:=by
 obtain⟨a,rfl,hx⟩:=hx;have hx:=vE hS hx;have hT:=hx.typeIs;obtain⟨o,items,n,ho,_,hd,hi⟩:=hx;unfold Nm;refine Ad (Wd hT F.slot_tuple_hash.lookup ?_);show Ao _ _ (Xp (.ref a) >>= _) Q E s;refine Ad (Fa ho hd ?_);refine Ad ?_;show Ao _ _ (forIn items _ _) _ _ s;rw[<- Tg];refine OG _ (λqO r s'=>r.1=none/\s'=s/\∀ v∈qO,∃ i t,v=.int i t) _ ?_ ?_ _ _ ⟨rfl,rfl,fB hi⟩
 .rintro v qO r s' ⟨hr,rfl,hall⟩
  obtain⟨i,t,rfl⟩:=hall v Bx;show Ao _ _ (Nm 7 (.int i t) >>= _) _ _ _;rw[show Nm 7 (.int i t)=pure true from rfl]
  refine Ad (Ak ?_);simp only[Ie,AR,CB];exact Ak ⟨rfl,rfl,λu hu'=>hall u (Bb _ hu')⟩
 .rintro⟨r1,r2⟩ s' ⟨hr,rfl,_⟩
  simp only at hr;subst hr;exact Ak h
theorem iU {k:Aa Am}{v:Ac}(hS:Sup h0 s.heap)(hx:isT prog w h0 k v)(h:Q false s):Ao (Ar prog w) A (Kb 8 v) Q E s:=by
 obtain⟨a,rfl,hx⟩:=hx;have hx:=vE hS hx;have hT:=hx.typeIs;obtain⟨o,items,n,ho,_,hd,hi⟩:=hx;unfold Kb;refine Ad (IF hT ?_);dsimp only;refine Ad (Ak ?_);simp only[Ie,AR,CB];refine Ad (Fa ho hd ?_);refine Ad ?_;show Ao _ _ (forIn items _ _) _ _ s;rw[<- Tg];refine OG _ (λqO r s'=>r.1=none/\s'=s/\∀ v∈qO,∃ i t,v=.int i t) _ ?_ ?_ _ _ ⟨rfl,rfl,fB hi⟩
 .rintro v qO r s' ⟨hr,rfl,hall⟩
  obtain⟨i,t,rfl⟩:=hall v Bx;show Ao _ _ (Kb 7 (.int i t) >>= _) _ _ _;rw[show Kb 7 (.int i t)=pure false from rfl]
  refine Ad (Ak ?_);simp only[AR,CB];exact Ak ⟨rfl,rfl,λu hu'=>hall u (Bb _ hu')⟩
 .rintro⟨r1,r2⟩ s' ⟨hr,rfl,_⟩
  simp only at hr;subst hr;exact Ak h
theorem Z7 {k:Aa Am}{v:Ac}(hS:Sup h0 s.heap)(hx:isT prog w h0 k v)(h:Q true s):Ao (Ar prog w) A (eqIsQuiet 8 v) Q E s:=by
 obtain⟨a,rfl,hx⟩:=hx;exact wpAny_eqIsQuiet_tuple (vE hS hx) h
theorem aH {α:Type}{c:Prop}[He c]{M:Im}{t u:Il α}{Q:α->Ag->Prop}(h1:c->Ao M A t Q E s)(h2:¬ c->Ao M A u Q E s):Ao M A (if c then t else u) Q E s:=by
 by_cases h:c
 .rw[AF h];exact h1 h
 .rw[AC h];exact h2 h
theorem S8 {k:Aa Am}{x:Ac}{ys:Aa Ac}(hS:Sup h0 s.heap)(hx:isT prog w h0 k x)(hy:∀ y∈ys,∃ k',isT prog w h0 k' y)(h:Q false s):Ao (Ar prog w) A (Ur x ys) Q E s:=by
 unfold Ur;refine Ad ?_;refine OG _ (λqO r s'=>r.1=none/\s'=s/\∀ v∈qO,∃ k',isT prog w h0 k' v) _ ?_ ?_ _ _ ⟨rfl,rfl,hy⟩
 .rintro v qO r s' ⟨hr,rfl,hall⟩
  obtain⟨k',hv⟩:=hall v Bx;have hrest:∀ u∈qO,∃ k',isT prog w h0 k' u:=λu hu'=>hall u (Bb _ hu');dsimp only;refine aH (λ_=>Ak ⟨rfl,rfl,hrest⟩) λ_=>?_
  .refine Ad (Z7 hS hx ?_)
   simp only[Ie,AR,CB];refine Ad (Z7 hS hv ?_);simp only[Ie,AR,CB];refine Ad (iU hS hx ?_);simp only[AR,CB];refine Ad (iU hS hv ?_);simp only[AR,CB];exact Ak ⟨rfl,rfl,hrest⟩
 .rintro⟨r1,r2⟩ s' ⟨hr,rfl,_⟩
  simp only at hr;subst hr;exact Ak h
theorem S7 {k:Aa Am}{v:Ac}(hx:isT prog w h0 k v)(h:Q true s):Ao (Ar prog w) A (isSame v v) Q E s:=by
 obtain⟨a,rfl,hx⟩:=hx;unfold isSame;simp only[CH,Ct];exact Ak h
theorem V3 {k:Aa Am}{x:Ac}{S:Af}{o:AX}{es:Aw (Am × Ac)}{ep:Ai}{t:CT}{seen:Aa (Aa Am)}(hu:A.units<Ee)(hS:Sup h0 s.heap)(ho:s.heap.get? S=Ab o)(hd:o.data=.set es ep t)
  (T:TabT t es) (Z:Set0 (isT prog w h0) (AJ (A8 prog w)) es seen) (hx:isT prog w h0 k x) (N:Ai) (hNw:Way t (st t.mask (AJ (A8 prog w) k)) N)
  (hNe:(it t.mask N (st t.mask (AJ (A8 prog w) k))).j ∉ t.place.toList) (hNf:N<10*turns t.mask) {Q:SetFound->Ag->Prop}
  (h1:k∈seen->Q (.there none) s) (h2:k ∉ seen->Q (.free (it t.mask N (st t.mask (AJ (A8 prog w) k))).j false) s) :
  ∀ (fuel n:Ai) (stand:Al Ka),stand.getD (t.probeStart (AJ (A8 prog w) k))=it t.mask n (st t.mask (AJ (A8 prog w) k))->n<=N->N-n<fuel ->
   (∀ (m i:Ai) (e:Am × Ac),m<n->t.place[i]? = Ab (it t.mask m (st t.mask (AJ (A8 prog w) k))).j->es[i]? = Ab e->¬ isT prog w h0 k e.2) ->
   Ao (Ar prog w) A (Ol S x (AJ (A8 prog w) k) true fuel stand) Q E s
 |0,n,stand,_,_,hf,_=>by lia
 |fuel+1,n,stand,hst,hn,hf,hq=>by
  unfold Ol;refine Ad (Dy ho hd T.fits ?_);dsimp only;rw[T.odd];simp only[AR,CB];rw[hst];generalize hg:t.probe _ (AJ (A8 prog w) k) (it t.mask n (st t.mask (AJ (A8 prog w) k)))=r;obtain⟨H,hH,hg⟩:∃ H:Ai->Am,(∀ i,H i=(es[i]?.map (·.1)).getD 0)/\t.probe H (AJ (A8 prog w) k) (it t.mask n (st t.mask (AJ (A8 prog w) k)))=r:=⟨_,λi=>rfl,hg⟩
  have itn:∀ m,it t.mask m (it t.mask n (st t.mask (AJ (A8 prog w) k)))=it t.mask (n+m) (st t.mask (AJ (A8 prog w) k)):=λm=>(f9 _ _ _ _).symm;have gm:Meets t H (AJ (A8 prog w) k) (it t.mask n (st t.mask (AJ (A8 prog w) k))) (10*turns t.mask) r:=by
   rw[<- hg];refine kE T.tb H _ _ _ (by rw[bG];rfl) ⟨N-n,by lia,?_⟩
   rw[itn,show n+(N-n)=N by lia]
   exact hNe
  have miss:∀ j:Ai,(∀ m i:Ai,m<j->t.place[i]? = Ab (it t.mask m (it t.mask n (st t.mask (AJ (A8 prog w) k)))).j->H i≠AJ (A8 prog w) k) ->
    ∀ (m i:Ai) (e:Am × Ac),m<n+j->t.place[i]? = Ab (it t.mask m (st t.mask (AJ (A8 prog w) k))).j->es[i]? = Ab e->¬ isT prog w h0 k e.2:=λj qj m i e hm ei ee hk=>by
   by_cases hmn:m<n
   .exact hq m i e hmn ei ee hk
   .refine qj (m-n) i (by lia) (by rw[itn,show n+(m-n)=m by lia];exact ei) ?_
    rw[hH,ee];obtain⟨k',e1,e2⟩:=Z.good e (AQ (by rw[A9];exact ee))
    rw[isT.inj hk e2];simpa using e1
  cases gm with
  |emp j hj w' e' q =>
   rw[itn] at e';have hjN:n+j=N:=by
    rcases Us (n+j) N with h|h|h
    .exact absurd (hNw _ h) e'
    .exact h
    .have:=w' (N-n) (by lia)
     rw[itn,show n+(N-n)=N by lia] at this
     exact absurd this hNe
   dsimp only;rw[itn,hjN];refine Ak (h2 λhk=>?_);obtain⟨e,he,hke⟩:=(Z.mem k).mp hk;obtain⟨i,hi,ei⟩:=Bv.mp he;have ei':es[i]? = Ab e:=by rw[<- A9,Au hi,ei]
   obtain⟨m,w1,w2⟩:=T.way i e ei';obtain⟨k',g1,g2⟩:=Z.good e he;have:=isT.inj hke g2;subst this;rw[g1] at w1 w2;have hmN:m<N:=by
    apply Ds;intro hc;by_cases hmN:m=N
    .subst hmN
     exact hNe (AQ (by rw[A9];exact w1))
    .exact hNe (w2 N (by lia))
   exact miss j q m i e (by lia) w1 ei' hke
  |cand j i hj w' e' hh q =>
   rw[itn] at e';have hi:i<es.size:=by
    rw[<- T.size];exact(Ch.mp e').1
   have ei:es[i]? = Ab es[i]:=Cq hi;have hjN:n+j<N:=by
    rcases Us (n+j) N with h|h|h
    .exact h
    .rw[h] at e'
     exact absurd (AQ (by rw[A9];exact e')) hNe
    .have:=w' (N-n) (by lia)
     rw[itn,show n+(N-n)=N by lia] at this
     exact absurd this hNe
   obtain⟨k',g1,g2⟩:=Z.good es[i] (by simp)
   dsimp only;have main:Ao (Ar prog w) A (do
     let Ab (_,y):=es[i]?|unsupported "internal:set-entry"
     let equal <- holding [y] (eqBool y x)
     let (es',_,t') <- Sr S
     if true&&equal then return .there none
     let Ab same:=t'.sameMemory t.moves t.mask|unsupported "set.changed-during-lookup:is-the-new-block-at-the-old-address"
     let still <- match (if same then t'.slot (it t.mask j (it t.mask n (st t.mask (AJ (A8 prog w) k)))).j else .empty) with
      |.live i'=>match es'[i']? with
       |some (_,y')=>do pure (if <- isSame y' y then Ab i' else none)
       |none=>pure none
      |_=>pure none
     match still with
     |none=>rule "set.search.anew";Ol S x (AJ (A8 prog w) k) true fuel none
     |some i'=>if equal then return .there (Ab i') else Ol S x (AJ (A8 prog w) k) true fuel (Ab (it t.mask (j+1) (it t.mask n (st t.mask (AJ (A8 prog w) k)))))) Q E s:=by
    rw[ei];dsimp only;refine Ad (Cu (eqT hu hS g2 hx ?_));refine Ad (Dy ho hd T.fits ?_);by_cases hkk:k'=k
    .subst hkk
     simp only[Hr,Sa,Ct];exact Ak (h1 ((Z.mem k').mpr ⟨es[i],by simp,g2⟩))
    .simp only[hkk,Hs,Mm,AR,CB]
     have hm:t.sameMemory t.moves t.mask=Ab true:=by simp[SetTable.sameMemory]
     rw[hm];dsimp only;rw[itn,nH T.tb e'];simp only[Ct,ei];refine Ad (S7 g2 ?_);simp only[Ct];refine Ad (Ak ?_);dsimp only;refine V3 hu hS ho hd T Z hx N hNw hNe hNf h1 h2 fuel (n+j+1) _ ?_ (by lia) (by lia) λm i' e hm ei' ee hk=>?_
     .rw[Ko,itn]
      rfl
     .by_cases hmj:m<n+j
      .exact miss j q m i' e hmj ei' ee hk
      .have:m=n+j:=by lia
       subst this;have:=ZE T.tb.rs ei' e';subst this;rw[ei] at ee;cases ee;exact hkk (isT.inj g2 hk)
   refine aH (λ_=>?_) λ_=>?_
   .refine Ad (S8 hS hx (λy hy=>?_) ?_)
    .obtain⟨e,he,rfl⟩:=Bl.mp hy
     have:e∈es.toList:=by
      have:=(Lb.mp he);exact Lb.mpr (Array.mem_filter.mp this).1
     obtain⟨k2,_,g⟩:=Z.good e this;exact⟨k2,g⟩
    .simp only[AR,CB]
     exact main
   .exact main
end
end _S
namespace _S
open PySem
open PySem.SetTable (Probe leap runEnd turns bits)
@[reducible] def setO (es:Aw (Am × Ac))(ep:Ai)(t:CT):AX:={ cls:=.type "set",dict:=none,data:=.set es ep t }
theorem pK {h:AB}{S:Af}{es es':Aw (Am × Ac)}{ep:Ai}{t t':CT}(ho:h.get? S=Ab (setO es ep t)):(h.update S (Wt es' t')).get? S=Ab (setO es' (ep+1) t'):=Dw _ ho rfl
structure SetK {K:Type}(is:K->Ac->Prop)(hash:K->Am)(S:Af)(led:Ap)(V:Aa Ac)(seen:Aa K)(h:AB):Prop where
 ex:∃ es ep t,h.get? S=Ab (setO es ep t)/\Set0 is hash es seen/\TabT t es/\t.led=led/\∀ e∈es.toList,e.2∈V
section
variable {prog:A5}{w:AL}{h0:AB}{A:AK}{E:Ac->Ag->Prop}{s:Ag}{S:Af}{led:Ap}{V:Aa Ac}
theorem YB (a:Af)(wanted:Ai):setRelay a wanted=(do
  let (es,_,t) <- Sr a
  if CZ wanted>sizeLine then unsupported "set:memory"
  let (es,t) <- (do
   let Ab (t,qP):=t.relaid (es.map (·.1)) wanted|unsupported "internal:set-table-without-room"
   let es':=qP.filterMap (es[·]?)
   if es'.size != es.size then unsupported "internal:set-table-lost-an-element"
   pure (es',t))
  storeSet a es t):=rfl
theorem R6 {seen:Aa (Aa Am)}{k:Aa Am}{x:Ac}{Q:Ap->Ag->Prop}(hu:A.units<Ee)(hS:Sup h0 s.heap)(Z:SetK (isT prog w h0) (AJ (A8 prog w)) S led V seen s.heap)(hx:isT prog w h0 k x)(hV:x∈V){U:Aa (Aa Am)}(hU:U.length<=1000)(hU1:∀ k'∈seen,k'∈U)(hU2:k∈U)
  (h:∀ (b:Ap) (h':AB) (tk:Ai),s.toks<=tk->CI S s.heap h'->SetK (isT prog w h0) (AJ (A8 prog w)) S led V (k::seen) h'->Q b { s with heap:=h',toks:=tk }) : Ao (Ar prog w) A (Ss S x) Q E s:=by
 obtain⟨es,ep,t,ho,Z,T,hl,hm⟩:=Z;unfold Ss;refine Cu (Ad (LG hu hS hx ?_));unfold setAddHashed setAddHashedIn;refine Cu (Ad (Dy (s:={ s with toks:=s.toks+(k.length+1) }) ho rfl T.fits ?_))
 dsimp only;have hsc:byScan x es=false:=by
  obtain⟨a,rfl,_⟩:=hx;rfl
 rw[hsc];simp only[AR,CB];obtain⟨e,he,hne⟩:=T.gap;have first:∃ N,Way t (st t.mask (AJ (A8 prog w) k)) N/\(it t.mask N (st t.mask (AJ (A8 prog w) k))).j ∉ t.place.toList/\N<10*turns t.mask:=by
  obtain⟨N,hN,eN⟩:=dD T.msk (AJ (A8 prog w) k) he;have gm:=kE T.tb (λ_=>AJ (A8 prog w) k+1) (AJ (A8 prog w) k) (10*turns t.mask) (st t.mask (AJ (A8 prog w) k)) rfl ⟨N,hN,by rw[eN];exact hne⟩
  generalize Iw t _ _ _ _=r at gm;cases gm with
  |emp j hj w' e' q=>exact⟨j,w',e',hj⟩
  |cand j i hj w' e' hh q=>exact absurd hh (by lia)
 obtain⟨N,hNw,hNe,hNf⟩:=first
 have hNt:N<100000:=by
  have:turns t.mask<=2200:=by
   unfold turns;rcases T.msk with h|h|h|h|h <;> rw[h] <;> lia
  lia
 refine Ad (V3 (s:={ s with toks:=s.toks+(k.length+1) }) hu hS ho rfl T Z hx N hNw hNe hNf (λhk=>?_) (λhk=>?_) 100000 0 none rfl (by lia) (by lia) λm i e hm=>by lia)
 .exact Ak (h _ s.heap _ (by lia) (Oe _ _) ⟨es,ep,t,ho,Z.again hk,T,hl,hm⟩)
 .have hle:es.size<1000:=Ax (Z.few hU1 hU2 hk) hU
  dsimp only;refine Ad (Dy (s:={ s with toks:=s.toks+(k.length+1) }) ho rfl T.fits ?_)
  obtain⟨p1,p2,p3,p4⟩:=T.put (h:=AJ (A8 prog w) k) (x:=x) hNw hNe (VL _ _ _);generalize hj:(it t.mask N (st t.mask (AJ (A8 prog w) k))).j=j at *;have m1:(t.put j).1.mask=t.mask:=rfl;have m2:(t.put j).1.plain=true:=T.plain;have m3:(t.put j).1.led=led:=hl;generalize hp:t.put j=tp at *;obtain⟨t1,p⟩:=tp;dsimp only at p1 p2 p3 p4 m1 m2 m3 ⊢;rw[m2];simp only[Ct];refine Ad (R9 (s:={ s with toks:=s.toks+(k.length+1) }) hS hx ?_)
  simp only[Ct,Qx,Ez];have hsz:(AS es p (AJ (A8 prog w) k,x)).size=es.size+1:=vB _ _ _;have hline:es.size+1<=sizeLine:=by rw[Dj];lia
  refine Ad (Kc (s:={ s with toks:=s.toks+(k.length+1) }) ho rfl ?_ (by rw[hsz];exact hline))
  have Z1:Set0 (isT prog w h0) (AJ (A8 prog w)) (AS es p (AJ (A8 prog w) k,x)) (k::seen):=by
   refine Z.push (λa b=>isT.inj a b) hx hk ?_;have:=Gr es p (AJ (A8 prog w) k,x);rw[CL] at this;exact this
  have hm1:∀ e∈(AS es p (AJ (A8 prog w) k,x)).toList,e.2∈V:=λe he=>by
   have:=(Gr es p (AJ (A8 prog w) k,x)).mem_iff.mp he;rw[CL] at this;rcases Ba.mp this with h1|h1
   .exact hm e h1
   .simp at h1;subst h1;exact hV
  have ho1:=pK (es':=AS es p (AJ (A8 prog w) k,x)) (t':=t1) ho;have sb1:=Fg s.heap S (Wt (AS es p (AJ (A8 prog w) k,x)) t1);have hfit:t1.fits (AS es p (AJ (A8 prog w) k,x)).size=true:=by
   have h3:t1.fill=es.size+1:=by unfold IR;rw[p1.dm,p2,hsz];rfl
   have h2:=T.few;unfold Rz;rw[h3,p2,hsz,m1];rcases T.msk with h|h|h|h|h <;> rw[h] at h2 ⊢ <;> simp <;> lia
  refine aH (λhf=>?_) λhf=>?_
  .have hM1:Msk t1.mask:=by rw[m1];exact T.msk
   have h3:((AS es p (AJ (A8 prog w) k,x)).size-1)*5<t1.mask*3:=by rw[hsz,m1];exact T.few
   obtain⟨q1,t2,qP,q2,q3,q4,q5,_⟩:=pV hM1 m2 p2 (by rw[hsz];lia) (by simpa using hf) p1.dm h3 (by rw[hsz];lia)
   rw[hsz] at q1 q2;rw[YB];refine Ad ?_;refine Ad (Dy (s:={ s with heap:=_,toks:=s.toks+(k.length+1) }) ho1 rfl hfit ?_)
   dsimp only;rw[AC (by rw[Dj];lia)]
   refine Ad ?_;rw[q2];dsimp only;have hs2:(qP.filterMap λx_1=>(AS es p (AJ (A8 prog w) k,x))[x_1]?).size=es.size+1:=by rw[<- A6,q4.length_eq,A6,hsz]
   rw[AC (by rw[hs2,hsz];simp)]
   refine Ak ?_;refine Kc (s:={ s with heap:=_,toks:=s.toks+(k.length+1) }) ho1 rfl ?_ (by rw[hs2];exact hline)
   refine Ak (h _ _ _ (Ft _ _) (sb1.trans (Fg _ S _)) ⟨_,_,t2,pK ho1,Z1.perm q4,q5,by rw[q3];exact m3,λe he=>hm1 e (q4.mem_iff.mp he)⟩)
  .refine Ak (h _ _ _ (Ft _ _) sb1 ⟨_,_,t1,ho1,Z1,⟨p1,by rw[m1];exact T.msk,p2,by rw[m1];exact p3,?_,by rw[m1];exact p4,m2⟩,m3,hm1⟩)
   have h3:t1.fill=es.size+1:=by unfold IR;rw[p1.dm,p2,hsz];rfl
   unfold OD at hf;rw[h3] at hf;rw[hsz];simpa using hf
end
end _S
namespace _S
open PySem
open PySem.SetTable (Probe leap runEnd turns bits)
variable {seen:Aa Am}
def isI (prog:A5)(w:AL)(k:Am)(v:Ac):Prop:=(A8 prog w).is k v=true
section
variable {prog:A5}{w:AL}{A:AK}{E:Ac->Ag->Prop}{s:Ag}{S:Af}{led:Ap}{V:Aa Ac}
set_option tactic.hygienic true in
theorem wX {k:Am}{v:Ac}(h:isI prog w k v):∃ t,v=.int k t:=by
 cases v <;> first|(exact absurd h (by rintro⟨⟩)) | skip
 rename_i i t;refine⟨t,?_⟩;have:i=k:=(A8 prog w).inj (.int i t) i k (Sb _ _ _ _) h;rw[this]
theorem lW {es:Aw (Am × Ac)}(Z:Set0 (isI prog w) (A8 prog w).hash es seen):ElemsOf (A8 prog w) es.toList:=λe he=>by
 obtain⟨k,h1,h2⟩:=Z.good e he;refine⟨⟨k,h2,h1⟩,?_⟩;obtain⟨t,q⟩:=wX h2;rw[q];rfl
theorem R5 {k:Am}{x:Ac}{Q:Ap->Ag->Prop}(Z:SetK (isI prog w) (A8 prog w).hash S led V seen s.heap)(hx:isI prog w k x)(hV:x∈V){U:Aa Am}(hU:U.length<=1000)(hU1:∀ k'∈seen,k'∈U)(hU2:k∈U)
  (h:∀ (b:Ap) (h':AB) (tk:Ai),s.toks<=tk->CI S s.heap h'->SetK (isI prog w) (A8 prog w).hash S led V (k::seen) h'->Q b { s with heap:=h',toks:=tk }) : Ao (Ar prog w) A (Ss S x) Q E s:=by
 obtain⟨es,ep,t,ho,Z,T,hl,hm⟩:=Z;have hsc:x.scannable=true:=by
  obtain⟨tk,q⟩:=wX hx;rw[q];rfl
 have hf:=T.fits;have hb:es.size<Xu:=by
  have h1:=T.few;have:Xu=4096:=rfl;rcases T.msk with h|h|h|h|h <;> rw[h] at h1 <;> lia
 unfold Ss;refine Cu (Ad ((A8 prog w).pyHash (k:=k) hx ?_));unfold setAddHashed setAddHashedIn;refine Cu (Ad (Dy (s:={ s with toks:=s.toks+1 }) ho rfl hf ?_))
 dsimp only;rw[byScan_of hsc hb (lW Z)];simp only[Ct];unfold setAddByScan;refine Ad (Ad (Ex (Ad (wpAny_setScan_of (s:={ s with toks:=s.toks+1 }) hx ho rfl hf (lW Z) ?_))))
 cases hr:es.toList.findIdx? (λe=>(A8 prog w).is k e.2) with
 |some j =>
  dsimp only;obtain⟨hj,hpj,_⟩:=List.findIdx?_eq_some_iff_getElem.mp hr;have hk:k∈seen:=(Z.mem k).mpr ⟨es.toList[j],Ks hj,hpj⟩;exact Ak (Ak (h _ s.heap _ (Ft _ _) (Oe _ _) ⟨es,ep,t,ho,Z.again hk,T,hl,hm⟩))
 |none =>
  dsimp only;have hk:k ∉ seen:=λhk=>by
   obtain⟨e,he,q⟩:=(Z.mem k).mp hk;have:=List.findIdx?_eq_none_iff.mp hr e he;rw[show (A8 prog w).is k e.2=true from q] at this
   cases this
  have hle:es.size<1000:=Ax (Z.few hU1 hU2 hk) hU;obtain⟨e,he,hne⟩:=T.gap;have first:∃ N,Way t (st t.mask ((A8 prog w).hash k)) N/\(it t.mask N (st t.mask ((A8 prog w).hash k))).j ∉ t.place.toList/\t.freeSlot ((A8 prog w).hash k)=Ab ((it t.mask N (st t.mask ((A8 prog w).hash k))).j,false):=by
   obtain⟨N,hN,eN⟩:=dD T.msk ((A8 prog w).hash k) he;have gm:=kE T.tb (λ_=>(A8 prog w).hash k+1) ((A8 prog w).hash k) (10*turns t.mask) (st t.mask ((A8 prog w).hash k)) rfl ⟨N,hN,by rw[eN];exact hne⟩
   unfold SetTable.freeSlot SetTable.probe;rw[SB];generalize Iw t _ _ _ _=r at gm;cases gm with
   |emp j hj w' e' q=>exact⟨j,w',e',rfl⟩
   |cand j i hj w' e' hh q=>exact absurd hh (by lia)
  obtain⟨N,hNw,hNe,hfs⟩:=first
  obtain⟨p1,p2,p3,p4⟩:=T.put (h:=(A8 prog w).hash k) (x:=x) hNw hNe (VL _ _ _);generalize hj:(it t.mask N (st t.mask ((A8 prog w).hash k))).j=j at *;have m1:(t.put j).1.mask=t.mask:=rfl;have m2:(t.put j).1.plain=true:=T.plain;have m3:(t.put j).1.led=led:=hl;generalize hp:t.put j=tp at *;obtain⟨t1,p⟩:=tp;dsimp only at p1 p2 p3 p4 m1 m2 m3 ⊢;have hsz:(AS es p ((A8 prog w).hash k,x)).size=es.size+1:=vB _ _ _;have hfit:t1.fits (AS es p ((A8 prog w).hash k,x)).size=true:=by
   have h3:t1.fill=es.size+1:=by unfold IR;rw[p1.dm,p2,hsz];rfl
   have h2:=T.few;unfold Rz;rw[h3,p2,hsz,m1];rcases T.msk with h|h|h|h|h <;> rw[h] at h2 ⊢ <;> simp <;> lia
  have lay:layNew t es ((A8 prog w).hash k) x=(AS es p ((A8 prog w).hash k,x),t1,false,false):=by
   unfold layNew;rw[hfs];dsimp only;rw[hp];dsimp only;unfold SetTable.orStandIn;rw[hfit];rfl
  rw[lay];dsimp only;refine Ad (Ak (a:=()) ?_);have hbv:Nm 8 x=pure true:=by
   rw[hashByValue_scannable 8 hsc];obtain⟨tk,q⟩:=wX hx;subst q;rfl
  rw[hbv,ite_self];refine Ad (Ak ?_);simp only[Ct];have hline:es.size+1<=sizeLine:=by rw[Dj];lia
  refine Ad (Kc (s:={ s with toks:=s.toks+1 }) ho rfl ?_ (by rw[hsz];exact hline))
  have pm:(AS es p ((A8 prog w).hash k,x)).toList.Perm (es.toList++[((A8 prog w).hash k,x)]):=by
   have:=Gr es p ((A8 prog w).hash k,x);rw[CL] at this;exact this
  have Z1:Set0 (isI prog w) (A8 prog w).hash (AS es p ((A8 prog w).hash k,x)) (k::seen):=Z.push (λa b=>(A8 prog w).inj _ _ _ a b) hx hk pm;have hm1:∀ e∈(AS es p ((A8 prog w).hash k,x)).toList,e.2∈V:=λe he=>by
   rcases Ba.mp (pm.mem_iff.mp he) with h1|h1
   .exact hm e h1
   .simp at h1;subst h1;exact hV
  have ho1:=pK (es':=AS es p ((A8 prog w).hash k,x)) (t':=t1) ho;have sb1:=Fg s.heap S (Wt (AS es p ((A8 prog w).hash k,x)) t1);refine aH (λhf=>?_) λhf=>?_
  .have hM1:Msk t1.mask:=by rw[m1];exact T.msk
   have h3:((AS es p ((A8 prog w).hash k,x)).size-1)*5<t1.mask*3:=by rw[hsz,m1];exact T.few
   obtain⟨q1,t2,qP,q2,q3,q4,q5,q6⟩:=pV hM1 m2 p2 (by rw[hsz];lia) (by simpa using hf) p1.dm h3 (by rw[hsz];lia)
   have hs2:(qP.filterMap λx_1=>(AS es p ((A8 prog w).hash k,x))[x_1]?).size=es.size+1:=by rw[<- A6,q4.length_eq,A6,hsz]
   have rl:relayAll t1 (AS es p ((A8 prog w).hash k,x)) (Fb (AS es p ((A8 prog w).hash k,x)).size)=(qP.filterMap λx_1=>(AS es p ((A8 prog w).hash k,x))[x_1]?,t2,false):=by
    unfold relayAll;rw[q2];dsimp only;have c1:coversAll qP (AS es p ((A8 prog w).hash k,x)).size=true:=by
     unfold coversAll;exact List.isPerm_iff.mpr q6
    rw[c1,q5.fits];rfl
   rw[rl];dsimp only;refine Ad (Ak (a:=()) ?_);refine Ad (Kc (s:={ s with heap:=_,toks:=s.toks+1 }) ho1 rfl ?_ (by rw[hs2];exact hline))
   exact Ak (Ak (h _ _ _ (Ft _ _) (sb1.trans (Fg _ S _)) ⟨_,_,t2,pK ho1,Z1.perm q4,q5,by rw[q3];exact m3,λe he=>hm1 e (q4.mem_iff.mp he)⟩))
  .refine Ak (Ak (h _ _ _ (Ft _ _) sb1 ⟨_,_,t1,ho1,Z1,⟨p1,by rw[m1];exact T.msk,p2,by rw[m1];exact p3,?_,by rw[m1];exact p4,m2⟩,m3,hm1⟩))
   have h3:t1.fill=es.size+1:=by unfold IR;rw[p1.dm,p2,hsz];rfl
   unfold OD at hf;rw[h3] at hf;rw[hsz];simpa using hf
end
end _S
namespace _S
open PySem
variable {Q:Ac->Ag->Prop}{i:Ai}
structure AddS (prog:A5)(w:AL){K:Type}(is:K->Ac->Prop)(hash:K->Am)(h0:AB):Prop where
 add:∀ {A:AK} {E:Ac->Ag->Prop} {s:Ag} {S:Af} {led:Ap} {V:Aa Ac} {seen U:Aa K} {k:K} {x:Ac} {Q:Ap->Ag->Prop},A.units<Ee->Sup h0 s.heap->SetK is hash S led V seen s.heap->is k x->x∈V->U.length<=1000->(∀ k'∈seen,k'∈U)->k∈U ->
  (∀ (b:Ap) (h':AB) (tk:Ai),s.toks<=tk->CI S s.heap h'->SetK is hash S led V (k::seen) h'->Q b { s with heap:=h',toks:=tk }) -> Ao (Ar prog w) A (Ss S x) Q E s
theorem PF {prog:A5}{w:AL}(h0:AB):AddS prog w (isT prog w h0) (AJ (A8 prog w)) h0:=⟨λhu hS Z hx hV h1 h2 h3 h=>R6 hu hS Z hx hV h1 h2 h3 h⟩
theorem iJ {prog:A5}{w:AL}(h0:AB):AddS prog w (isI prog w) (A8 prog w).hash h0:=⟨λ_ _ Z hx hV h1 h2 h3 h=>R5 Z hx hV h1 h2 h3 h⟩
noncomputable def wW {K:Type}(key:Ai->K):Ai->Aa K
 |0=>[]
 |i+1=>key i::wW key i
theorem uP {K:Type}{key:Ai->K}{k:K}:∀ {n:Ai},k∈wW key n↔∃ i,i<n/\key i=k
 |0=>by simp[wW]
 |n+1=>by
  rw[wW,Av,uP];constructor
  .rintro (rfl|⟨i,h,e⟩)
   .exact⟨n,by omega,rfl⟩
   .exact⟨i,by omega,e⟩
  .rintro⟨i,h,e⟩
   by_cases hi:i=n
   .subst hi;exact .inl e.symm
   .exact .inr ⟨i,by omega,e⟩
section
variable {prog:A5}{w:AL}{A:AK}{R:So->Ag->Prop}{I:Af}{fp wr:Aa Af}{G:Aw Vu->Aw Vu->Prop}{n:Ai}{P:Ai->Ac->Prop}{St:Ai->Ag->Prop}
variable {K:Type}{is:K->Ac->Prop}{hash:K->Am}{h0:AB}{led:Ap}{V:Aa Ac}{U:Aa K}
theorem SetK.sup {S:Af}{seen:Aa K}{h h':AB}(Z:SetK is hash S led V seen h)(e:∀ o,h.get? S=Ab o->h'.get? S=Ab o):SetK is hash S led V seen h':=by
 obtain⟨es,ep,t,ho,r⟩:=Z;exact⟨es,ep,t,e _ ho,r⟩
theorem hJ (a:AddS prog w is hash h0)(W:WalksS prog w A.in1 I fp wr G n P St)(S:Af)(hSf:S ∉ fp)(hu:A.in1.units<Ee)(key:Ai->K)(hkey:∀ i v,P i v->is (key i) v/\v∈V)(hU:U.length<=1000)(hUk:∀ i,i<n->key i∈U)
  (hS0:h0.get? S=none) (hw0:∀ b∈wr,h0.get? b=none):∀ (k i:Ai) (s:Ag),n-i=k->i<=n->St i s->Sup h0 s.heap->SetK is hash S led V (wW key i) s.heap ->
   (∀ s',Moved (S::wr) G s s'->SetK is hash S led V (wW key n) s'.heap->R (.ok (.ret .none)) s')->Fn (Ar prog w) A (.builtin "set.update.loop" ⟨[.ref S,.ref I],[]⟩) R s:=by
 have hSw:S ∉ wr:=λh=>hSf (W.sub _ h);have hsub:∀ b∈wr,b∈S::wr:=λb hb=>Bb _ hb;intro k
 induction k with
 |zero =>
  intro i s hk hi hst hS Z hR;have hin:i=n:=by omega
  subst hin;refine Eo IZ ?_;rw[Ey Gt _];show Ao _ A.in1 (Jt (.ref I) >>= _) _ _ s;refine Ad (W.done s _ _ hst λs' hm=>?_);exact Ak (hR s' (hm.mono hsub) (Z.sup λo e=>hm.heap S _ hSw e))
 |succ k ih =>
  intro i s hk hi hst hS Z hR;have hlt:i<n:=by omega
  refine Eo IZ ?_;rw[Ey Gt _];show Ao _ A.in1 (Jt (.ref I) >>= _) _ _ s;refine Ad (W.item i s _ _ hlt hst λv s' hP hst' hm=>?_);obtain⟨q1,q2⟩:=hkey i v hP;have hS':Sup h0 s'.heap:=λb o e=>hm.heap b o (λhb=>by rw[hw0 b hb] at e;cases e) (hS b o e)
  show Ao _ A.in1 (holding [v] (Ss S v) >>= _) _ _ s';refine Ad (Cu (a.add hu hS' (Z.sup λo e=>hm.heap S _ hSw e) q1 q2 hU (λk' hk'=>?_) (hUk i hlt) λb h' tk htk hsb Z'=>?_))
  .obtain⟨j,hj,e⟩:=uP.mp hk'
   exact e▸hUk j (by omega)
  .refine Ak ⟨Kv Gt _,ih (i+1) _ (by omega) hlt (W.frame _ s' _ _ hst' htk λb hb o e=>?_) (λb o e=>?_) Z' λs'' hm'' Z''=>?_⟩
   .rw[hsb.2 b (λh:b=S=>hSf (by rw[<- h];exact hb))];exact e
   .rw[hsb.2 b (λh:b=S=>by rw[h,hS0] at e;cases e)];exact hS' b o e
   .refine hR s'' (Moved.trans W.gtrans ((hm.mono hsub).then_heap htk λb o hb e=>?_) hm'') Z''
    rw[hsb.2 b (λh:b=S=>hb (by rw[h];exact Bx))];exact e
end
section
variable {prog:A5}{w:AL}{A:AK}{E:Ac->Ag->Prop}{s:Ag}
noncomputable def xC (w:AL):Ap:=!w.params.followText "set-order"
@[reducible] def set0 (w:AL):AX:=setO #[] 0 (.fresh 0 0 (xC w))
theorem pU (a:Ac){Q₁:Ac->Ag->Prop}(h:Q₁ (.ref s.heap.objs.size) { s with heap:=s.heap.push (set0 w) }) : Fn (Ar prog w) A (.call (.builtin "set.__new__") ⟨[.type "set",a],[]⟩) (wants Q₁ E) s:=by
 refine Lr ?_;show Ao _ A.in1 (do O9 "set.__new__" ⟨[.type "set",a],[]⟩;again (.builtin "set.__new__" ⟨[.type "set",a],[]⟩)) _ _ s
 refine Ad (Nj (PySem.F.newCall_set_1 a) (Ak ⟨Kv Qf _,Eo PySem.F.entry_set_new ?_⟩));rw[Ey Qf _];unfold Fq.«set.__new__» Xf;have hsub:=PySem.sub_set_self;obtain⟨hp,g,d,tk,os⟩:=s;dsimp only
 wp_walk
 refine Gq (Ak ?_);dsimp only;simp only[newObj];exact Ad (Vk (Ak (Ak h)))
theorem gW (w:AL):TabT (.fresh 0 0 (xC w)) #[]:=⟨⟨by unfold Rs;exact Jy,rfl⟩,.inl rfl,rfl,λx hx=>(by cases hx),(show 0*5<7*3 by decide),λi e h=>(by simp at h),rfl⟩
variable {K:Type}{is:K->Ac->Prop}{hash:K->Am}{U:Aa K}
theorem X0 (a:AddS prog w is hash s.heap){l:Af}{items:Aw Ac}{Q:Ac->Ag->Prop}(hh:A.handled=none)(hu:A.units+8<Ee)(hl:s.heap.IsList l items)(key:Ai->K)(hkey:∀ i v,items[i]? = Ab v->is (key i) v)(hU:U.length<=1000)(hUk:∀ i,i<items.size->key i∈U)
  (h:∀ (h':AB) (tk:Ai),SetK is hash s.heap.objs.size (xC w) items.toList (wW key items.size) h'->(∀ b o,s.heap.get? b=Ab o->h'.get? b=Ab o)->Q (.ref s.heap.objs.size) { s with heap:=h',toks:=tk }) :
  Ao (Ar prog w) A (call (.type "set") [.ref l]) Q E s:=by
 obtain⟨c,tl,hmro⟩:=Bz.mro;have hmade:=Bz.made;have hsub:=Bz.sub;refine Mc (Lr ?_);show Ao _ _ (callAny (.type "set") _) _ _ _;refine Ak ⟨Na _ (by decide +kernel),Eo OM ?_⟩
 rw[Ti (Qg "set" [.ref l] []) rfl];have h1:=Bz.notType;have h2:=Bz.canCreate;have hct:=Pg (.ref l)
 repeat (any_goals (first|assumption|wp_step))
 refine Hb (pU (.ref l) (E:=E) (Q₁:=λobj s₁=>obj=.ref s.heap.objs.size/\s₁={ s with heap:=s.heap.push (set0 w) }) ⟨rfl,rfl⟩) λr s₁ hr=>?_
 cases r with
 |error e=>exact hr
 |ok fl =>
  cases fl with
  |ret obj =>
   obtain⟨rfl,rfl⟩:=hr;have hS:(s.heap.push (set0 w)).get? s.heap.objs.size=Ab (set0 w):=A7 _ rfl;have hT:Om { s with heap:=s.heap.push (set0 w) } (.ref s.heap.objs.size) "set":=⟨_,hS,rfl⟩
   have hli:=Bz.init.lookup;have hbi:=Bz.init.bind (.ref s.heap.objs.size)
   repeat (any_goals (first|assumption|wp_step))
   refine Hb (IH (R:=wants (λr s₂=>r=.none/\∃ h' tk,s₂={ s with heap:=h',toks:=tk } /\ SetK is hash s.heap.objs.size (xC w) items.toList (wW key items.size) h'/\∀ b o,s.heap.get? b=Ab o->h'.get? b=Ab o) E) Bz.init.plain Ph (Vm hT ?_)) λr₂ s₂ hr₂=>?_
   .obtain⟨ol,hol,hcl,nl,hdl⟩:=hl
    obtain⟨ocls,odict,odata,oslots⟩:=ol;simp only at hcl hdl;subst hcl;subst hdl;have hol':(s.heap.push (set0 w)).get? l=Ab { cls:=.type "list",dict:=odict,data:=.seq items nl,slots:=oslots }:=Ah _ hol;have hsls:=PySem.F.sub_list_set;have hslf:=PySem.F.sub_list_frozenset;have hne:(Ev "list" == Ev "dict")=false:=by decide
    have hl1:(s.heap.push (set0 w)).IsList l items:=⟨_,hol',rfl,nl,rfl⟩;unfold Fq.«set.__init__» noKeywords Mf;generalize hPI:Kk=PI
    wp_walk
    subst hPI;refine Ei hl1 ?_;refine Ad (Mt ?_);have hlS:l<s.heap.objs.size:=Az hol;have hneI:l≠(s.heap.push (set0 w)).objs.size:=by
     rw[Ci];exact AZ (On hlS)
    have nS:s.heap.get? s.heap.objs.size=none:=Hk (Aq _);have nI:s.heap.get? (s.heap.push (set0 w)).objs.size=none:=Hk (by rw[Ci];exact Nk _)
    refine hJ (led:=xC w) (V:=items.toList) a ((Yv (A:=A.in1.in1.in1) (by simp[hh]) _ l hneI items).toS) s.heap.objs.size ?_ (by show A.units+3<Ee;omega) key (λi v hv=>⟨hkey i v hv,?_⟩) hU hUk nS (λb hb=>?_) (items.size-0) 0 _ (by omega) (Dp _)
     ⟨⟨_,A7 _ rfl,rfl,rfl⟩,hl1.push _⟩ (λb o e=>Ah _ (Ah _ e)) ?_ λs' hm hS'=>?_
    .rw[Ci];simp only[Av,Bq,Bj,Du,Qb]
     exact⟨AZ (Hq _),El hlS⟩
    .exact AQ (by rw[A9];exact hv)
    .rw[Bq.mp hb];exact nI
    .exact⟨#[],0,_,Ah _ hS,Set0.nil,gW w,rfl,λe he=>by simp at he⟩
    .obtain⟨h',g',d',tk',os'⟩:=s'
     have eg:g'=s.gens:=hm.gens;have ed:d'=s.drawn:=hm.drawn;have eo:os'=s.os:=hm.os;subst eg;subst ed;subst eo;refine Ak (Ak ⟨rfl,h',tk',rfl,hS',λb o e=>?_⟩);refine hm.heap b o (λhb=>?_) (Ah _ (Ah _ e));rcases Av.mp hb with rfl|hb
     .rw[nS] at e;cases e
     .rw[Bq.mp hb,nI] at e;cases e
   .cases r₂ with
    |error e=>exact hr₂
    |ok fl₂ =>
     cases fl₂ with
     |ret r =>
      obtain⟨rfl,h',tk,rfl,hS',hk'⟩:=hr₂
      repeat (any_goals (first|assumption|wp_step))
      exact h _ _ hS' hk'
     |_=>exact hr₂.elim
  |_=>exact hr.elim
theorem iS (a:AddS prog w is hash s.heap){l:Af}{items:Aw Ac}{Q:Ac->Ag->Prop}(hh:A.handled=none)(hu:A.units+8<Ee)(hl:s.heap.IsTuple l items)(key:Ai->K)(hkey:∀ i v,items[i]? = Ab v->is (key i) v)(hU:U.length<=1000)(hUk:∀ i,i<items.size->key i∈U)
  (h:∀ (h':AB) (tk:Ai),SetK is hash s.heap.objs.size (xC w) items.toList (wW key items.size) h'->(∀ b o,s.heap.get? b=Ab o->h'.get? b=Ab o)->Q (.ref s.heap.objs.size) { s with heap:=h',toks:=tk }) :
  Ao (Ar prog w) A (call (.type "set") [.ref l]) Q E s:=by
 obtain⟨c,tl,hmro⟩:=Bz.mro;have hmade:=Bz.made;have hsub:=Bz.sub;refine Mc (Lr ?_);show Ao _ _ (callAny (.type "set") _) _ _ _;refine Ak ⟨Na _ (by decide +kernel),Eo OM ?_⟩
 rw[Ti (Qg "set" [.ref l] []) rfl];have h1:=Bz.notType;have h2:=Bz.canCreate;have hct:=Pg (.ref l)
 repeat (any_goals (first|assumption|wp_step))
 refine Hb (pU (.ref l) (E:=E) (Q₁:=λobj s₁=>obj=.ref s.heap.objs.size/\s₁={ s with heap:=s.heap.push (set0 w) }) ⟨rfl,rfl⟩) λr s₁ hr=>?_
 cases r with
 |error e=>exact hr
 |ok fl =>
  cases fl with
  |ret obj =>
   obtain⟨rfl,rfl⟩:=hr;have hS:(s.heap.push (set0 w)).get? s.heap.objs.size=Ab (set0 w):=A7 _ rfl;have hT:Om { s with heap:=s.heap.push (set0 w) } (.ref s.heap.objs.size) "set":=⟨_,hS,rfl⟩
   have hli:=Bz.init.lookup;have hbi:=Bz.init.bind (.ref s.heap.objs.size)
   repeat (any_goals (first|assumption|wp_step))
   refine Hb (IH (R:=wants (λr s₂=>r=.none/\∃ h' tk,s₂={ s with heap:=h',toks:=tk } /\ SetK is hash s.heap.objs.size (xC w) items.toList (wW key items.size) h'/\∀ b o,s.heap.get? b=Ab o->h'.get? b=Ab o) E) Bz.init.plain Ph (Vm hT ?_)) λr₂ s₂ hr₂=>?_
   .obtain⟨ol,hol,hcl,nl,hdl⟩:=hl
    obtain⟨ocls,odict,odata,oslots⟩:=ol;simp only at hcl hdl;subst hcl;subst hdl;have hol':(s.heap.push (set0 w)).get? l=Ab { cls:=.type "tuple",dict:=odict,data:=.seq items nl,slots:=oslots }:=Ah _ hol;have hsls:=PySem.F.sub_tuple_set;have hslf:=PySem.F.sub_tuple_frozenset;have hne:(Ev "tuple" == Ev "dict")=false:=by decide
    have hl1:(s.heap.push (set0 w)).IsTuple l items:=⟨_,hol',rfl,nl,rfl⟩;unfold Fq.«set.__init__» noKeywords Mf;generalize hPI:Kk=PI
    wp_walk
    subst hPI;refine Eu hl1 ?_;refine Ad (Mt ?_);have hlS:l<s.heap.objs.size:=Az hol;have hneI:l≠(s.heap.push (set0 w)).objs.size:=by
     rw[Ci];exact AZ (On hlS)
    have nS:s.heap.get? s.heap.objs.size=none:=Hk (Aq _);have nI:s.heap.get? (s.heap.push (set0 w)).objs.size=none:=Hk (by rw[Ci];exact Nk _)
    refine hJ (led:=xC w) (V:=items.toList) a ((Yp (A:=A.in1.in1.in1) (by simp[hh]) _ l hneI items).toS) s.heap.objs.size ?_ (by show A.units+3<Ee;omega) key (λi v hv=>⟨hkey i v hv,?_⟩) hU hUk nS (λb hb=>?_) (items.size-0) 0 _ (by omega) (Dp _)
     ⟨⟨_,A7 _ rfl,rfl,rfl⟩,hl1.push _⟩ (λb o e=>Ah _ (Ah _ e)) ?_ λs' hm hS'=>?_
    .rw[Ci];simp only[Av,Bq,Bj,Du,Qb]
     exact⟨AZ (Hq _),El hlS⟩
    .exact AQ (by rw[A9];exact hv)
    .rw[Bq.mp hb];exact nI
    .exact⟨#[],0,_,Ah _ hS,Set0.nil,gW w,rfl,λe he=>by simp at he⟩
    .obtain⟨h',g',d',tk',os'⟩:=s'
     have eg:g'=s.gens:=hm.gens;have ed:d'=s.drawn:=hm.drawn;have eo:os'=s.os:=hm.os;subst eg;subst ed;subst eo;refine Ak (Ak ⟨rfl,h',tk',rfl,hS',λb o e=>?_⟩);refine hm.heap b o (λhb=>?_) (Ah _ (Ah _ e));rcases Av.mp hb with rfl|hb
     .rw[nS] at e;cases e
     .rw[Bq.mp hb,nI] at e;cases e
   .cases r₂ with
    |error e=>exact hr₂
    |ok fl₂ =>
     cases fl₂ with
     |ret r =>
      obtain⟨rfl,h',tk,rfl,hS',hk'⟩:=hr₂
      repeat (any_goals (first|assumption|wp_step))
      exact h _ _ hS' hk'
     |_=>exact hr₂.elim
  |_=>exact hr.elim
theorem cQ (a:AddS prog w is hash s.heap){l:Af}{items:Aw Ac}{Q:Ac->Ag->Prop}(hh:A.handled=none)(hu:A.units+8<Ee)(hl:s.heap.IsList l items\/s.heap.IsTuple l items)(key:Ai->K)(hkey:∀ i v,items[i]? = Ab v->is (key i) v)(hU:U.length<=1000)(hUk:∀ i,i<items.size->key i∈U)
  (h:∀ (h':AB) (tk:Ai),SetK is hash s.heap.objs.size (xC w) items.toList (wW key items.size) h'->(∀ b o,s.heap.get? b=Ab o->h'.get? b=Ab o)->Q (.ref s.heap.objs.size) { s with heap:=h',toks:=tk }) :
  Ao (Ar prog w) A (call (.type "set") [.ref l]) Q E s:=by
 rcases hl with hl|hl
 .exact X0 a hh hu hl key hkey hU hUk h
 .exact iS a hh hu hl key hkey hU hUk h
end
theorem bU {α:Type}:∀ {l:Aa α} {i:Ai} (h:i<l.length),(l[i]::l.eraseIdx i).Perm l
 |a::l,0,h=>by simp
 |a::l,i+1,h=>by
  rw[List.eraseIdx_cons_succ,List.getElem_cons_succ];exact(List.Perm.swap _ _ _).trans ((bU (l:=l) (i:=i) (by simpa using h)).cons a)
theorem nE {α:Type}(next:Ai->Ai):∀ (fuel k:Ai) (left:Aa α) (out:Aw α),left.length=fuel->(Tx next fuel k left out).toList.Perm (out.toList++left)
 |0,k,left,out,h=>by
  have:left=[]:=Ig h;subst this;unfold Tx;simp
 |fuel+1,k,left,out,h=>by
  unfold Tx;have hlt:next k % left.length<left.length:=Me _ (by omega)
  rw[Au hlt];dsimp only;refine(nE next fuel (k+1) _ _ (by rw[List.length_eraseIdx,AF hlt];omega)).trans ?_
  rw[CL,Bc];refine Ha _ ?_;exact bU hlt
theorem mW {α:Type}(next:Ai->Ai)(xs:Aw α) : (Ls next xs).toList.Perm xs.toList:=by
 have:=nE next xs.size 0 xs.toList #[] (by simp)
 simpa [Ls] using this
theorem yH:Slot "set_iterator" "__next__" "set_iterator.__next__":=
 .of (owner:="set_iterator") (n:="__next__") (by rw[We,Qh];kernel_rfl) (by decide +kernel) (by decide +kernel) (by decide +kernel) (.inl (by decide +kernel)) (by rw[Qy];kernel_rfl)
theorem bT:entryFor table "set_iterator.__next__" = Ab Fq.«set_iterator.__next__»:=entryFor_of_fast (by kernel_rfl)
theorem tL (a:Ac):argsOk "set_iterator.__next__" ⟨[a],[]⟩:=by unfold argsOk;kernel_rfl
theorem nJ:Slot "set_iterator" "__iter__" "set_iterator.__iter__":=
 .of (owner:="set_iterator") (n:="__iter__") (by rw[We,Qh];kernel_rfl) (by decide +kernel) (by decide +kernel) (by decide +kernel) (.inl (by decide +kernel)) (by rw[Qy];kernel_rfl)
theorem cZ:entryFor table "set_iterator.__iter__" = Ab Fq.«dict_keyiterator.__iter__»:=entryFor_alias (id':="dict_keyiterator.__iter__") (by kernel_rfl) rfl (by decide +kernel) (by kernel_rfl)
theorem iM (a:Ac):argsOk "set_iterator.__iter__" ⟨[a],[]⟩:=by unfold argsOk;kernel_rfl
theorem cY:entryFor table "set.__iter__" = Ab Fq.«frozenset.__iter__»:=entryFor_alias (id':="frozenset.__iter__") (by kernel_rfl) rfl (by decide +kernel) (by kernel_rfl)
theorem JS (a:Af)(slot given epochThen:Ai):setNext a slot given epochThen=(do
  let (es,epoch,t) <- Sr a
  if <- Sc then
   if epoch != epochThen then unsupported "set_iterator.__next__:elements-changed"
   return ((<- setWalk a)[given]?).map λe=>(e.2,slot)
  if !t.plain&&es.size>1 then unsupported "set_iterator.__next__:the-table-is-plain-no-more"
  (do if !t.led&&!es.isEmpty then unsupported "set:maker-not-led")
  return match es[AV t.place slot]?,t.place[AV t.place slot]? with
   |some (_,x),Ab j=>Ab (x,j+1)
   |_,_=>none):=rfl
theorem GO (a:Af):setWalk a=(do
  let (es,epoch,t) <- Sr a
  if <- Sc then return Ls ((<- ask).params.setOrder a epoch) es
  if !t.plain&&es.size>1 then return (<- drawOrder es.size es.toList).toArray
  (do if !t.led&&es.size>1 then unsupported "set:maker-not-led")
  return es):=rfl
theorem XG (a:Af):setDrawn a=(do
  let (es,_,t) <- Sr a
  let byText <- Sc
  return !byText&&(!t.plain&&es.size>1)):=rfl
structure Still (w:AL)(S:Af)(es:Aw (Am × Ac))(ep:Ai)(t:CT):Prop where
 tab:TabT t es
 led:t.led=xC w
def qP (w:AL)(S:Af)(ep:Ai)(es:Aw (Am × Ac)):Aw (Am × Ac):=if w.params.followText "set-order" = true then Ls (w.params.setOrder S ep) es else es
theorem fL (w:AL)(S:Af)(ep:Ai)(es:Aw (Am × Ac)):(qP w S ep es).toList.Perm es.toList:=by
 unfold qP
 split
 .exact mW _ _
 .exact Jw _
theorem vH (w:AL)(S:Af)(ep:Ai)(es:Aw (Am × Ac)):(qP w S ep es).size=es.size:=by
 rw[<- A6,(fL w S ep es).length_eq,A6]
noncomputable def itO (slot i:Ai)(S:Af)(n ep:Ai):AX:={ cls:=.type "set_iterator",data:=.fields #[.int slot 0,.int i 0,.ref S,.int n 0,.int ep 0] }
def At (w:AL)(I S:Af)(es:Aw (Am × Ac))(ep:Ai)(t:CT)(i:Ai)(h:AB):Prop:=
 ∃ slot,h.get? I=Ab (itO slot i S es.size ep)/\h.get? S=Ab (setO es ep t)/\(w.params.followText "set-order" = true\/AV t.place slot=i)
section
variable {prog:A5}{w:AL}{A:AK}{E:Ac->Ag->Prop}{s:Ag}{S I:Af}{es:Aw (Am × Ac)}{ep:Ai}{t:CT}
theorem i8 {slot:Ai}{Q:Al (Ac × Ai)->Ag->Prop}(Z:Still w S es ep t)(ho:s.heap.get? S=Ab (setO es ep t))(hs:w.params.followText "set-order" = true\/AV t.place slot=i)
  (h1:∀ e slot',(qP w S ep es)[i]? = Ab e->(w.params.followText "set-order" = true\/AV t.place slot'=i+1)->Q (Ab (e.2,slot')) s) (h2:(qP w S ep es)[i]? = none->Q none s):Ao (Ar prog w) A (setNext S slot i ep) Q E s:=by
 rw[JS];refine Ad (Dy ho rfl Z.tab.fits ?_);dsimp only;refine Ad (Ad (Gq (Ak ?_)));cases hf:w.params.followText "set-order" with
 |true =>
  show Ao _ _ (if (w.params.followText "set-order")=true then _ else _) _ _ _
  rw[AF hf];have hb:(ep != ep)=false:=by simp
  rw[hb];simp only[AR,CB];refine Ad ?_;rw[GO];refine Ad (Dy ho rfl Z.tab.fits ?_);dsimp only;refine Ad (Ad (Gq (Ak ?_)));show Ao _ _ (if (w.params.followText "set-order")=true then _ else _) _ _ _
  rw[AF hf];refine Ad (Gq (Ak (Ak ?_)));show Q (((Ls (w.params.setOrder S ep) es)[i]?).map λe=>(e.2,slot)) s;have ho':qP w S ep es=Ls (w.params.setOrder S ep) es:=by unfold qP;rw[AF hf]
  rw[ho'] at h1 h2;cases hx:(Ls (w.params.setOrder S ep) es)[i]? with
  |none=>exact h2 hx
  |some e=>exact h1 e slot hx (.inl hf)
 |false =>
  show Ao _ _ (if (w.params.followText "set-order")=true then _ else _) _ _ _
  rw[AC (by rw[hf];decide),Z.tab.plain,Z.led]
  unfold xC;rw[hf];simp only[Ie,Fz,AR,CB,Qx];have hb:AV t.place slot=i:=by
   rcases hs with h|h
   .rw[hf] at h;cases h
   .exact h
  rw[hb];have ho':qP w S ep es=es:=by unfold qP;rw[AC (by rw[hf];decide)]
  rw[ho'] at h1 h2;refine Ak ?_;cases hx:es[i]? with
  |none=>exact h2 hx
  |some e =>
   have hi:i<t.place.size:=by rw[Z.tab.size];exact(Ch.mp hx).1
   have hp:t.place[i]? = Ab t.place[i]:=Cq hi;rw[hp];exact h1 e _ hx (.inr (cO Z.tab.tb.rs hp))
theorem At.type (h:At w I S es ep t i s.heap):s.TypeIs (.ref I) "set_iterator":=by
 obtain⟨slot,h,_⟩:=h;exact⟨_,h,rfl⟩
theorem nB (Z:Still w S es ep t)(hI:At w I S es ep t i s.heap)
  (h1:∀ e slot' slot,(qP w S ep es)[i]? = Ab e->s.heap.get? I=Ab (itO slot i S es.size ep)->s.heap.get? S=Ab (setO es ep t)->(w.params.followText "set-order" = true\/AV t.place slot'=i+1) ->
   Q e.2 { s with heap:=(s.heap.update I (Sd (·.setIfInBounds 0 (DL slot')))).update I (Sd (·.setIfInBounds 1 (DL ((i:Am)+1)))) })
  (h2:(qP w S ep es)[i]? = none->Ao (Ar prog w) A (do setField (.ref I) 2 .none;raiseNew (<- newExc (.type "StopIteration") [])) (λ(fin:Zb) s'=>∃ r,fin=.done (.ret r)/\Q r s') E s) :
  Ao (Ar prog w) A (Fq.«set_iterator.__next__» ⟨[.ref I],[]⟩) (λfin s'=>∃ r,fin=.done (.ret r)/\Q r s') E s:=by
 obtain⟨slot,hg,hS,hb⟩:=hI;show Ao _ _ (fieldsOf (.ref I) >>= _) _ _ s;refine Ad (wpAny_fieldsOf hg rfl ?_);show Ao _ _ (setEntries S >>= _) _ _ s;refine Ad (Se hS rfl Z.tab.fits ?_);have hne:(((es.size:Ai):Am) != ((es.size:Ai):Am))=false:=by simp
 rw[hne];simp only[AR,CB];show Ao _ _ (setNext S (slot:Am).toNat (i:Am).toNat (ep:Am).toNat >>= _) _ _ s;rw[Dv,Dv,Dv];refine Ad (i8 Z hS hb (λe slot' he hb'=>?_) λhe=>?_)
 .dsimp only
  refine Ad (Jv hg rfl (by show 0<5;decide) ?_)
  have hg2:=Dw (Sd (·.setIfInBounds 0 (DL slot'))) hg rfl
  refine Ad (Jv hg2 rfl (by show 1<5;decide) ?_)
  exact Ak ⟨_,rfl,h1 e slot' slot he hg hS hb'⟩
 .exact h2 he
theorem GN (hh:A.handled=none)(hne:S≠I)(Z:Still w S es ep t):Walks prog w A I [I,S] [I] es.size (λi v=>∃ e,(qP w S ep es)[i]? = Ab e/\e.2=v) (λi h=>At w I S es ep t i h) where
 sub:=λb hb=>by simp at hb;simp[hb]
 frame:=λi h h' ⟨slot,h1,h2,h3⟩ hk=>⟨slot,hk I (by simp) _ h1,hk S (by simp) _ h2,h3⟩
 item:=λi s Q E hi st hQ=>by
  unfold Jt;refine Ad (Gm (Cj (name:=Fl "__next__") st.type yH (Cy yH st.type bT (nB Z st (λe slot' slot he hg hS hb=>?_) λhe=>?_) (tL _))))
  .refine Ak (hQ e.2 _ s.toks ⟨e,he,rfl⟩ ⟨slot',?_,?_,hb⟩ λb o hb e=>?_)
   .exact Dw _ (Dw _ hg rfl) rfl
   .rw[Cf _ _ hne.symm,Cf _ _ hne.symm];exact hS
   .have hb:I≠b:=λz=>hb (by simp[z])
    rw[Cf _ _ hb,Cf _ _ hb];exact e
  .have:=Array.getElem?_eq_none_iff.mp he
   rw[vH] at this;omega
 done:=λs Q E st hQ=>by
  unfold Jt;refine Ad (Gm (Cj (name:=Fl "__next__") st.type yH (Cy yH st.type bT (nB Z st (λe slot' slot he hg hS hb=>?_) λhe=>?_) (tL _))))
  .have:=(Ch.mp he).1
   rw[vH] at this;omega
  .obtain⟨slot,hg,hS,hb⟩:=st
   refine Ad (Jv hg rfl (by show 2<5;decide) ?_)
   refine Ad ?_;simp only[newExc,newTuple];refine Ad (Bu ?_ (by size_fits))
   refine Ad (m:=Mq _ _) (Nj (a:=Bs) (by first|rfl|(simp only[Mq];rfl)) ?_)
   refine Bu ?_ (by size_fits)
   simp only[raiseNew];refine Ad (wpAny_handled ?_);rw[show A.in1.handled=none from hh]
   refine Ad (Ak (wpAny_throw ?_));refine Ad (Ku (T:="StopIteration") (b:=true) ⟨_,A7 _ rfl,rfl⟩ Qu ?_);refine Ak (hQ _ s.toks λb o hb e=>?_);exact(((Fg ..).extBut.push _).push _) b o (λz=>hb (by simp[z])) e
 self:=λi s Q E st hQ=>by
  refine Ut st.type nJ (Cy nJ st.type cZ ?_ (iM _));show Ao _ _ (ret (.ref I)) _ _ s;exact Ak ⟨_,rfl,"set_iterator",_,st.type,yH.lookup,hQ⟩
theorem W5 (Z:Still w S es ep t)(ho:s.heap.get? S=Ab (setO es ep t))(h:Q (.ref s.heap.objs.size) { s with heap:=s.heap.push (itO 0 0 S es.size ep) }) : Ao (Ar prog w) A (Kk (.ref S)) Q E s:=by
 have hT:s.TypeIs (.ref S) "set":=⟨_,ho,rfl⟩;refine Ut hT Qi (Cy Qi hT cY ?_ (PySem.F.args_set_iter_1 _));show Ao _ _ (Ox S >>= _) _ _ s;unfold Ox;refine Ad (Ad (Se ho rfl Z.tab.fits (Ak ?_)));refine Ad ?_;rw[XG];refine Ad (Dy ho rfl Z.tab.fits ?_);dsimp only;refine Ad (Ad (Gq (Ak (Ak ?_))));rw[Z.tab.plain];simp only[Ie,Fz,Mm,AR,CB];refine Ad (Ak ?_);unfold setEpoch;refine Ad (Ad (Dy ho rfl Z.tab.fits (Ak ?_)));refine Ad (Bu (Ak ⟨_,rfl,"set_iterator",_,⟨_,A7 _ rfl,rfl⟩,yH.lookup,h⟩))
theorem VU (Z:Still w S es ep t)(ho:s.heap.get? S=Ab (setO es ep t)):At w s.heap.objs.size S es ep t 0 (s.heap.push (itO 0 0 S es.size ep)):=
 ⟨0,A7 _ rfl,Ah _ ho,.inr (cP Z.tab.tb.rs)⟩
end
end _S
namespace _S
open PySem PySem.W PyProof.Rows
variable {vs:Aa Ac}{n lo:Ai}{arr m:Aw AH}
structure Ord {K:Type}(lt:K->K->Ap):Prop where
 irr:∀ a,lt a a=false
 tr:∀ {a b c},lt a b=true->lt b c=true->lt a c=true
 tri:∀ {a b},lt a b=false->a=b\/lt b a=true
noncomputable def ltI (a b:Am):Ap:=decide (a<b)
theorem wZ:Ord ltI:=⟨λa=>by simp[ltI],λ{a b c} h1 h2=>by simp only[ltI,AG] at *;omega,λ{a b} h=>by simp only[ltI,AG,Gg] at *;omega⟩
theorem eE:∀ a:Aa Am,_H.lexLt a a=false
 |[]=>rfl
 |x::xs=>by rw[_H.lexLt_cons,AF rfl];exact eE xs
theorem oU:∀ {a b c:Aa Am},_H.lexLt a b=true->_H.lexLt b c=true->_H.lexLt a c=true
 |_,[],[],_,h=>by cases h
 |_,_::_,[],_,h=>by cases h
 |[],_,_::_,_,_=>rfl
 |_::_,[],_::_,h,_=>by cases h
 |x::xs,y::ys,z::zs,h1,h2=>by
  rw[_H.lexLt_cons] at h1 h2 ⊢;by_cases e1:x=y
  .subst e1
   rw[AF rfl] at h1;by_cases e2:x=z
   .rw[AF e2] at h2 ⊢;exact oU h1 h2
   .rw[AC e2] at h2 ⊢;exact h2
  .rw[AC e1] at h1
   have h1:=Bd h1;by_cases e2:y=z
   .subst e2;rw[AC e1];exact Bm h1
   .rw[AC e2] at h2
    have h2:=Bd h2;rw[AC (by omega)]
    exact Bm (by omega)
theorem eF:∀ {a b:Aa Am},_H.lexLt a b=false->a=b\/_H.lexLt b a=true
 |[],[],_=>.inl rfl
 |[],_::_,h=>by cases h
 |_::_,[],_=>.inr rfl
 |x::xs,y::ys,h=>by
  rw[_H.lexLt_cons] at h ⊢;by_cases e:x=y
  .subst e
   rw[AF rfl] at h ⊢;rcases eF h with h|h
   .exact .inl (by rw[h])
   .exact .inr h
  .rw[AC e] at h
   have h:=of_decide_eq_false h;rw[AC (Ed e)];exact .inr (Bm (by omega))
theorem RV:Ord _H.lexLt:=⟨eE,oU,eF⟩
theorem tS {α:Type}{p q:α->Ap}:∀ {l:Aa α},(∀ x∈l,p x=true->q x=true)->(∃ x∈l,q x=true/\p x=false)->l.countP p<l.countP q
 |[],_,⟨x,h,_⟩=>by simp at h
 |a::l,h,⟨x,hx,h1,h2⟩=>by
  have le:l.countP p<=l.countP q:=Qj λy hy=>h y (by simp[hy])
  rw[Vn,Vn];rcases Av.mp hx with rfl|hx
  .rw[AC (by rw[h2];decide),AF h1];omega
  .have ih:=tS (l:=l) (λy hy=>h y (by simp[hy])) ⟨x,hx,h1,h2⟩
   have:=h a (by simp)
   cases hp:p a with
   |false=>rw[AC (by decide)];split <;> omega
   |true=>rw[AF rfl,AF (this hp)];omega
section
variable {K:Type}{lt':K->K->Ap}
noncomputable def kQ (lt':K->K->Ap)(ks:Aa K)(x:K):Am:=(ks.countP (λk=>lt' k x):Ai)
theorem sA (O:Ord lt'){ks:Aa K}{x y:K}(hx:x∈ks):lt' x y=decide (kQ lt' ks x<kQ lt' ks y):=by
 unfold kQ;cases h:lt' x y with
 |true =>
  refine(Bm ?_).symm;have:=tS (l:=ks) (p:=λk=>lt' k x) (q:=λk=>lt' k y) (λz _ hz=>O.tr hz h) ⟨x,hx,h,O.irr x⟩;omega
 |false =>
  refine(Cc ?_).symm;have:ks.countP (λk=>lt' k y)<=ks.countP (λk=>lt' k x):=by
   rcases O.tri h with e|h'
   .rw[e];exact Aq _
   .exact Qj λz _ hz=>O.tr hz h'
  omega
noncomputable def lD (lt':K->K->Ap)(ks:Aa K)(d:K)(i j:Ai):Ap:=lt' (ks.getD i d) (ks.getD j d)
def Nf (lt':K->K->Ap)(l:Aa K):Prop:=l.Pairwise λa b=>lt' b a=false
theorem Q7 (O:Ord lt'){l:Aa K}(h:Nf lt' l)(nd:l.Nodup):l.Pairwise λa b=>lt' a b=true:=by
 refine Yz (λ{a b} h1 h2=>?_) h nd;exact(O.tri h1).elim (λe=>absurd e.symm h2) id
noncomputable def vT (lt':K->K->Ap)(x:K):Aa K->Aa K
 |[]=>[x]
 |y::l=>if lt' x y then x::y::l else if lt' y x then y::vT lt' x l else y::l
noncomputable def srt (lt':K->K->Ap):Aa K->Aa K
 |[]=>[]
 |x::xs=>vT lt' x (srt lt' xs)
set_option tactic.hygienic true in
theorem bF (O:Ord lt')(x y:K):∀ l:Aa K,y∈vT lt' x l↔y=x\/y∈l
 |[]=>by simp[vT]
 |z::l=>by
  unfold vT
  split
  .simp
  .rename_i h1
   split
   .rw[Av,bF O x y l,Av]
    exact⟨λh=>by rcases h with h|h|h <;> simp[h],λh=>by rcases h with h|h|h <;> simp[h]⟩
   .rename_i h2
    have:x=z:=(O.tri (by simpa using h1)).elim id λh=>absurd h h2
    subst this;simp
set_option tactic.hygienic true in
theorem rY (O:Ord lt')(x:K):∀ l:Aa K,l.Pairwise (λa b=>lt' a b=true)->(vT lt' x l).Pairwise (λa b=>lt' a b=true)
 |[],_=>by simp[vT]
 |z::l,h=>by
  rw[CD] at h;unfold vT
  split
  .rename_i h1
   refine CD.mpr ⟨λy hy=>?_,CD.mpr h⟩;rcases Av.mp hy with rfl|hy
   .exact h1
   .exact O.tr h1 (h.1 y hy)
  .split
   .rename_i h2
    refine CD.mpr ⟨λy hy=>?_,rY O x l h.2⟩;rcases (bF O x y l).mp hy with rfl|hy
    .exact h2
    .exact h.1 y hy
   .exact CD.mpr h
theorem xQ (O:Ord lt')(y:K):∀ l:Aa K,y∈srt lt' l↔y∈l
 |[]=>by simp[srt]
 |x::l=>by rw[srt,bF O,xQ O y l,Av]
theorem y9 (O:Ord lt'):∀ l:Aa K,(srt lt' l).Pairwise (λa b=>lt' a b=true)
 |[]=>by simp[srt]
 |x::l=>rY O x _ (y9 O l)
theorem pP (O:Ord lt'):∀ {a b:Aa K},a.Pairwise (λa b=>lt' a b=true)->b.Pairwise (λa b=>lt' a b=true)->(∀ x,x∈a↔x∈b)->a=b
 |[],[],_,_,_=>rfl
 |[],y::b,_,_,h=>by have:=(h y).mpr (by simp);simp at this
 |x::a,[],_,_,h=>by have:=(h x).mp (by simp);simp at this
 |x::a,y::b,ha,hb,h=>by
  rw[CD] at ha hb;have asym:∀ {u v},lt' u v=true->lt' v u=true->CP:=λp q=>by have:=O.tr p q;rw[O.irr] at this;cases this
  have e:x=y:=by
   rcases Av.mp ((h x).mp (by simp)) with e|e
   .exact e
   .rcases Av.mp ((h y).mpr (by simp)) with e'|e'
    .exact e'.symm
    .exact(asym (hb.1 x e) (ha.1 y e')).elim
  subst e;have ne:∀ {z:K} {l:Aa K},(∀ y∈l,lt' x y=true)->z∈l->z≠x:=λh hz e=>by subst e;have:=h _ hz;rw[O.irr] at this;cases this
  rw[pP O ha.2 hb.2 λz=>⟨λhz=>?_,λhz=>?_⟩]
  .exact(Av.mp ((h z).mp (by simp[hz]))).elim (λe=>absurd e (ne ha.1 hz)) id
  .exact(Av.mp ((h z).mpr (by simp[hz]))).elim (λe=>absurd e (ne hb.1 hz)) id
theorem FX (O:Ord lt'){l xs:Aa K}(h:Nf lt' l)(nd:l.Nodup)(m:∀ x,x∈l↔x∈xs):l=srt lt' xs:=
 pP O (Q7 O h nd) (y9 O xs) λx=>by rw[m,xQ O]
end
theorem JM:typeLookup (.type "set") "__len__" = pure (Ab (.builtin "set.__len__")):=PySem.F.slot_set_len.lookup
section
variable {prog:A5}{w:AL}{A:AK}{E:Ac->Ag->Prop}{s:Ag}{S:Af}{es:Aw (Am × Ac)}{ep:Ai}{t:CT}
theorem W1 {r:Af}(hT:s.TypeIs (.ref r) "set"){Q:Ap->Ag->Prop}(h:Q false s):Ao (Ar prog w) A (Mu (.ref r)) Q E s:=by
 unfold Mu;refine Ad (Wd hT JM ?_);generalize hid:("set.__len__" : CF)=id0
 wp_delta
 rw[show splitId id0=Ab ("set","__len__") from by subst hid;decide +kernel]
 subst hid;refine Ad (Ku (T:="set") (b:=true) hT (by rw[Qy];kernel_rfl) ?_)
 refine Pi (λhab=>absurd hab (by decide)) (λ_=>?_)
 refine Pi (λ_=>?_) (λhab=>absurd (by decide +kernel) hab)
 exact Ad (IF hT (Ak h))
theorem sX {Q:Aa Ac->Ag->Prop}(hh:A.handled=none)(Z:Still w S es ep t)(ho:s.heap.get? S=Ab (setO es ep t))(hn:es.size<=1000)
  (h:∀ h' tk,(∀ b o,s.heap.get? b=Ab o->h'.get? b=Ab o)->s.heap.objs.size<h'.objs.size->Q ((qP w S ep es).toList.map (·.2)) { s with heap:=h',toks:=tk }) : Ao (Ar prog w) A (collect (.ref S)) Q E s:=by
 have hS:S<s.heap.objs.size:=Az ho;unfold collect;refine Ad (Mt (Eo Mv ?_));rw[Ey Mw _];show Ao _ A.in1 (newList [] >>= λl=>again (.builtin "list.__iadd__" ⟨[l,.ref S],[]⟩)) _ _ s;refine Ad (Bu (Ak ⟨Kv Ht _,Eo ON ?_⟩));rw[Ey Ht _];have hD:(s.heap.push { cls:=.type "list",data:=.seq ([] : Aa Ac).toArray }).get? s.heap.objs.size=Ab { cls:=.type "list",data:=.seq #[] }:=A7 _ rfl;have ho1:(s.heap.push { cls:=.type "list",data:=.seq ([] : Aa Ac).toArray }).get? S=Ab (setO es ep t):=Ah _ ho;show Ao _ A.in1 (ID (.ref s.heap.objs.size) (.ref S) (.ref s.heap.objs.size)) _ _ _;unfold ID;have hT1:Om { s with heap:=s.heap.push { cls:=.type "list",data:=.seq ([] : Aa Ac).toArray } } (.ref S) "set":=⟨_,ho1,rfl⟩
 refine Ad (IF hT1 ?_);have h1:Oy (.ref s.heap.objs.size) (.ref S)=false:=by simp[Oy];exact El hS
 rw[AC (by rw[h1];decide)]
 refine Ad (W5 (s:={ s with heap:=s.heap.push { cls:=.type "list",data:=.seq ([] : Aa Ac).toArray } }) Z ho1 ?_)
 have hD2:=Ah (itO 0 0 S es.size ep) hD;have hT2:Om { s with heap:=(s.heap.push { cls:=.type "list",data:=.seq ([] : Aa Ac).toArray }).push (itO 0 0 S es.size ep) } (.ref S) "set":=⟨_,Ah _ ho1,rfl⟩
 refine Ad (Cu (W1 hT2 ?_));refine Pi (λ_=>?_) (λhab=>absurd (by decide) hab)
 refine Ad (Ex (Ad ?_));show Ao _ _ (updateSeq s.heap.objs.size (·.push .none) >>= λ_=>updateSeq s.heap.objs.size (·.pop)) _ _ _
 refine Ad (Wf hD2 rfl ?_);have hD3:=Dw (Dn (·.push Bs)) hD2 rfl
 refine Wf (hz:=by seq_fits) hD3 rfl ?_
 have hD4:=Dw (Dn (·.pop)) hD3 rfl
 have sz:(s.heap.push { cls:=.type "list",data:=.seq ([] : Aa Ac).toArray }).objs.size=s.heap.objs.size+1:=Ci ..;have oth:∀ {b:Af} {o:AX},b≠s.heap.objs.size->((s.heap.push { cls:=.type "list",data:=.seq ([] : Aa Ac).toArray }).push (itO 0 0 S es.size ep)).get? b=Ab o ->
   ((((s.heap.push { cls:=.type "list",data:=.seq ([] : Aa Ac).toArray }).push (itO 0 0 S es.size ep)).update s.heap.objs.size (Dn (·.push Bs))).update s.heap.objs.size (Dn (·.pop))).get? b=Ab o:=
  λhb e=>(Cf _ _ (Ed hb)).trans ((Cf _ _ (Ed hb)).trans e)
 have at0:=VU (w:=w) (s:={ s with heap:=s.heap.push { cls:=.type "list",data:=.seq ([] : Aa Ac).toArray } }) Z ho1
 refine Ak ⟨Kv PySem.F.plain_extend_loop _,?_⟩;refine codeAny_extend_loopS ((GN (prog:=prog) (A:=A.in1) (I:=(s.heap.push { cls:=.type "list",data:=.seq ([] : Aa Ac).toArray }).objs.size) hh (by rw[sz];exact AZ (On hS)) Z).toS) (by rw[Dj];lia) s.heap.objs.size ?_ _ es.size 0 _ #[] _ rfl (Dp _) ?_ hD4 (ItemsOf.nil _) λs' acc c hm hS' hacc=>?_
 .rw[sz]
  simp only[Av,Bj,Du,Qb];exact⟨AZ (Hq _),El hS⟩
 .obtain⟨slot,a1,a2,a3⟩:=at0
  exact⟨slot,oth (by rw[sz];exact El (Hq _)) a1,oth (AZ hS) a2,a3⟩
 .show Ao _ A (load s.heap.objs.size >>= _) _ _ s'
  refine Ad (Wk hS' ?_);obtain⟨h',g',d',tk',os'⟩:=s';have eg:g'=s.gens:=hm.gens;have ed:d'=s.drawn:=hm.drawn;have eo:os'=s.os:=hm.os;subst eg;subst ed;subst eo;have e:acc.toList=(qP w S ep es).toList.map (·.2):=by
   refine Of λi=>?_;rw[A9,By,A9];by_cases hi:i<es.size
   .have hi':i<acc.size:=by rw[hacc.1];exact hi
    obtain⟨e,he,q⟩:=hacc.2 i acc[i] (Cq hi');rw[Cq hi',he,Ic,q]
   .rw[Pj (by rw[hacc.1];lia),Pj (by rw[vH];lia)]
    rfl
  refine Ak ?_;show Q acc.toList _;rw[e];refine h h' tk' (λb o q=>?_) (Az hS');have hb:b<s.heap.objs.size:=Az q;refine hm.heap b o (λhx=>?_) (oth (AZ hb) (Ah _ (Ah _ q)));simp only[Av,Bj,Du] at hx;rcases hx with hx|hx
  .exact absurd hb (by rw[hx];exact Dh _)
  .exact absurd hb (by rw[hx,sz];exact Kh.mpr (Nk _))
end
noncomputable def mJ:Ap->AH->Aw AH->Ai->Ai->Ai->Kw Dz Il (Al Ai):=sortPriv% PySem.Builtin.gallop
noncomputable def WJ:Aw AH->Aw AH->Kw Dz Il (Aw AH):=sortPriv% PySem.Builtin.mergeLo
noncomputable def WI:Aw AH->Aw AH->Kw Dz Il (Aw AH):=sortPriv% PySem.Builtin.mergeHi
noncomputable def nv:AH:=(Bs,Bs)
section
variable {M:Im}{A:AK}{E:Ac->Ag->Prop}{s:Ag}{κ : Ja}{U:AH->Prop}{r:AH->Am}
structure Cm (M:Im)(A:AK)(s:Ag)(κ : Ja)(U:AH->Prop)(r:AH->Am):Prop where
 lt:∀ {x y:AH},U x->U y->∀ {E:Ac->Ag->Prop} {Q:Al Ap->Dz->Prop} {st:Dz},kindOf st=κ->Q (Ab (decide (r x<r y))) st->wpS M A E s (lt' x y) Q st
theorem zB {i:Ai}{Q:AH->Dz->Prop}{st:Dz}(h:i<arr.size)(q:Q (arr.getD i nv) st):wpS M A E s (elem' arr i) Q st:=by
 rw[elem'_eq,getElem?_pos arr i h];have e:arr.getD i nv=arr[i]:=by simp[Ek,h]
 rw[e] at q;exact AE q
theorem iH (C:Cm M A s κ U r){left:Ap}{key:AH}{arr:Aw AH}{i:Ai}{Q:Al Ap->Dz->Prop}{st:Dz}(hk:kindOf st=κ)(hi:i<arr.size)(hU:U (arr.getD i nv))(hkU:U key)
  (q:Q (Ab (if left then decide (r (arr.getD i nv)<r key) else !decide (r key<r (arr.getD i nv)))) st) :
  wpS M A E s (do let x <- elem' arr i;if left then lt' x key else (do let a <- lt' key x;pure (a.map (λb=>!b)))) Q st:=by
 refine A3 (zB hi ?_);cases left with
 |true=>exact C.lt hU hkU hk q
 |false=>exact A3 (C.lt hkU hU hk (AE q))
theorem fU (C:Cm M A s κ U r){left:Ap}{key:AH}{arr:Aw AH}{base n hint cut:Ai}{Q:Al Ai->Dz->Prop}{st:Dz}(hk:kindOf st=κ)(hh:hint<n)(hb:base+n<=arr.size)(hU:∀ i,i<n->U (arr.getD (base+i) nv))(hkU:U key)(hc:cut<=n)
  (hB:∀ i,i<n->(if left then decide (r (arr.getD (base+i) nv)<r key) else !decide (r key<r (arr.getD (base+i) nv)))=decide (i<cut)) (h:Q (Ab cut) st):wpS M A E s (mJ left key arr base n hint) Q st:=by
 have B:∀ {i:Ai} {E:Ac->Ag->Prop} {Q:Al Ap->Dz->Prop},i<n->Q (Ab (decide (i<cut))) st->wpS M A E s (do let x <- elem' arr (base+i);if left then lt' x key else (do let a <- lt' key x;pure (a.map (λb=>!b)))) Q st:=by
  intro i E Q hi q;exact iH C hk (by lia) (hU i hi) hkU (by rw[hB i hi];exact q)
 have bin:∀ {lo hi:Ai} {f:Ai->Al (Al Ai) × Ai × Ai->Kw Dz Il (ForInStep (Al (Al Ai) × Ai × Ai))},lo<=cut->cut<=hi->hi<=n ->
   (∀ x a b,f x (none,a,b)=if a>=b then pure (.done (none,a,b)) else ((do let x <- elem' arr (base+(a+(b-a)/2));if left then lt' x key else (do let a <- lt' key x;pure (a.map (λb=>!b)))) >>= λo=>match o with
    |some more=>if more then pure (.yield (none,a+(b-a)/2+1,b)) else pure (.yield (none,a,a+(b-a)/2))
    |_=>pure (.done (Ab none,a,b))))->wpS M A E s (forIn [0:n] (none,lo,hi) f) (λc st'=>st'=st/\∃ a,c=(none,a,cut)) st:=by
  intro lo hi f h1 h2 h3 hf;refine Dl (I:=λx c st'=>st'=st/\∃ a b,c=(none,a,b)/\a<=cut/\cut<=b/\b<=n/\b-a<=n-x) ?_ ?_ ⟨rfl,lo,hi,rfl,h1,h2,h3,by lia⟩
  .rintro x c st' _ hx ⟨rfl,a,b,rfl,q1,q2,q3,q4⟩
   rw[hf];by_cases g:a>=b
   .rw[AF g];exact AE ⟨rfl,a,by rw[show b=cut by lia]⟩
   .rw[AC g]
    refine A3 (B (by lia) ?_)
    by_cases z:a+(b-a)/2<cut
    .simp only[z,Hr,Ct]
     exact AE ⟨rfl,_,_,rfl,by lia,q2,q3,by lia⟩
    .simp only[z,Hs,AR,CB]
     exact AE ⟨rfl,_,_,rfl,q1,by lia,by lia,by lia⟩
  .rintro c st' ⟨rfl,a,b,rfl,q1,q2,q3,q4⟩
   exact⟨rfl,a,by rw[show b=cut by lia]⟩
 refine A3 (B hh ?_);dsimp only;by_cases hr:hint<cut
 .simp only[hr,Hr,Ct]
  refine A3 (Fi (Dl (I:=λx c st'=>st'=st/\∃ a b,c=(none,a,b)/\hint+a<cut/\a<b/\x<b)
   (Q:=λc st'=>st'=st/\∃ a b,c=(none,a,b)/\hint+a<cut/\cut<=hint+min b (n-hint)) ?_ ?_ ⟨rfl,0,1,rfl,hr,by lia,by lia⟩) ?_)
  .rintro x c st' _ hx ⟨rfl,a,b,rfl,q1,q2,q3⟩
   dsimp only;by_cases g:b>=n-hint
   .rw[AF g];exact AE ⟨rfl,a,b,rfl,q1,by lia⟩
   .rw[AC g]
    refine A3 (B (by lia) ?_)
    by_cases z:hint+b<cut
    .simp only[z,Hr,Ie,AR,CB]
     exact AE ⟨rfl,_,_,rfl,z,by lia,by lia⟩
    .simp only[z,Hs,Qx,Ct]
     exact AE ⟨rfl,a,b,rfl,q1,by lia⟩
  .rintro c st' ⟨rfl,a,b,rfl,q1,q2,q3⟩
   exact⟨rfl,a,b,rfl,q1,by lia⟩
  .rintro c st' ⟨rfl,a,b,rfl,q1,q2⟩
   dsimp only;refine A3 (Fi (bin (lo:=hint+a+1) (hi:=hint+min b (n-hint)) (by lia) q2 (by lia) λ_ _ _=>rfl) ?_)
   rintro c st' ⟨rfl,a',rfl⟩;exact AE h
 .simp only[hr,Hs,AR,CB]
  refine A3 (Fi (Dl (I:=λx c st'=>st'=st/\∃ a b,c=(none,a,b)/\cut+a<=hint/\a<b/\x<b)
   (Q:=λc st'=>st'=st/\∃ a b,c=(none,a,b)/\cut+a<=hint/\hint+1<=cut+min b (hint+1)) ?_ ?_ ⟨rfl,0,1,rfl,by lia,by lia,by lia⟩) ?_)
  .rintro x c st' _ hx ⟨rfl,a,b,rfl,q1,q2,q3⟩
   dsimp only;by_cases g:b>=hint+1
   .rw[AF g];exact AE ⟨rfl,a,b,rfl,q1,by lia⟩
   .rw[AC g]
    refine A3 (B (by lia) ?_)
    by_cases z:hint-b<cut
    .simp only[z,Hr,Ct]
     exact AE ⟨rfl,a,b,rfl,q1,by lia⟩
    .simp only[z,Hs,AR,CB]
     exact AE ⟨rfl,_,_,rfl,by lia,by lia,by lia⟩
  .rintro c st' ⟨rfl,a,b,rfl,q1,q2,q3⟩
   exact⟨rfl,a,b,rfl,q1,by lia⟩
  .rintro c st' ⟨rfl,a,b,rfl,q1,q2⟩
   dsimp only;refine A3 (Fi (bin (lo:=hint+1-min b (hint+1)) (hi:=hint-a) (by lia) (by lia) (by lia) λ_ _ _=>rfl) ?_)
   rintro c st' ⟨rfl,a',rfl⟩;exact AE h
end
def Le (r:AH->Am)(x y:AH):Prop:=r x<=r y
structure Mg (r:AH->Am)(o A B T:Aa AH):Prop where
 p1:(o++A).Pairwise (Le r)
 p2:(o++B).Pairwise (Le r)
 pm:(o++A++B).Perm T
structure Mh (r:AH->Am)(A B o T:Aa AH):Prop where
 p1:(A++o).Pairwise (Le r)
 p2:(B++o).Pairwise (Le r)
 pm:(A++B++o).Perm T
section
variable {r:AH->Am}{o A B A1 A2 B1 B2 T:Aa AH}
theorem Mg.b (h:Mg r o A (B1++B2) T)(l:∀ x∈B1,∀ y∈A,Le r x y):Mg r (o++B1) A B2 T:=by
 obtain⟨p1,p2,pm⟩:=h;refine⟨?_,by rw[Bc];exact p2,?_⟩
 .rw[Bc]
  rw[Cw] at p1 p2 ⊢;refine⟨p1.1,?_,λx hx y hy=>?_⟩
  .rw[Cw]
   exact⟨(Cw.mp p2.2.1).1,p1.2.1,l⟩
  .rcases Ba.mp hy with hy|hy
   .exact p2.2.2 x hx y (Bk _ hy)
   .exact p1.2.2 x hx y hy
 .refine Lu ?_ pm
  simp only[Bc];refine Ha _ ?_;simp only[<- Bc];exact Ih _ Ix
theorem Mg.a (h:Mg r o (A1++A2) B T)(l:∀ x∈A1,∀ y∈B,Le r x y):Mg r (o++A1) A2 B T:=by
 obtain⟨p1,p2,pm⟩:=h;refine⟨by rw[Bc];exact p1,?_,by simpa only [Bc] using pm⟩
 rw[Bc];rw[Cw] at p1 p2 ⊢;refine⟨p2.1,?_,λx hx y hy=>?_⟩
 .rw[Cw]
  exact⟨(Cw.mp p1.2.1).1,p2.2.1,l⟩
 .rcases Ba.mp hy with hy|hy
  .exact p1.2.2 x hx y (Bk _ hy)
  .exact p2.2.2 x hx y hy
theorem Mh.a (h:Mh r (A1++A2) B o T)(l:∀ x∈B,∀ y∈A2,Le r x y):Mh r A1 B (A2++o) T:=by
 obtain⟨p1,p2,pm⟩:=h;refine⟨by rw[<- Bc];exact p1,?_,?_⟩
 .rw[Bc] at p1
  rw[Cw] at p1 p2 ⊢;refine⟨p2.1,p1.2.1,λx hx y hy=>?_⟩;rcases Ba.mp hy with hy|hy
  .exact l x hx y hy
  .exact p2.2.2 x hx y hy
 .refine Lu ?_ pm
  simp only[Bc];refine Ha _ ?_;simp only[<- Bc];exact Ih _ Ix
theorem Mh.b (h:Mh r A (B1++B2) o T)(l:∀ x∈A,∀ y∈B2,Le r x y):Mh r A B1 (B2++o) T:=by
 obtain⟨p1,p2,pm⟩:=h;refine⟨?_,by rw[<- Bc];exact p2,by simpa only [Bc] using pm⟩
 rw[Bc] at p2;rw[Cw] at p1 p2 ⊢;refine⟨p1.1,p2.2.1,λx hx y hy=>?_⟩;rcases Ba.mp hy with hy|hy
 .exact l x hx y hy
 .exact p1.2.2 x hx y hy
end
structure Mo (r:AH->Am)(T:Aa AH)(m:Aw AH):Prop where
 pm:m.toList.Perm T
 up:m.toList.Pairwise (Le r)
noncomputable abbrev yU (st:Dz)(g:Ai):Dz:=Bt (kindOf st) (arrOf st) (pendingOf st) g (failedOf st)
theorem mD {a:Aw AH}{i:Ai}(h:i<a.size):a.toList.drop i=a.getD i nv::a.toList.drop (i+1):=by
 rw[Fp (by simpa using h)]
 congr 1
 simp[Ek,h]
theorem zM {a:Aw AH}{i:Ai}(h:i<a.size):a.getD i nv∈a.toList:=by
 have e:a.getD i nv=a[i]:=by simp[Ek,h]
 rw[e];exact Array.getElem_mem_toList h
theorem wU {r:AH->Am}{a:Aw AH}(s:a.toList.Pairwise (Le r)){i j:Ai}(h:i<=j)(hj:j<a.size):r (a.getD i nv)<=r (a.getD j nv):=by
 rcases Yg i j with l|l
 .have e:=Hj.mp s i j (by simpa using Ge l hj) (by simpa using hj) l
  have hi:i<a.size:=Ge l hj;simpa [Ek,hi,hj,Le] using e
 .rw[Pk h l];exact Jb _
theorem kI {a:Aw AH}{i:Ai}{x:AH}(h:x∈a.toList.drop i):∃ j,i<=j/\j<a.size/\x=a.getD j nv:=by
 obtain⟨k,hk,e⟩:=Bv.mp h;rw[Oh] at e;have hk':k<a.size-i:=by simpa using hk
 refine⟨i+k,by lia,by lia,?_⟩
 have:i+k<a.size:=by lia
 simp[Ek,this,<- e]
theorem kK {a:Aw AH}{x:AH}(h:x∈a.toList.take n):∃ j,j<n/\j<a.size/\x=a.getD j nv:=by
 obtain⟨k,hk,e⟩:=Bv.mp h;rw[Og] at e;have hk':k<n/\k<a.size:=by rw[CO,A6] at hk;lia
 refine⟨k,hk'.1,hk'.2,?_⟩;simp[Ek,hk'.2,<- e]
theorem bC {a:Aw AH}{i k:Ai}:(a.extract i (i+k)).toList++a.toList.drop (i+k)=a.toList.drop i:=by
 rw[Hl,Fu,Hu,<- List.drop_drop];exact Kx _ _
theorem p9 {a:Aw AH}{i:Ai}:(a.extract i a.size).toList=a.toList.drop i:=by
 rw[Hl,Fu];exact Fj (by simp)
theorem mR {a:Aw AH}{i k:Ai}{x:AH}(h:x∈(a.extract i (i+k)).toList):∃ j,i<=j/\j<i+k/\j<a.size/\x=a.getD j nv:=by
 rw[Hl,Fu,Hu] at h;obtain⟨m,hm,e⟩:=Bv.mp h;rw[Og,Oh] at e;have hm':m<k/\i+m<a.size:=by rw[CO,Ho,A6] at hm;lia
 refine⟨i+m,by lia,by lia,hm'.2,?_⟩
 simp[Ek,hm'.2,<- e]
def GL (r:AH->Am)(a b o:Aw AH)(i j:Ai):Prop:=Mg r o.toList (a.toList.drop i) (b.toList.drop j) (a.toList++b.toList)
section
variable {r:AH->Am}{a b o:Aw AH}{i j k:Ai}
theorem GL.pb (sa:a.toList.Pairwise (Le r))(h:GL r a b o i j)(hj:j<b.size)(l:i<a.size->r (b.getD j nv)<=r (a.getD i nv)):GL r a b (o.push (b.getD j nv)) i (j+1):=by
 have h':Mg r o.toList (a.toList.drop i) ([b.getD j nv]++b.toList.drop (j+1)) (a.toList++b.toList):=by rw[Qk,<- mD hj];exact h
 have:=h'.b λx hx y hy=>by
  cases Bq.mp hx;obtain⟨m,h1,h2,rfl⟩:=kI hy;exact Dm (l (by lia)) (wU sa h1 h2)
 unfold GL;rw[CL];exact this
theorem GL.pa (sb:b.toList.Pairwise (Le r))(h:GL r a b o i j)(hi:i<a.size)(l:j<b.size->r (a.getD i nv)<=r (b.getD j nv)):GL r a b (o.push (a.getD i nv)) (i+1) j:=by
 have h':Mg r o.toList ([a.getD i nv]++a.toList.drop (i+1)) (b.toList.drop j) (a.toList++b.toList):=by rw[Qk,<- mD hi];exact h
 have:=h'.a λx hx y hy=>by
  cases Bq.mp hx;obtain⟨m,h1,h2,rfl⟩:=kI hy;exact Dm (l (by lia)) (wU sb h1 h2)
 unfold GL;rw[CL];exact this
theorem GL.ea (sb:b.toList.Pairwise (Le r))(h:GL r a b o i j)(hj:j<b.size)(l:∀ m,m<k->r (a.getD (i+m) nv)<=r (b.getD j nv)):GL r a b (o++a.extract i (i+k)) (i+k) j:=by
 have h':Mg r o.toList ((a.extract i (i+k)).toList++a.toList.drop (i+k)) (b.toList.drop j) (a.toList++b.toList):=by rw[bC];exact h
 have:=h'.a λx hx y hy=>by
  obtain⟨m,h1,h2,h3,rfl⟩:=mR hx;obtain⟨m',h4,h5,rfl⟩:=kI hy;have:=l (m-i) (by lia)
  rw[show i+(m-i)=m by lia] at this
  exact Dm this (wU sb h4 h5)
 unfold GL;rw[Cb];exact this
theorem GL.eb (sa:a.toList.Pairwise (Le r))(h:GL r a b o i j)(hi:i<a.size)(l:∀ m,m<k->r (b.getD (j+m) nv)<=r (a.getD i nv)):GL r a b (o++b.extract j (j+k)) i (j+k):=by
 have h':Mg r o.toList (a.toList.drop i) ((b.extract j (j+k)).toList++b.toList.drop (j+k)) (a.toList++b.toList):=by rw[bC];exact h
 have:=h'.b λx hx y hy=>by
  obtain⟨m,h1,h2,h3,rfl⟩:=mR hx;obtain⟨m',h4,h5,rfl⟩:=kI hy;have:=l (m-j) (by lia)
  rw[show j+(m-j)=m by lia] at this
  exact Dm this (wU sa h4 h5)
 unfold GL;rw[Cb];exact this
theorem GL.fin (h:GL r a b o i j)(e:i=a.size\/j=b.size):Mo r (a.toList++b.toList) (o++a.extract i a.size++b.extract j b.size):=by
 refine⟨?_,?_⟩ <;> rw[Cb,Cb,p9,p9]
 .exact h.pm
 .rcases e with rfl|rfl
  .rw[Ki (by simp),Df];exact h.p2
  .rw[Ki (l:=b.toList) (by simp),Df];exact h.p1
theorem GL.last (h:GL r a b o i j)(e:i+1=a.size)(l:∀ x∈b.toList,Le r x (a.getD (a.size-1) nv)):Mo r (a.toList++b.toList) (o++b.extract j b.size++a.extract i a.size):=by
 have hi:i<a.size:=by lia
 have hd:a.toList.drop i=[a.getD i nv]:=by rw[mD hi,Ki (by simp;lia)]
 refine⟨?_,?_⟩ <;> rw[Cb,Cb,p9,p9]
 .refine Lu ?_ h.pm
  rw[Bc,Bc];exact Ha _ Ix
 .have p1:=h.p1
  rw[hd] at p1 ⊢;rw[Cw] at p1 ⊢;refine⟨h.p2,OO _ _,λx hx y hy=>?_⟩;rcases Ba.mp hx with hx|hx
  .exact p1.2.2 x hx y hy
  .cases Bq.mp hy
   have:=l x (Rf hx);rw[show a.size-1=i by lia] at this
   exact this
end
theorem lR {p:Ai->Ap}:∀ (n:Ai),(∀ i j,i<=j->j<n->p j=true->p i=true)->∃ c,c<=n/\∀ i,i<n->p i=decide (i<c)
 |0,_=>⟨0,Aq _,λi h=>by lia⟩
 |n+1,h=>by
  obtain⟨c,hc,e⟩:=lR n λi j a b=>h i j a (by lia)
  by_cases q:p n=true
  .refine⟨n+1,Aq _,λi hi=>?_⟩
   rw[h i n (by lia) (by lia) q]
   simp[hi]
  .refine⟨c,by lia,λi hi=>?_⟩
   rcases Yg i n with l|l
   .exact e i l
   .have:i=n:=by lia
    subst this;have:¬ i<c:=by lia
    simp[this,q]
section
variable {M:Im}{A:AK}{E:Ac->Ag->Prop}{s:Ag}{κ : Ja}{U:AH->Prop}{r:AH->Am}
theorem qM {σ α:Type}{c:Prop}[He c]{x y:Kw σ Il α}{Q:α->σ->Prop}{st:σ}(h1:c->wpS M A E s x Q st)(h2:¬ c->wpS M A E s y Q st):wpS M A E s (if c then x else y) Q st:=by
 by_cases h:c
 .rw[AF h];exact h1 h
 .rw[AC h];exact h2 h
theorem XX (C:Cm M A s κ U r){key:AH}{arr:Aw AH}{base n hint:Ai}{Q:Al Ai->Dz->Prop}{st:Dz}(hk:kindOf st=κ)(hh:hint<n)(hb:base+n<=arr.size)(hU:∀ i,i<n->U (arr.getD (base+i) nv))(hkU:U key)
  (sa:∀ i j,i<=j->j<n->r (arr.getD (base+i) nv)<=r (arr.getD (base+j) nv)) (h:∀ c,c<=n->(∀ i,i<c->r (arr.getD (base+i) nv)<=r key)->(∀ i,c<=i->i<n->r key<r (arr.getD (base+i) nv))->Q (Ab c) st):wpS M A E s (mJ false key arr base n hint) Q st:=by
 obtain⟨c,hc,e⟩:=lR (p:=λi=>!decide (r key<r (arr.getD (base+i) nv))) n λi j a b q=>by
  have:=sa i j a b;simp only[Ip,Gg] at q ⊢
  lia
 refine fU C hk hh hb hU hkU hc (λi hi=>by simpa using e i hi) (h c hc (λi hi=>?_) λi hi hn=>?_)
 .have:=e i (by lia)
  simp only[hi,Hr,Ip,Gg] at this
  lia
 .have:=e i hn
  simp only[show ¬ i<c by lia,Hs,Bool.not_eq_false',AG] at this
  exact this
theorem XY (C:Cm M A s κ U r){key:AH}{arr:Aw AH}{base n hint:Ai}{Q:Al Ai->Dz->Prop}{st:Dz}(hk:kindOf st=κ)(hh:hint<n)(hb:base+n<=arr.size)(hU:∀ i,i<n->U (arr.getD (base+i) nv))(hkU:U key)
  (sa:∀ i j,i<=j->j<n->r (arr.getD (base+i) nv)<=r (arr.getD (base+j) nv)) (h:∀ c,c<=n->(∀ i,i<c->r (arr.getD (base+i) nv)<r key)->(∀ i,c<=i->i<n->r key<=r (arr.getD (base+i) nv))->Q (Ab c) st):wpS M A E s (mJ true key arr base n hint) Q st:=by
 obtain⟨c,hc,e⟩:=lR (p:=λi=>decide (r (arr.getD (base+i) nv)<r key)) n λi j a b q=>by
  have:=sa i j a b;simp only[AG] at q ⊢
  lia
 refine fU C hk hh hb hU hkU hc (λi hi=>by simpa using e i hi) (h c hc (λi hi=>?_) λi hi hn=>?_)
 .have:=e i (by lia)
  simp only[hi,Hr,AG] at this;exact this
 .have:=e i hn
  simp only[show ¬ i<c by lia,Hs,Gg] at this
  lia
end
section
variable {M:Im}{A:AK}{E:Ac->Ag->Prop}{s:Ag}{σ α γ δ:Type}{Q:α->σ->Prop}{st:σ}{c c' c2:Prop}[He c][He c'][He c2]
theorem c9 {K:γ->Kw σ Il α}{x y:γ}(h:∀ z,wpS M A E s (K z) Q st):wpS M A E s (if c then K x else K y) Q st:=qM (λ_=>h x) λ_=>h y
theorem ZP {K:γ->δ->Kw σ Il α}{u:Kw σ Il α}{x y:γ}{w v:δ}(P:γ->δ->Prop)(hK:∀ z w,P z w->wpS M A E s (K z w) Q st)(h1:c->c'->wpS M A E s u Q st)(h2:c->¬ c'->P x w)(h3:¬ c->P y v):wpS M A E s (if c then (if c' then u else K x w) else K y v) Q st:=qM (λe=>qM (h1 e) λe'=>hK _ _ (h2 e e')) λe=>hK _ _ (h3 e)
theorem ZQ {K:γ->δ->Kw σ Il α}{u u':Kw σ Il α}{x y:γ}{w v:δ}(P:γ->δ->Prop)(hK:∀ z w,P z w->wpS M A E s (K z w) Q st)(h1:c->c'->wpS M A E s u Q st)(h1':c->¬ c'->c2->wpS M A E s u' Q st)(h2:c->¬ c'->¬ c2->P x w)(h3:¬ c->P y v):wpS M A E s (if c then (if c' then u else if c2 then u' else K x w) else K y v) Q st:=qM (λe=>qM (h1 e) λe'=>qM (h1' e e') λe2=>hK _ _ (h2 e e' e2)) λe=>hK _ _ (h3 e)
end
section
variable {prog:A5}{w:AL}{A:AK}{E:Ac->Ag->Prop}{s:Ag}{κ : Ja}{U:AH->Prop}{r:AH->Am}
theorem rE (C:Cm (Ar prog w) A s κ U r){a b:Aw AH}{Q:Aw AH->Dz->Prop}{st:Dz}(hk:kindOf st=κ)(ua:∀ x∈a.toList,U x)(ub:∀ x∈b.toList,U x)(sa:a.toList.Pairwise (Le r))(sb:b.toList.Pairwise (Le r))
  (h:∀ m g,Mo r (a.toList++b.toList) m->Q m (yU st g)) (ha:0<a.size) (hb:0<b.size) (h0:r (b.getD 0 nv)<=r (a.getD 0 nv)) (h1:∀ x∈b.toList,Le r x (a.getD (a.size-1) nv)):wpS (Ar prog w) A E s (WJ a b) Q st:=by
 have G0:GL r a b #[] 0 0:=⟨by simpa using sa,by simpa using sb,by simp⟩
 have G1:=G0.pb sa hb λ_=>h0;refine A3 (Nr (Ex ⟨rfl,?_⟩));refine A3 (zB hb ?_);dsimp only;refine qM (λe=>AE (h _ (Pl st) (G1.fin (.inr (by simpa using e))))) λe1=>?_
 refine qM (λe=>AE (h _ (Pl st) (G1.last (by simpa using e) h1))) λe2=>?_
 have e1:1<b.size:=by
  have:¬ 1=b.size:=by simpa using e1
  lia
 have e2:0+1<a.size:=by
  have:¬ 0+1=a.size:=by simpa using e2
  lia
 refine A3 (Js ?_);refine A3 (Fi (Dl (I:=λx c st'=>(∃ g,st'=yU st g)/\∃ o i j g,c=(none,o,i,j,g)/\GL r a b o i j/\i+1<a.size/\j<b.size/\x<i+j)
  (Q:=λc st'=>(∃ g,st'=yU st g)/\∃ m,c.1=Ab m/\Mo r (a.toList++b.toList) m) ?_ ?_ ⟨⟨Pl st,rfl⟩,_,0,1,_,rfl,G1,e2,e1,by lia⟩) ?_)
 .rintro x c st' _ hx ⟨⟨g,rfl⟩,o,i,j,mg,rfl,G,hi,hj,hp⟩
  dsimp only;refine A3 (Fi (Dl (I:=λy c st'=>(∃ g,st'=yU st g)/\∃ o i' j' p q,c=(none,o,i',j',p,q)/\GL r a b o i' j'/\i'+1<a.size/\j'<b.size/\i+j+y<=i'+j')
   (Q:=λc st'=>(∃ g,st'=yU st g)/\((∃ m,c.1=Ab m/\Mo r (a.toList++b.toList) m)\/∃ o i' j' p q,c=(none,o,i',j',p,q)/\GL r a b o i' j'/\i'+1<a.size/\j'<b.size/\x+1<i'+j')) ?_ ?_ ⟨⟨g,rfl⟩,o,i,j,0,0,rfl,G,hi,hj,by lia⟩) ?_)
  .rintro y c st' _ hy ⟨⟨g,rfl⟩,o,i',j',p,q,rfl,G,hi,hj,hq⟩
   dsimp only;refine A3 (zB hj (A3 (zB (i:=i') (by lia) (A3 (C.lt (ub _ (zM hj)) (ua _ (zM (i:=i') (by lia))) hk ?_)))))
   dsimp only;refine qM (λl=>?_) λl=>?_
   .have l:r (b.getD j' nv)<r (a.getD i' nv):=by simpa using l
    have G2:=G.pb sa hj λ_=>Fm l;refine A3 (zB hj ?_);refine qM (λe=>?_) λe=>?_
    .exact AE ⟨⟨g,rfl⟩,.inl ⟨_,rfl,G2.fin (.inr (by simpa using e))⟩⟩
    .have e:¬ j'+1=b.size:=by simpa using e
     refine qM (λ_=>?_) λ_=>?_
     .exact AE ⟨⟨g,rfl⟩,.inr ⟨_,_,_,_,_,rfl,G2,hi,by lia,by lia⟩⟩
     .exact AE ⟨⟨g,rfl⟩,_,_,_,_,_,rfl,G2,hi,by lia,by lia⟩
   .have l:¬ r (b.getD j' nv)<r (a.getD i' nv):=by simpa using l
    have G2:=G.pa sb (by lia) λ_=>Wu.mp l
    refine A3 (zB (i:=i') (by lia) ?_)
    refine qM (λe=>?_) λe=>?_
    .exact AE ⟨⟨g,rfl⟩,.inl ⟨_,rfl,G2.last (by simpa using e) h1⟩⟩
    .have e:¬ i'+1+1=a.size:=by simpa using e
     refine qM (λ_=>?_) λ_=>?_
     .exact AE ⟨⟨g,rfl⟩,.inr ⟨_,_,_,_,_,rfl,G2,by lia,hj,by lia⟩⟩
     .exact AE ⟨⟨g,rfl⟩,_,_,_,_,_,rfl,G2,by lia,hj,by lia⟩
  .rintro c st' ⟨z,o,i',j',p,q,rfl,G,hi,hj,hq⟩
   exact⟨z,.inr ⟨_,_,_,_,_,rfl,G,hi,hj,by lia⟩⟩
  .rintro c st' ⟨⟨g,rfl⟩,⟨m,hc,hm⟩|⟨o,i',j',p,q,rfl,G,hi,hj,hq⟩⟩
   .obtain⟨c0,c1⟩:=c
    cases hc;exact AE ⟨⟨g,rfl⟩,m,rfl,hm⟩
   dsimp only;refine A3 (Nr (Ex ⟨rfl,?_⟩));refine A3 (Fi (Dl (I:=λy c st'=>(∃ g,st'=yU st g)/\∃ o i' j' p q t,c=(none,o,i',j',p,q,t)/\GL r a b o i' j'/\i'+1<a.size/\j'<b.size/\x+1<i'+j')
    (Q:=λc st'=>(∃ g,st'=yU st g)/\((∃ m,c.1=Ab m/\Mo r (a.toList++b.toList) m)\/∃ o i' j' p q t,c=(none,o,i',j',p,q,t)/\GL r a b o i' j'/\i'+1<a.size/\j'<b.size/\x+1<i'+j')) ?_ ?_ ⟨⟨g,rfl⟩,o,i',j',_,_,_,rfl,G,hi,hj,hq⟩) ?_)
   .rintro y c st' _ hy ⟨⟨g,rfl⟩,o,i,j,p,q,t,rfl,G,hi,hj,hq⟩
    dsimp only;generalize p-1=p1;apply c9 (x:=p1) (y:=p);intro mg;have hi0:i<a.size:=Oo hi;refine A3 (Hc ?_);refine A3 (zB hj ?_);refine A3 (XX C hk (Op hi0) (Tz (Sf (CV hi0))) (λi' hi'=>ua _ (zM (Iy hi'))) (ub _ (zM hj)) (λi' j' h1 h2=>wU sa (Gn h1 _) (Iy h2)) λk k1 k2 k3=>?_);dsimp only;have G2:=G.ea sb hj k2;have k4:i+k<=a.size:=Ql (CV hi0) k1;have k5:i+k<a.size->r (b.getD j nv)<r (a.getD (i+k) nv):=λh=>k3 k (Aq _) (Rg (by rw[Lw];exact h))
    have k6:x+1<i+k+j:=Ax hq (Rh (Ft _ _) _);have k7:k=0->i=i+k:=λh=>by rw[h];rfl
    generalize i+k=i1 at G2 k4 k5 k6 k7 ⊢;generalize o++a.extract i i1=o1 at G2 ⊢;apply ZQ (x:=o1) (w:=i1) (y:=o) (v:=i) (P:=λout ia=>GL r a b out ia j/\ia+1<a.size/\x+1<ia+j/\r (b.getD j nv)<r (a.getD ia nv))
    case h1=>exact λ_ e=>AE ⟨⟨_,rfl⟩,.inl ⟨_,rfl,G2.last (by simpa using e) h1⟩⟩
    case h1'=>exact λ_ _ e=>AE ⟨⟨_,rfl⟩,.inl ⟨_,rfl,G2.fin (.inl (by simpa using e))⟩⟩
    case h2 =>
     intro _ e3 e4;have e3:¬ i1+1=a.size:=by simpa using e3
     have e4:¬ i1=a.size:=by simpa using e4
     have e5:i1<a.size:=Fy k4 e4;exact⟨G2,Fy e5 e3,k6,k5 e5⟩
    case h3 =>
     intro e;have e:=k7 (Ik e);exact⟨G,hi,hq,by rw[e];exact k5 (by rw[<- e];exact hi0)⟩
    case hK =>
     rintro out ia ⟨G2,hl,hq,hc⟩;have ha0:ia<a.size:=Oo hl;refine A3 (zB hj ?_);have G3:=G2.pb sa hj λ_=>Fm hc;refine qM (λe=>AE ⟨⟨_,rfl⟩,.inl ⟨_,rfl,G3.fin (.inr (by simpa using e))⟩⟩) λe5=>?_
     have e5:¬ j+1=b.size:=by simpa using e5
     have hj1:j+1<b.size:=Fy hj e5;refine A3 (zB ha0 ?_);refine A3 (XY C hk (Op hj1) (Tz (Sf hj)) (λi hi=>ub _ (zM (Iy hi))) (ua _ (zM ha0)) (λi j h1 h2=>wU sb (Gn h1 _) (Iy h2)) λm m1 m2 m3=>?_);dsimp only;have G4:=G3.eb sa ha0 λi hi=>Fm (m2 i hi);have m4:j+1+m<=b.size:=Ql hj m1;have m5:j+1+m<b.size->r (a.getD ia nv)<=r (b.getD (j+1+m) nv):=λh=>m3 m (Aq _) (Rg (by rw[Lw];exact h))
     have m6:j+1<=j+1+m:=Ft _ _;have m7:m=0->j+1=j+1+m:=λh=>by rw[h]
     generalize j+1+m=j1 at G4 m4 m5 m6 m7 ⊢;generalize out.push (b.getD j nv)++b.extract (j+1) j1=o2 at G4 ⊢;apply ZP (x:=o2) (w:=j1) (y:=out.push (b.getD j nv)) (v:=j+1) (P:=λout ib=>GL r a b out ia ib/\ib<b.size/\j+1<=ib/\r (a.getD ia nv)<=r (b.getD ib nv))
     case h1=>exact λ_ e=>AE ⟨⟨_,rfl⟩,.inl ⟨_,rfl,G4.fin (.inr (by simpa using e))⟩⟩
     case h2 =>
      intro _ e6;have e6:¬ j1=b.size:=by simpa using e6
      have e7:=Fy m4 e6;exact⟨G4,e7,m6,m5 e7⟩
     case h3 =>
      intro e;have e:=m7 (Ik e);exact⟨G3,hj1,Aq _,by rw[e];exact m5 (by rw[<- e];exact hj1)⟩
     case hK =>
      rintro out ib ⟨G4,hb1,hb2,hc4⟩;refine A3 (zB ha0 ?_);have G5:=G4.pa sb ha0 λ_=>hc4;refine qM (λe=>AE ⟨⟨_,rfl⟩,.inl ⟨_,rfl,G5.last (by simpa using e) h1⟩⟩) λe7=>?_
      have e7:¬ ia+1+1=a.size:=by simpa using e7
      have e8:ia+1+1<a.size:=Fy hl e7;have e9:x+1<ia+1+ib:=Ax hq (Wx (Nk _) (Nat.le_of_succ_le hb2));exact qM (λ_=>AE ⟨⟨_,rfl⟩,.inr ⟨_,_,_,_,_,_,rfl,G5,e8,hb1,e9⟩⟩) λ_=>AE ⟨⟨_,rfl⟩,_,_,_,_,_,_,rfl,G5,e8,hb1,e9⟩
   .rintro c st' ⟨z,o,i',j',p,q,t,rfl,G,hi,hj,hq⟩
    exact⟨z,.inr ⟨_,_,_,_,_,_,rfl,G,hi,hj,by lia⟩⟩
   .rintro c st' ⟨⟨g,rfl⟩,⟨m,hc,hm⟩|⟨o,i',j',p,q,t,rfl,G,hi,hj,hq⟩⟩
    .obtain⟨c0,c1⟩:=c
     cases hc;exact AE ⟨⟨g,rfl⟩,m,rfl,hm⟩
    dsimp only;refine A3 (Hc ?_);exact AE ⟨⟨_,rfl⟩,_,_,_,_,rfl,G,hi,hj,by lia⟩
 .rintro c st' ⟨z,o,i',j',p,rfl,G,hi,hj,hq⟩
  exfalso
  lia
 .rintro c st' ⟨⟨g,rfl⟩,m,hc,hm⟩
  obtain⟨c0,c1⟩:=c;cases hc;exact AE (h m g hm)
end
theorem tJ {a:Aw AH}(h:0<n)(hn:n<=a.size):a.toList.take n=a.toList.take (n-1)++[a.getD (n-1) nv]:=by
 obtain⟨m,rfl⟩:∃ m,n=m+1:=⟨n-1,by lia⟩
 rw[Nat.add_sub_cancel,List.take_add_one];have hm:m<a.size:=by lia
 simp[Ek,hm]
theorem d7 {a:Aw AH}{i:Ai}(h:i<=n):a.toList.take i++(a.extract i n).toList=a.toList.take n:=by
 rw[Hl,Fu]
 conv=>rhs;rw[show n=i+(n-i) by lia,List.take_add]
theorem kB {a:Aw AH}:(a.extract 0 n).toList=a.toList.take n:=by
 rw[Hl,Fu];simp
theorem kJ {a:Aw AH}{i:Ai}{x:AH}(hn:i<=n)(h:x∈(a.extract i n).toList):∃ j,i<=j/\j<n/\j<a.size/\x=a.getD j nv:=by
 obtain⟨k,rfl⟩:∃ k,n=i+k:=⟨n-i,by lia⟩
 exact mR h
def GH (r:AH->Am)(a b o:Aw AH)(i j:Ai):Prop:=Mh r (a.toList.take i) (b.toList.take j) o.toList.reverse (a.toList++b.toList)
section
variable {r:AH->Am}{a b o:Aw AH}{i j k:Ai}
theorem GH.pa (sb:b.toList.Pairwise (Le r))(h:GH r a b o i j)(h1:0<i)(h2:i<=a.size)(hj:j<=b.size)(l:0<j->r (b.getD (j-1) nv)<=r (a.getD (i-1) nv)):GH r a b (o.push (a.getD (i-1) nv)) (i-1) j:=by
 have h':Mh r (a.toList.take (i-1)++[a.getD (i-1) nv]) (b.toList.take j) o.toList.reverse (a.toList++b.toList):=by rw[<- tJ h1 h2];exact h
 have:=h'.a λx hx y hy=>by
  cases Bq.mp hy;obtain⟨m,q1,q2,rfl⟩:=kK hx;exact Dm (wU sb (by lia) (by lia)) (l (by lia))
 unfold GH;rw[CL,IS];exact this
theorem GH.pb (sa:a.toList.Pairwise (Le r))(h:GH r a b o i j)(h1:0<j)(h2:j<=b.size)(hi:i<=a.size)(l:0<i->r (a.getD (i-1) nv)<=r (b.getD (j-1) nv)):GH r a b (o.push (b.getD (j-1) nv)) i (j-1):=by
 have h':Mh r (a.toList.take i) (b.toList.take (j-1)++[b.getD (j-1) nv]) o.toList.reverse (a.toList++b.toList):=by rw[<- tJ h1 h2];exact h
 have:=h'.b λx hx y hy=>by
  cases Bq.mp hy;obtain⟨m,q1,q2,rfl⟩:=kK hx;exact Dm (wU sa (by lia) (by lia)) (l (by lia))
 unfold GH;rw[CL,IS];exact this
theorem GH.ea (sb:b.toList.Pairwise (Le r))(h:GH r a b o i j)(hk:k<=i)(hj:j<=b.size)(l:0<j->∀ m,k<=m->m<i->m<a.size->r (b.getD (j-1) nv)<=r (a.getD m nv)):GH r a b (o++(a.extract k i).reverse) k j:=by
 have h':Mh r (a.toList.take k++(a.extract k i).toList) (b.toList.take j) o.toList.reverse (a.toList++b.toList):=by rw[d7 hk];exact h
 have:=h'.a λx hx y hy=>by
  obtain⟨m,q1,q2,rfl⟩:=kK hx;obtain⟨m',q3,q4,q5,rfl⟩:=kJ hk hy;exact Dm (wU sb (by lia) (by lia)) (l (by lia) m' q3 q4 q5)
 unfold GH;rw[Cb,II,IS,Ri];exact this
theorem GH.eb (sa:a.toList.Pairwise (Le r))(h:GH r a b o i j)(hk:k<=j)(hi:i<=a.size)(l:0<i->∀ m,k<=m->m<j->m<b.size->r (a.getD (i-1) nv)<=r (b.getD m nv)):GH r a b (o++(b.extract k j).reverse) i k:=by
 have h':Mh r (a.toList.take i) (b.toList.take k++(b.extract k j).toList) o.toList.reverse (a.toList++b.toList):=by rw[d7 hk];exact h
 have:=h'.b λx hx y hy=>by
  obtain⟨m,q1,q2,rfl⟩:=kK hx;obtain⟨m',q3,q4,q5,rfl⟩:=kJ hk hy;exact Dm (wU sa (by lia) (by lia)) (l (by lia) m' q3 q4 q5)
 unfold GH;rw[Cb,II,IS,Ri];exact this
theorem GH.fin (h:GH r a b o i j)(e:i=0\/j=0):Mo r (a.toList++b.toList) (a.extract 0 i++b.extract 0 j++o.reverse):=by
 refine⟨?_,?_⟩ <;> rw[Cb,Cb,kB,kB,II]
 .exact h.pm
 .rcases e with rfl|rfl
  .rw[Wy,Fh];exact h.p2
  .rw[Wy,Df];exact h.p1
theorem GH.first (h:GH r a b o i j)(e:j=1)(hb:0<b.size)(l:∀ x∈a.toList,Le r (b.getD 0 nv) x):Mo r (a.toList++b.toList) (b.extract 0 j++a.extract 0 i++o.reverse):=by
 subst e;have hd:b.toList.take 1=[b.getD 0 nv]:=by rw[tJ (by lia) (by lia)];rfl
 refine⟨?_,?_⟩ <;> rw[Cb,Cb,kB,kB,II]
 .refine Lu ?_ h.pm
  exact Ih _ Ix
 .have p2:=h.p2
  rw[hd] at p2 ⊢;rw[Bc];rw[Cw] at p2 ⊢;refine⟨p2.1,h.p1,λx hx y hy=>?_⟩;rcases Ba.mp hy with hy|hy
  .cases Bq.mp hx
   exact l y (IJ hy)
  .exact p2.2.2 x hx y hy
end
section
variable {prog:A5}{w:AL}{A:AK}{E:Ac->Ag->Prop}{s:Ag}{κ : Ja}{U:AH->Prop}{r:AH->Am}
theorem rD (C:Cm (Ar prog w) A s κ U r){a b:Aw AH}{Q:Aw AH->Dz->Prop}{st:Dz}(hk:kindOf st=κ)(ua:∀ x∈a.toList,U x)(ub:∀ x∈b.toList,U x)(sa:a.toList.Pairwise (Le r))(sb:b.toList.Pairwise (Le r))
  (h:∀ m g,Mo r (a.toList++b.toList) m->Q m (yU st g)) (ha:0<a.size) (hb:0<b.size) (h0:∀ x∈a.toList,Le r (b.getD 0 nv) x) (h1:r (b.getD (b.size-1) nv)<=r (a.getD (a.size-1) nv)):wpS (Ar prog w) A E s (WI a b) Q st:=by
 have G0:GH r a b #[] a.size b.size:=by
  unfold GH;rw[Fj (by simp),Fj (by simp)]
  exact⟨by simpa using sa,by simpa using sb,by simp⟩
 have G1:=G0.pa sb ha (Aq _) (Aq _) λ_=>h1;refine A3 (Nr (Ex ⟨rfl,?_⟩));refine A3 (zB (i:=a.size-1) (by lia) ?_)
 dsimp only;refine qM (λe=>AE (h _ (Pl st) (G1.fin (.inl (by simpa using e))))) λe1=>?_
 refine qM (λe=>AE (h _ (Pl st) (G1.first (by simpa using e) hb h0))) λe2=>?_
 have e1:¬ a.size-1=0:=by simpa using e1
 have e2:¬ b.size=1:=by simpa using e2
 refine A3 (Js ?_);refine A3 (Fi (Dl (I:=λx c st'=>(∃ g,st'=yU st g)/\∃ o i j g,c=(none,i,j,o,g)/\GH r a b o i j/\0<i/\i<=a.size/\1<j/\j<=b.size/\x+i+j<a.size+b.size)
  (Q:=λc st'=>(∃ g,st'=yU st g)/\∃ m,c.1=Ab m/\Mo r (a.toList++b.toList) m) ?_ ?_ ⟨⟨Pl st,rfl⟩,_,a.size-1,b.size,_,rfl,G1,by lia,by lia,by lia,by lia,by lia⟩) ?_)
 .rintro x c st' _ hx ⟨⟨g,rfl⟩,o,i,j,mg,rfl,G,hi,hi2,hj,hj2,hp⟩
  dsimp only;refine A3 (Fi (Dl (I:=λy c st'=>(∃ g,st'=yU st g)/\∃ o i' j' p q,c=(none,i',j',o,p,q)/\GH r a b o i' j'/\0<i'/\i'<=a.size/\1<j'/\j'<=b.size/\i'+j'+y<=i+j)
   (Q:=λc st'=>(∃ g,st'=yU st g)/\((∃ m,c.1=Ab m/\Mo r (a.toList++b.toList) m)\/∃ o i' j' p q,c=(none,i',j',o,p,q)/\GH r a b o i' j'/\0<i'/\i'<=a.size/\1<j'/\j'<=b.size/\x+1+i'+j'<a.size+b.size)) ?_ ?_ ⟨⟨g,rfl⟩,o,i,j,0,0,rfl,G,hi,hi2,hj,hj2,by lia⟩) ?_)
  .rintro y c st' _ hy ⟨⟨g,rfl⟩,o,i',j',p,q,rfl,G,hi,hi2,hj,hj2,hq⟩
   dsimp only;refine A3 (zB (i:=j'-1) (by lia) (A3 (zB (i:=i'-1) (by lia) (A3 (C.lt (ub _ (zM (i:=j'-1) (by lia))) (ua _ (zM (i:=i'-1) (by lia))) hk ?_)))))
   dsimp only;refine qM (λl=>?_) λl=>?_
   .have l:r (b.getD (j'-1) nv)<r (a.getD (i'-1) nv):=by simpa using l
    have G2:=G.pa sb hi hi2 hj2 λ_=>Fm l;refine A3 (zB (i:=i'-1) (by lia) ?_)
    refine qM (λe=>AE ⟨⟨g,rfl⟩,.inl ⟨_,rfl,G2.fin (.inl (by simpa using e))⟩⟩) λe=>?_
    have e:¬ i'-1=0:=by simpa using e
    exact qM (λ_=>AE ⟨⟨g,rfl⟩,.inr ⟨_,_,_,_,_,rfl,G2,by lia,by lia,hj,hj2,by lia⟩⟩) λ_=>AE ⟨⟨g,rfl⟩,_,_,_,_,_,rfl,G2,by lia,by lia,hj,hj2,by lia⟩
   .have l:¬ r (b.getD (j'-1) nv)<r (a.getD (i'-1) nv):=by simpa using l
    have G2:=G.pb sa (by lia) hj2 hi2 λ_=>Wu.mp l
    refine A3 (zB (i:=j'-1) (by lia) ?_)
    refine qM (λe=>AE ⟨⟨g,rfl⟩,.inl ⟨_,rfl,G2.first (by simpa using e) hb h0⟩⟩) λe=>?_
    have e:¬ j'-1=1:=by simpa using e
    exact qM (λ_=>AE ⟨⟨g,rfl⟩,.inr ⟨_,_,_,_,_,rfl,G2,hi,hi2,by lia,by lia,by lia⟩⟩) λ_=>AE ⟨⟨g,rfl⟩,_,_,_,_,_,rfl,G2,hi,hi2,by lia,by lia,by lia⟩
  .rintro c st' ⟨z,o,i',j',p,q,rfl,G,hi,hi2,hj,hj2,hq⟩
   exact⟨z,.inr ⟨_,_,_,_,_,rfl,G,hi,hi2,hj,hj2,by lia⟩⟩
  .rintro c st' ⟨⟨g,rfl⟩,⟨m,hc,hm⟩|⟨o,i',j',p,q,rfl,G,hi,hi2,hj,hj2,hq⟩⟩
   .obtain⟨c0,c1⟩:=c
    cases hc;exact AE ⟨⟨g,rfl⟩,m,rfl,hm⟩
   dsimp only;refine A3 (Nr (Ex ⟨rfl,?_⟩));refine A3 (Fi (Dl (I:=λy c st'=>(∃ g,st'=yU st g)/\∃ o i' j' p q t,c=(none,i',j',o,p,q,t)/\GH r a b o i' j'/\0<i'/\i'<=a.size/\1<j'/\j'<=b.size/\x+1+i'+j'<a.size+b.size)
    (Q:=λc st'=>(∃ g,st'=yU st g)/\((∃ m,c.1=Ab m/\Mo r (a.toList++b.toList) m)\/∃ o i' j' p q t,c=(none,i',j',o,p,q,t)/\GH r a b o i' j'/\0<i'/\i'<=a.size/\1<j'/\j'<=b.size/\x+1+i'+j'<a.size+b.size)) ?_ ?_ ⟨⟨g,rfl⟩,o,i',j',_,_,_,rfl,G,hi,hi2,hj,hj2,hq⟩) ?_)
   .rintro y c st' _ hy ⟨⟨g,rfl⟩,o,i,j,p,q,t,rfl,G,hi,hi2,hj,hj2,hq⟩
    dsimp only;generalize p-1=p1;apply c9 (x:=p1) (y:=p);intro mg;refine A3 (Hc ?_);have j0:0<j:=Oo hj;have jb:j-1<b.size:=Ax (IT j0 IA) hj2;refine A3 (zB jb ?_);refine A3 (XX C hk (IT hi IA) (by rw[En];exact hi2) (λi' hi'=>ua _ (zM (by rw[En];exact Ax hi' hi2))) (ub _ (zM jb)) (λi' j' h1 h2=>wU sa (Gn h1 0) (by rw[En];exact Ax h2 hi2)) λk k1 k2 k3=>?_)
    simp only[En] at k2 k3;dsimp only;have G2:=G.ea sb k1 hj2 λ_ m q1 q2 _=>Fm (k3 m q1 q2);have kc:i-k=0->k=i:=λh=>Pk k1 (Qm h);generalize i-k=ac at kc ⊢;generalize o++(a.extract k i).reverse=o1 at G2 ⊢;apply ZP (x:=k) (w:=o1) (y:=i) (v:=o) (P:=λna out=>GH r a b out na j/\0<na/\na<=a.size/\x+1+na+j<a.size+b.size/\r (a.getD (na-1) nv)<=r (b.getD (j-1) nv))
    case h1=>exact λ_ e=>AE ⟨⟨_,rfl⟩,.inl ⟨_,rfl,G2.fin (.inl (by simpa using e))⟩⟩
    case hK =>
     rintro na out ⟨G2,hl,hl2,hq,hc⟩;have na1:na-1<a.size:=Ax (IT hl IA) hl2;refine A3 (zB jb ?_);have G3:=G2.pb sa j0 hj2 hl2 λ_=>hc;refine qM (λe=>AE ⟨⟨_,rfl⟩,.inl ⟨_,rfl,G3.first (by simpa using e) hb h0⟩⟩) λe5=>?_
     have e5:¬ j-1=1:=by simpa using e5
     have j1:0<j-1:=Op hj;refine A3 (zB na1 ?_);refine A3 (XY C hk (IT j1 IA) (by rw[En];exact CV jb) (λi hi=>ub _ (zM (by rw[En];exact Ge hi jb))) (ua _ (zM na1)) (λi j h1 h2=>wU sb (Gn h1 0) (by rw[En];exact Ge h2 jb)) λm m1 m2 m3=>?_)
     simp only[En] at m2 m3;dsimp only;have G4:=G3.eb sa m1 hl2 λ_ m q1 q2 _=>m3 m q1 q2;have mc:j-1-m=0->m=j-1:=λh=>Pk m1 (Qm h);generalize j-1-m=bc at mc ⊢;generalize out.push (b.getD (j-1) nv)++(b.extract m (j-1)).reverse=o2 at G4 ⊢;apply ZQ (x:=m) (w:=o2) (y:=j-1) (v:=out.push (b.getD (j-1) nv)) (P:=λnb out=>GH r a b out na nb/\1<nb/\nb<=j-1/\r (b.getD (nb-1) nv)<=r (a.getD (na-1) nv))
     case h1=>exact λ_ e=>AE ⟨⟨_,rfl⟩,.inl ⟨_,rfl,G4.first (by simpa using e) hb h0⟩⟩
     case h1'=>exact λ_ _ e=>AE ⟨⟨_,rfl⟩,.inl ⟨_,rfl,G4.fin (.inr (by simpa using e))⟩⟩
     case hK =>
      rintro nb out ⟨G4,h4,h5,hc4⟩;have h6:nb<=b.size:=Bp h5 (CV jb);have hq2:x+1+(na-1)+nb<a.size+b.size:=Jl (Wx (Gn (Nat.sub_le _ _) _) (Bp h5 (Nat.sub_le _ _))) hq;refine A3 (zB na1 ?_);have G5:=G4.pa sb hl hl2 h6 λ_=>hc4;refine qM (λe=>AE ⟨⟨_,rfl⟩,.inl ⟨_,rfl,G5.fin (.inl (by simpa using e))⟩⟩) λe7=>?_
      have e7:0<na-1:=Jm (by simpa using e7)
      exact qM (λ_=>AE ⟨⟨_,rfl⟩,.inr ⟨_,_,_,_,_,_,rfl,G5,e7,CV na1,h4,h6,hq2⟩⟩) λ_=>AE ⟨⟨_,rfl⟩,_,_,_,_,_,_,rfl,G5,e7,CV na1,h4,h6,hq2⟩
     case h2 =>
      intro _ e6 e7;have e6:¬ m=1:=by simpa using e6
      have e7:¬ m=0:=by simpa using e7
      exact⟨G4,Fy (Jm e7) (Ed e6),m1,Fm (m2 (m-1) (IT (Jm e7) IA))⟩
     case h3 =>
      intro e;cases mc (Ik e);exact⟨G3,Fy j1 (Ed e5),Aq _,Fm (m2 (j-1-1) (IT j1 IA))⟩
    case h2 =>
     intro _ e;have e3:0<k:=Jm (by simpa using e)
     exact⟨G2,e3,Bp k1 hi2,Jl (Rh (Gn k1 _) _) hq,k2 (k-1) (IT e3 IA)⟩
    case h3 =>
     intro e;have e:=kc (Ik e);exact⟨G,hi,hi2,hq,k2 (i-1) (by rw[e];exact IT hi IA)⟩
   .rintro c st' ⟨z,o,i',j',p,q,t,rfl,G,hi,hi2,hj,hj2,hq⟩
    exact⟨z,.inr ⟨_,_,_,_,_,_,rfl,G,hi,hi2,hj,hj2,by lia⟩⟩
   .rintro c st' ⟨⟨g,rfl⟩,⟨m,hc,hm⟩|⟨o,i',j',p,q,t,rfl,G,hi,hi2,hj,hj2,hq⟩⟩
    .obtain⟨c0,c1⟩:=c
     cases hc;exact AE ⟨⟨g,rfl⟩,m,rfl,hm⟩
    dsimp only;refine A3 (Hc ?_);exact AE ⟨⟨_,rfl⟩,_,_,_,_,rfl,G,hi,hi2,hj,hj2,by lia⟩
 .rintro c st' ⟨z,o,i',j',p,rfl,G,hi,hi2,hj,hj2,hq⟩
  exfalso
  lia
 .rintro c st' ⟨⟨g,rfl⟩,m,hc,hm⟩
  obtain⟨c0,c1⟩:=c;cases hc;exact AE (h m g hm)
end
theorem iG:∀ (l:Aa AH) (arr:Aw AH) (o d:Ai),o+d+l.length<=arr.size->∀ k,((l.zipIdx d).foldl (λa p=>a.setIfInBounds (o+p.2) p.1) arr)[k]? = if o+d<=k/\k<o+d+l.length then l[k-(o+d)]? else arr[k]?
 |[],arr,o,d,h,k=>by
  rw[AC (by simp only[Dr];lia)];rfl
 |x::l,arr,o,d,h,k=>by
  rw[AO] at h;rw[OC,IY,iG l _ o (d+1) (by rw[Array.size_setIfInBounds];lia) k,AO]
  by_cases h1:k=o+d
  .subst h1
   rw[AC (by lia),AF (by lia),T0,Array.getElem?_setIfInBounds_self_of_lt (by lia)]
   rfl
  .by_cases h2:o+(d+1)<=k/\k<o+(d+1)+l.length
   .rw[AF h2,AF (by lia),show k-(o+d)=(k-(o+(d+1)))+1 by lia,OL]
   .rw[AC h2,AC (by lia),Array.getElem?_setIfInBounds_ne (by lia)]
noncomputable def wb (arr:Aw AH)(o:Ai)(m:Aw AH):Aw AH:=m.toList.zipIdx.foldl (λa p=>a.setIfInBounds (o+p.2) p.1) arr
theorem GQ {o:Ai}(h:o+m.size<=arr.size)(k:Ai):(wb arr o m).getD k nv=if o<=k/\k<o+m.size then m.getD (k-o) nv else arr.getD k nv:=by
 have e:=iG m.toList arr o 0 (by simpa using h) k
 simp only[TD,A6,A9] at e;rw[Dg,Dg,Dg];unfold wb;rw[e]
 split <;> rfl
theorem GR {o:Ai}(h:o+m.size<=arr.size):(wb arr o m).toList=arr.toList.take o++(m.toList++arr.toList.drop (o+m.size)):=by
 apply Of;intro k;have e:=iG m.toList arr o 0 (by simpa using h) k
 simp only[TD,A6,A9] at e;unfold wb;rw[A9,e];have lt:(arr.toList.take o).length=o:=by rw[CO,A6];lia
 by_cases h1:k<o
 .rw[AC (by lia),AY (by lia),Je h1,A9]
 .rw[Bf (by lia),lt]
  by_cases h2:k<o+m.size
  .rw[AF (by lia),AY (by rw[A6];lia),A9]
  .rw[AC (by lia),Bf (by rw[A6];lia),Tf,A6,A9]
   congr 1
   lia
theorem GS {o:Ai}(h:o+n<=arr.size)(p:m.toList.Perm (arr.extract o (o+n)).toList):(wb arr o m).toList.Perm arr.toList:=by
 have hm:m.size=n:=by
  have:=p.length_eq;rw[A6,A6,Gv] at this
  lia
 rw[GR (by lia),hm]
 have e:arr.toList=arr.toList.take o++((arr.extract o (o+n)).toList++arr.toList.drop (o+n)):=by rw[bC,Kx]
 conv=>rhs;rw[e]
 exact Ha _ (Ih _ p)
def Seg (r:AH->Am)(a:Aw AH)(lo n:Ai):Prop:=∀ i j,lo<=i->i<=j->j<lo+n->r (a.getD i nv)<=r (a.getD j nv)
theorem eZ {r:AH->Am}{a:Aw AH}(h:Seg r a lo n){i k:Ai}(h1:lo<=i)(h2:i+k<=lo+n)(h3:i+k<=a.size):(a.extract i (i+k)).toList.Pairwise (Le r):=by
 rw[Hj];intro x y hx hy l;have hx':x<k:=by rw[A6,Gv] at hx;lia
 have hy':y<k:=by rw[A6,Gv] at hy;lia
 have e:=h (i+x) (i+y) (by lia) (by lia) (by lia)
 have q1:i+x<a.size:=by lia
 have q2:i+y<a.size:=by lia
 simpa [Ek,q1,q2,Le] using e
theorem d3 {a:Aw AH}{i k m:Ai}(h:m<k)(h3:i+k<=a.size):(a.extract i (i+k)).getD m nv=a.getD (i+m) nv:=by
 have q1:i+m<a.size:=by lia
 have q2:m<(a.extract i (i+k)).size:=by rw[Gv];lia
 have q3:m<min (i+k) a.size-i:=by lia
 simp[Ek,q1,q3]
theorem XT {a:Aw AH}{i j k:Ai}(h1:i<=j)(h2:j<=k):(a.extract i j).toList++(a.extract j k).toList=(a.extract i k).toList:=by
 rw[<- Cb,Array.extract_append_extract]
 congr 2 <;> lia
section
variable {prog:A5}{w:AL}{A:AK}{E:Ac->Ag->Prop}{s:Ag}{κ : Ja}{U:AH->Prop}{r:AH->Am}
theorem GT {M:Im}{σ:Type}{Q:PUnit->σ->Prop}{st st':σ}(h:Q ⟨⟩ st'):wpS M A E s (set st':Kw σ Il PUnit) Q st:=by
 unfold wpS;rw[StateT.run_set];exact Ak ⟨rfl,h⟩
theorem rC (C:Cm (Ar prog w) A s κ U r){i sa na pw nb pz:Ai}{Q:Ap->Dz->Prop}{arr:Aw AH}{pd:Aw (Ai × Ai × Ai)}{g:Ai}(ua:∀ x∈arr.toList,U x)(e1:pd[i]? = Ab (sa,na,pw))(e2:pd[i+1]? = Ab (sa+na,nb,pz))(p1:0<na)(p2:0<nb)(hz:sa+na+nb<=arr.size)
  (s1:Seg r arr sa na) (s2:Seg r arr (sa+na) nb)
  (h:∀ arr' g,arr'.toList.Perm arr.toList->(∀ k,k<sa\/sa+na+nb<=k->arr'.getD k nv=arr.getD k nv)->Seg r arr' sa (na+nb)->Q true (Bt κ arr' ((pd.setIfInBounds i (sa,na+nb,pw)).eraseIdxIfInBounds (i+1)) g none)) :
  wpS (Ar prog w) A E s (mergeAt' i) Q (Bt κ arr pd g none):=by
 refine A3 (Js ?_);dsimp only;rw[e1,e2];dsimp only;refine A3 (GT ?_);refine A3 (zB (i:=sa+na) (by omega) ?_)
 refine A3 (XX C rfl (by omega) (by omega) (λi hi=>ua _ (zM (by omega))) (ua _ (zM (by omega))) (λi j a b=>s1 _ _ (by omega) (by omega) (by omega)) λk k1 k2 k3=>?_)
 dsimp only;refine qM (λe=>AE (h arr g (Jw _) (λ_ _=>rfl) λi j a b c=>?_)) λe=>?_
 .have e:na-k=0:=by simpa using e
  by_cases q1:j<sa+na
  .exact s1 i j a b q1
  .by_cases q2:sa+na<=i
   .exact s2 i j q2 b (by omega)
   .have:=k2 (i-sa) (by omega)
    rw[show sa+(i-sa)=i by omega] at this
    exact Dm this (s2 _ _ (Aq _) (by omega) (by omega))
 have e:¬ na-k=0:=by simpa using e
 refine A3 (zB (i:=sa+k+(na-k)-1) (by omega) ?_)
 refine A3 (XY C rfl (by omega) (by omega) (λi hi=>ua _ (zM (by omega))) (ua _ (zM (by omega))) (λi j a b=>s2 _ _ (by omega) (by omega) (by omega)) λm m1 m2 m3=>?_)
 dsimp only;rw[show sa+k+(na-k)-1=sa+na-1 by omega] at m2 m3
 have hk3:=k3 k (Aq _) (by omega)
 refine qM (λe=>?_) λe'=>?_
 .exfalso
  have e:m=0:=by simpa using e
  subst e;have q1:=m3 0 (Aq _) p2;have q2:=s1 (sa+k) (sa+na-1) (by omega) (by omega) (by omega)
  rw[TD] at q1;omega
 have e':¬ m=0:=by simpa using e'
 have ex:arr.extract (sa+k) (sa+na)=arr.extract (sa+k) (sa+k+(na-k)):=by rw[show sa+k+(na-k)=sa+na by omega]
 have zx:(arr.extract (sa+k) (sa+na)).size=na-k:=by rw[Gv];omega
 have zy:(arr.extract (sa+na) (sa+na+m)).size=m:=by rw[Gv];omega
 have gx:∀ i,i<na-k->(arr.extract (sa+k) (sa+na)).getD i nv=arr.getD (sa+k+i) nv:=λi hi=>by rw[ex];exact d3 hi (by omega)
 have gy:∀ i,i<m->(arr.extract (sa+na) (sa+na+m)).getD i nv=arr.getD (sa+na+i) nv:=λi hi=>d3 hi (by omega)
 have px:(arr.extract (sa+k) (sa+na)).toList.Pairwise (Le r):=by rw[ex];exact eZ s1 (by omega) (by omega) (by omega)
 have py:(arr.extract (sa+na) (sa+na+m)).toList.Pairwise (Le r):=eZ s2 (by omega) (by omega) (by omega)
 have mx:∀ x∈(arr.extract (sa+k) (sa+na)).toList,∃ j,sa+k<=j/\j<sa+na/\x=arr.getD j nv:=λx hx=>by
  obtain⟨j,q1,q2,q3,q4⟩:=kJ (by omega) hx
  exact⟨j,q1,q2,q4⟩
 have my:∀ x∈(arr.extract (sa+na) (sa+na+m)).toList,∃ j,sa+na<=j/\j<sa+na+m/\x=arr.getD j nv:=λx hx=>by
  obtain⟨j,q1,q2,q3,q4⟩:=kJ (by omega) hx
  exact⟨j,q1,q2,q4⟩
 have lox:∀ x∈(arr.extract (sa+k) (sa+na)).toList,r (arr.getD (sa+na) nv)<=r x/\r x<=r (arr.getD (sa+na-1) nv):=λx hx=>by
  obtain⟨j,q1,q2,rfl⟩:=mx x hx;have:=s1 (sa+k) j (by omega) q1 q2
  exact⟨by omega,s1 j _ (by omega) (by omega) (by omega)⟩
 have loy:∀ x∈(arr.extract (sa+na) (sa+na+m)).toList,r (arr.getD (sa+na) nv)<=r x/\r x<=r (arr.getD (sa+na-1) nv):=λx hx=>by
  obtain⟨j,q1,q2,rfl⟩:=my x hx;have:=m2 (j-(sa+na)) (by omega)
  rw[show sa+na+(j-(sa+na))=j by omega] at this
  exact⟨s2 _ _ (Aq _) q1 (by omega),by omega⟩
 have fin:∀ mg g',Mo r ((arr.extract (sa+k) (sa+na)).toList++(arr.extract (sa+na) (sa+na+m)).toList) mg->Q true (Bt κ (wb arr (sa+k) mg) ((pd.setIfInBounds i (sa,na+nb,pw)).eraseIdxIfInBounds (i+1)) g' none):=by
  intro mg g' M;have ej:(arr.extract (sa+k) (sa+na)).toList++(arr.extract (sa+na) (sa+na+m)).toList=(arr.extract (sa+k) (sa+k+(na-k+m))).toList:=by
   rw[XT (by omega) (by omega),show sa+k+(na-k+m)=sa+na+m by omega]
  have hm:mg.size=na-k+m:=by
   have:=M.pm.length_eq;rw[AT,A6,A6,A6,zx,zy] at this;exact this
  have gd:=λj=>GQ (arr:=arr) (m:=mg) (o:=sa+k) (by omega) j
  refine h _ g' (GS (n:=na-k+m) (by omega) (ej▸M.pm)) (λj hj=>?_) λi j a b c=>?_
  .rw[gd,AC (by omega)]
  .have bd:∀ j,sa+k<=j->j<sa+na+m->r (arr.getD (sa+na) nv)<=r (mg.getD (j-(sa+k)) nv)/\r (mg.getD (j-(sa+k)) nv)<=r (arr.getD (sa+na-1) nv):=λj h1 h2=>by
    have:=M.pm.mem_iff.mp (zM (a:=mg) (i:=j-(sa+k)) (by omega))
    rcases Ba.mp this with q|q
    .exact lox _ q
    .exact loy _ q
   rw[gd,gd,hm];by_cases i1:i<sa+k
   .rw[AC (by omega)]
    have u:=k2 (i-sa) (by omega)
    rw[show sa+(i-sa)=i by omega] at u
    by_cases j1:j<sa+k
    .rw[AC (by omega)];exact s1 i j a b (by omega)
    .by_cases j2:j<sa+na+m
     .rw[AF (by omega)];exact Dm u (bd j (by omega) j2).1
     .rw[AC (by omega)];exact Dm u (s2 _ _ (Aq _) (by omega) (by omega))
   .by_cases i2:i<sa+na+m
    .rw[AF (by omega)]
     by_cases j2:j<sa+na+m
     .rw[AF (by omega)];exact wU M.up (by omega) (by omega)
     .rw[AC (by omega)]
      have v:=m3 (j-(sa+na)) (by omega) (by omega)
      rw[show sa+na+(j-(sa+na))=j by omega] at v
      exact Dm (bd i (by omega) i2).2 v
    .rw[AC (by omega),AC (by omega)]
     exact s2 i j (by omega) b (by omega)
 have ux:∀ x∈(arr.extract (sa+k) (sa+na)).toList,U x:=λx hx=>by obtain⟨j,q1,q2,rfl⟩:=mx x hx;exact ua _ (zM (by omega))
 have uy:∀ x∈(arr.extract (sa+na) (sa+na+m)).toList,U x:=λx hx=>by obtain⟨j,q1,q2,rfl⟩:=my x hx;exact ua _ (zM (by omega))
 have y0:(arr.extract (sa+na) (sa+na+m)).getD 0 nv=arr.getD (sa+na) nv:=gy 0 (by omega)
 have xl:(arr.extract (sa+k) (sa+na)).getD ((arr.extract (sa+k) (sa+na)).size-1) nv=arr.getD (sa+na-1) nv:=by rw[zx,gx _ (by omega)];congr 1;omega
 refine qM (λ_=>?_) λ_=>?_
 .refine A3 (rE C rfl ux uy px py (λmg g' M=>?_) (by rw[zx];omega) (by rw[zy];omega) ?_ λx hx=>?_)
  .refine A3 (Hc (A3 (Js (AE ?_))))
   exact fin mg g' M
  .rw[y0];exact(lox _ (zM (by rw[zx];omega))).1
  .rw[xl];exact(loy x hx).2
 .refine A3 (rD C rfl ux uy px py (λmg g' M=>?_) (by rw[zx];omega) (by rw[zy];omega) (λx hx=>?_) ?_)
  .refine A3 (Hc (A3 (Js (AE ?_))))
   exact fin mg g' M
  .rw[y0];exact(lox x hx).1
  .rw[xl];exact(loy _ (zM (by rw[zy];omega))).2
end
noncomputable def mir (a:Aw AH)(i j:Ai):Aw AH:=mirror a i j ((j-i)/2)
theorem wN {a:Aw AH}{i j:Ai}(hj:j<=a.size)(k:Ai):(mir a i j).getD k nv=if i<=k/\k<j then a.getD (i+j-1-k) nv else a.getD k nv:=by
 rw[Dg,Dg,Dg];unfold mir;rw[getElem?_mirror_all hj]
 split <;> rfl
structure Cr (a b:Aw AH)(lo n:Ai):Prop where
 pm:b.toList.Perm a.toList
 out:∀ k,k<lo\/lo+n<=k->b.getD k nv=a.getD k nv
theorem Cr.z {a b:Aw AH}(h:Cr a b lo n):b.size=a.size:=by
 have:=h.pm.length_eq;simpa using this
theorem Cr.rfl' {a:Aw AH}:Cr a a lo n:=⟨Jw _,λ_ _=>rfl⟩
theorem Cr.mir {a b:Aw AH}{i j:Ai}(h:Cr a b lo n)(h1:lo<=i)(h2:j<=lo+n)(h3:j<=a.size):Cr a (mir b i j) lo n:=
 ⟨(Nn.mp (mirror_perm _ _ _ _)).trans h.pm,λk hk=>by rw[wN (by rw[h.z];exact h3),AC (by lia)];exact h.out k hk⟩
def Dsg (r:AH->Am)(a:Aw AH)(lo n:Ai):Prop:=∀ i j,lo<=i->i<=j->j<lo+n->r (a.getD j nv)<=r (a.getD i nv)
theorem YD {r:AH->Am}{a:Aw AH}(h:Seg r a lo n)(h1:1<=n)(l:r (a.getD (lo+n-1) nv)<=r (a.getD (lo+n) nv)):Seg r a lo (n+1):=λi j h2 h3 h4=>by
 by_cases q:j<lo+n
 .exact h i j h2 h3 q
 .have:j=lo+n:=by lia
  subst this;by_cases q2:i=lo+n
  .subst q2;exact Jb _
  .exact Dm (h i (lo+n-1) h2 (by lia) (by lia)) l
theorem vP {r:AH->Am}{a:Aw AH}(h:Dsg r a lo n)(h1:1<=n)(l:r (a.getD (lo+n) nv)<=r (a.getD (lo+n-1) nv)):Dsg r a lo (n+1):=λi j h2 h3 h4=>by
 by_cases q:j<lo+n
 .exact h i j h2 h3 q
 .have:j=lo+n:=by lia
  subst this;by_cases q2:i=lo+n
  .subst q2;exact Jb _
  .exact Dm l (h i (lo+n-1) h2 (by lia) (by lia))
theorem h9 {r:AH->Am}{a:Aw AH}:Seg r a lo 1:=λi j h2 h3 h4=>by
 have:i=j:=by lia
 subst this;exact Jb _
theorem UP {r:AH->Am}{a:Aw AH}:Dsg r a lo 1:=λi j h2 h3 h4=>by
 have:i=j:=by lia
 subst this;exact Jb _
def ZU (r:AH->Am)(a:Aw AH)(lo n q:Ai):Prop:=q+1<=n/\∀ k,lo+n-(q+1)<=k->k<lo+n->r (a.getD k nv)=r (a.getD (lo+n-1) nv)
set_option tactic.hygienic true in
theorem kA {r:AH->Am}{a:Aw AH}{q:Ai}(hn:lo+n<=a.size)(h:ZU r a lo n q)(k:Ai):r ((mir a (lo+n-(q+1)) (lo+n)).getD k nv)=r (a.getD k nv):=by
 rw[wN hn];have:=h.1
 split
 .rename_i c
  rw[h.2 k (by lia) c.2,h.2 _ (by lia) (by lia)]
 .rfl
theorem UO {r:AH->Am}{a:Aw AH}(hn:lo+n<=a.size)(h:Dsg r a lo n):Seg r (mir a lo (lo+n)) lo n:=λi j h2 h3 h4=>by
 rw[wN hn,wN hn,AF (by lia),AF (by lia)]
 exact h _ _ (by lia) (by lia) (by lia)
section
variable {prog:A5}{w:AL}{A:AK}{E:Ac->Ag->Prop}{s:Ag}{κ : Ja}{U:AH->Prop}{r:AH->Am}
theorem jT (C:Cm (Ar prog w) A s κ U r){i j:Ai}{arr:Aw AH}{pd:Aw (Ai × Ai × Ai)}{g:Ai}{Q:Al Ap->Dz->Prop}(ua:∀ x∈arr.toList,U x)(hi:i<arr.size)(hj:j<arr.size)
  (q:Q (Ab (decide (r (arr.getD i nv)<r (arr.getD j nv)))) (Bt κ arr pd g none)):wpS (Ar prog w) A E s (ltAt' i j) Q (Bt κ arr pd g none):=by
 refine A3 (Js ?_);exact A3 (zB hi (A3 (zB hj (C.lt (ua _ (zM hi)) (ua _ (zM hj)) rfl q))))
theorem pQ {i j:Ai}{pd:Aw (Ai × Ai × Ai)}{g:Ai}{Q:PUnit->Dz->Prop}(q:Q ⟨⟩ (Bt κ (mir arr i j) pd g none)):wpS (Ar prog w) A E s (reverseSlice' i j) Q (Bt κ arr pd g none):=Hc q
theorem nQ (C:Cm (Ar prog w) A s κ U r){lo N:Ai}{arr:Aw AH}{pd:Aw (Ai × Ai × Ai)}{g:Ai}{Q:Al Ai->Dz->Prop}(ua:∀ x∈arr.toList,U x)(h1:1<=N)(hz:lo+N<=arr.size)
  (h:∀ n b,1<=n->n<=N->Cr arr b lo N->Seg r b lo n->Q (Ab n) (Bt κ b pd g none)):wpS (Ar prog w) A E s (countRun' lo N) Q (Bt κ arr pd g none):=by
 have uc:∀ {b:Aw AH},Cr arr b lo N->∀ x∈b.toList,U x:=λh x hx=>ua x (h.pm.mem_iff.mp hx);have asc:∀ {b:Aw AH} {n:Ai} {f:Ai->Al (Al Ai) × Ai->Kw Dz Il (ForInStep (Al (Al Ai) × Ai))},Cr arr b lo N->1<=n->n<=N->Seg r b lo n ->
   (∀ x m,f x (none,m)=(ltAt' (lo+m) (lo+m-1) >>= λo=>match o with
    |some z=>if z then pure (.done (none,m)) else pure (.yield (none,m+1))
    |_=>pure (.done (Ab none,m))))->wpS (Ar prog w) A E s (forIn [n:N] (none,n) f) (λc st'=>st'=Bt κ b pd g none/\∃ m,c=(none,m)/\n<=m/\m<=N/\Seg r b lo m/\(m=N\/r (b.getD (lo+m) nv)<r (b.getD (lo+m-1) nv))) (Bt κ b pd g none):=by
  intro b n f cr hn hN sg hf;have zb:=cr.z;refine Dl (I:=λx c st'=>st'=Bt κ b pd g none/\c=(none,x)/\n<=x/\Seg r b lo x) ?_ ?_ ⟨rfl,rfl,Aq _,sg⟩
  .rintro x c st' hx1 hx ⟨rfl,rfl,hx3,sg⟩
   rw[hf];refine A3 (jT C (uc cr) (by lia) (by lia) ?_)
   by_cases l:r (b.getD (lo+x) nv)<r (b.getD (lo+x-1) nv)
   .simp only[l,Hr,Ct]
    exact AE ⟨rfl,x,rfl,hx1,by lia,sg,.inr l⟩
   .simp only[l,Hs,AR,CB]
    exact AE ⟨rfl,rfl,by lia,YD sg (by lia) (by lia)⟩
  .rintro c st' ⟨rfl,rfl,hx3,sg⟩
   rw[show max n N=N by lia] at sg ⊢
   exact⟨rfl,N,rfl,hN,Aq _,sg,.inl rfl⟩
 refine A3 (Fi (asc Cr.rfl' (Aq 1) h1 h9 λ_ _=>rfl) ?_);rintro c st' ⟨rfl,n,rfl,n1,n2,sg,nd⟩;dsimp only;refine qM (λe=>AE (h n arr n1 n2 Cr.rfl' sg)) λe=>?_;have e:¬ n=N:=by simpa using e
 have nd:r (arr.getD (lo+n) nv)<r (arr.getD (lo+n-1) nv):=by lia
 apply qM
 case' h1 =>
  intro np;refine A3 (jT C ua (by lia) (by lia) ?_)
  dsimp only;refine qM (λe=>AE (h n arr n1 n2 Cr.rfl' sg)) λl=>?_;have l:¬ r (arr.getD lo nv)<r (arr.getD (lo+n-1) nv):=by simpa using l
  refine A3 (pQ ?_);have cr:Cr arr (mir arr lo (lo+n)) lo N:=Cr.rfl'.mir (Aq _) (by lia) (by lia)
  have ds:Dsg r (mir arr lo (lo+n)) lo (n+1):=by
   refine vP (λi j a b c=>?_) n1 ?_
   .rw[wN (by lia),wN (by lia),AF (by lia),AF (by lia)]
    exact sg _ _ (by lia) (by lia) (by lia)
   .rw[wN (by lia),wN (by lia),AC (by lia),AF (by lia),show lo+(lo+n)-1-(lo+n-1)=lo by lia]
    lia
 case' h2 =>
  intro np;have cr:Cr arr arr lo N:=Cr.rfl';have ds:Dsg r arr lo (n+1):=by
   have:n=1:=by lia
   subst this;exact vP UP (Aq _) (Fm nd)
 all_goals
  refine A3 (Nr (Ex ⟨rfl,?_⟩));refine A3 (Fi (Dl (I:=λx c st'=>∃ b q,st'=Bt κ b pd g none/\c=(none,x,q)/\Cr arr b lo N/\Dsg r b lo x/\ZU r b lo x q)
   (Q:=λc st'=>∃ b m q,st'=Bt κ b pd g none/\c=(none,m,q)/\1<=m/\m<=N/\Cr arr b lo N/\Dsg r b lo m/\ZU r b lo m q) ?_ ?_ ⟨_,0,rfl,rfl,cr,ds,by lia,λk a b=>by rw[show k=lo+(n+1)-1 by lia]⟩) ?_)
  .rintro x c st' hx1 hx ⟨b,q,rfl,rfl,cr,ds,eq⟩
   dsimp only;have zb:=cr.z;refine A3 (jT C (uc cr) (by lia) (by lia) ?_)
   dsimp only;refine qM (λl=>?_) λl=>?_
   .have l:r (b.getD (lo+x) nv)<r (b.getD (lo+x-1) nv):=by simpa using l
    refine qM (λqp=>A3 (pQ (AE ⟨_,0,rfl,rfl,cr.mir (by have:=eq.1;lia) (by lia) (by lia),λi j a c d=>?_,by lia,λk a b=>by rw[show k=lo+(x+1)-1 by lia]⟩))) λqp=>AE ⟨_,0,rfl,rfl,cr,vP ds (by lia) (Fm l),by lia,λk a b=>by rw[show k=lo+(x+1)-1 by lia]⟩
    rw[kA (by lia) eq,kA (by lia) eq]
    exact vP ds (by lia) (Fm l) i j a c d
   .have l:¬ r (b.getD (lo+x) nv)<r (b.getD (lo+x-1) nv):=by simpa using l
    refine A3 (jT C (uc cr) (by lia) (by lia) ?_)
    dsimp only;refine qM (λl2=>AE ⟨b,x,q,rfl,rfl,by lia,by lia,cr,ds,eq⟩) λl2=>?_
    have l2:¬ r (b.getD (lo+x-1) nv)<r (b.getD (lo+x) nv):=by simpa using l2
    have ee:r (b.getD (lo+x) nv)=r (b.getD (lo+x-1) nv):=by lia
    refine AE ⟨b,q+1,rfl,rfl,cr,vP ds (by lia) (by lia),by have:=eq.1;lia,λk a c=>?_⟩
    rw[show lo+(x+1)-1=lo+x by lia]
    by_cases kx:k=lo+x
    .rw[kx]
    .rw[ee];exact eq.2 k (by lia) (by lia)
  .rintro c st' ⟨b,q,rfl,rfl,cr,ds,eq⟩
   rw[show max (n+1) N=N by lia] at ds eq ⊢
   exact⟨b,N,q,rfl,rfl,h1,Aq _,cr,ds,eq⟩
  .rintro c st' ⟨b,m,q,rfl,rfl,m1,m2,cr,ds,eq⟩
   dsimp only;have zb:=cr.z;apply qM
   case' h1 =>
    intro qp;refine A3 (pQ ?_);have cr2:=cr.mir (i:=lo+m-(q+1)) (j:=lo+m) (by have:=eq.1;lia) (by lia) (by lia)
    have ds2:Dsg r (mir b (lo+m-(q+1)) (lo+m)) lo m:=λi j a c d=>by
     rw[kA (by lia) eq,kA (by lia) eq]
     exact ds i j a c d
   case' h2 =>
    intro qp;have cr2:=cr;have ds2:=ds
   all_goals
    have z2:=cr2.z;refine A3 (pQ ?_);refine A3 (Fi (asc (cr2.mir (Aq _) (by lia) (by lia)) m1 m2 (UO (by lia) ds2) λ_ _=>rfl) ?_)
    rintro c st' ⟨rfl,n',rfl,q1,q2,q3,_⟩;exact AE (h n' _ (by lia) q2 (cr2.mir (Aq _) (by lia) (by lia)) q3)
end
theorem lI {a:Aw AH}{src d:Ai}(hs:src<a.size)(hd:d<=src)(k:Ai):(bubble a src d).getD k nv=if k=src-d then a.getD src nv else if src-d<k/\k<=src then a.getD (k-1) nv else a.getD k nv:=by
 simp only[Dg];rw[getElem?_bubble hs d hd]
 repeat' split
 all_goals rfl
section
variable {prog:A5}{w:AL}{A:AK}{E:Ac->Ag->Prop}{s:Ag}{κ : Ja}{U:AH->Prop}{r:AH->Am}
theorem sV (C:Cm (Ar prog w) A s κ U r){lo n ok:Ai}{arr:Aw AH}{pd:Aw (Ai × Ai × Ai)}{g:Ai}{Q:Ap->Dz->Prop}(ua:∀ x∈arr.toList,U x)(h1:ok<=n)(hz:lo+n<=arr.size)(sg:Seg r arr lo ok)
  (h:∀ b,Cr arr b lo n->Seg r b lo n->Q true (Bt κ b pd g none)):wpS (Ar prog w) A E s (binarySort' lo n ok) Q (Bt κ arr pd g none):=by
 have uc:∀ {b:Aw AH},Cr arr b lo n->∀ x∈b.toList,U x:=λh x hx=>ua x (h.pm.mem_iff.mp hx);have sg1:Seg r arr lo (max ok 1):=by
  by_cases q:ok=0
  .rw[q];exact h9
  .rw[show max ok 1=ok by lia];exact sg
 refine A3 (Fi (Dl (I:=λk c st'=>c=(none,())/\∃ b,st'=Bt κ b pd g none/\Cr arr b lo n/\Seg r b lo (min k (max ok (max n 1))))
  (Q:=λc st'=>c=(none,())/\∃ b,st'=Bt κ b pd g none/\Cr arr b lo n/\Seg r b lo n) ?_ ?_ ⟨rfl,arr,rfl,Cr.rfl',?_⟩) ?_)
 .rintro k c st' hk hkn ⟨rfl,b,rfl,cr,sg⟩
  have zb:=cr.z;rw[show min k (max ok (max n 1))=k by lia] at sg
  dsimp only;refine A3 (Fi (Dl (I:=λx c st'=>st'=Bt κ b pd g none/\∃ l u,c=(none,l,u)/\l<=u/\u<=k/\u-l<=k-x/\(∀ i,i<l->r (b.getD (lo+i) nv)<=r (b.getD (lo+k) nv))/\∀ i,u<=i->i<k->r (b.getD (lo+k) nv)<r (b.getD (lo+i) nv))
   (Q:=λc st'=>st'=Bt κ b pd g none/\∃ l u,c=(none,l,u)/\l<=k/\(∀ i,i<l->r (b.getD (lo+i) nv)<=r (b.getD (lo+k) nv))/\∀ i,l<=i->i<k->r (b.getD (lo+k) nv)<r (b.getD (lo+i) nv)) ?_ ?_
   ⟨rfl,0,k,rfl,by lia,by lia,by lia,λi hi=>by lia,λi a b=>by lia⟩) ?_)
  .rintro x c st' _ hx ⟨rfl,l,u,rfl,q1,q2,q3,q4,q5⟩
   dsimp only;refine qM (λe=>AE ⟨rfl,l,u,rfl,by lia,q4,λi a b=>q5 i (by lia) b⟩) λe=>?_
   refine A3 (jT C (uc cr) (by lia) (by lia) ?_)
   dsimp only;refine qM (λz=>?_) λz=>?_
   .have z:r (b.getD (lo+k) nv)<r (b.getD (lo+(l+u)/2) nv):=by simpa using z
    exact AE ⟨rfl,_,_,rfl,by lia,by lia,by lia,q4,λi a c=>Int.lt_of_lt_of_le z (sg _ _ (by lia) (by lia) (by lia))⟩
   .have z:¬ r (b.getD (lo+k) nv)<r (b.getD (lo+(l+u)/2) nv):=by simpa using z
    exact AE ⟨rfl,_,_,rfl,by lia,by lia,by lia,λi a=>Dm (sg _ _ (by lia) (by lia) (by lia)) (Wu.mp z),q5⟩
  .rintro c st' ⟨rfl,l,u,rfl,q1,q2,q3,q4,q5⟩
   exact⟨rfl,l,u,rfl,by lia,q4,λi a b=>q5 i (by lia) b⟩
  .rintro c st' ⟨rfl,l,u,rfl,q1,q4,q5⟩
   dsimp only;refine A3 (Hc (AE ⟨rfl,_,rfl,⟨(Nn.mp (bubble_perm _ _ _)).trans cr.pm,λj hj=>?_⟩,?_⟩))
   .show (bubble b (lo+k) (lo+k-(lo+l))).getD j nv=_
    rw[lI (by lia) (by lia),AC (by lia),AC (by lia)]
    exact cr.out j hj
   .rw[show min (k+1) (max ok (max n 1))=k+1 by lia]
    have e:∀ j,(bubble b (lo+k) (lo+k-(lo+l))).getD j nv=if j=lo+l then b.getD (lo+k) nv else if lo+l<j/\j<=lo+k then b.getD (j-1) nv else b.getD j nv:=λj=>by
     rw[lI (by lia) (by lia),show lo+k-(lo+k-(lo+l))=lo+l by lia]
    intro i j a c d;show r ((bubble b (lo+k) (lo+k-(lo+l))).getD i nv)<=r ((bubble b (lo+k) (lo+k-(lo+l))).getD j nv);rw[e,e];by_cases i1:i<lo+l
    .rw[AC (by lia),AC (by lia)]
     have u1:=q4 (i-lo) (by lia)
     rw[show lo+(i-lo)=i by lia] at u1
     by_cases j1:j<lo+l
     .rw[AC (by lia),AC (by lia)];exact sg i j a c (by lia)
     .by_cases j2:j=lo+l
      .rw[AF j2];exact u1
      .rw[AC j2,AF (by lia)];exact sg _ _ a (by lia) (by lia)
    .by_cases i2:i=lo+l
     .rw[AF i2]
      by_cases j2:j=lo+l
      .rw[AF j2];exact Jb _
      .rw[AC j2,AF (by lia)]
       have:=q5 (j-1-lo) (by lia) (by lia)
       rw[show lo+(j-1-lo)=j-1 by lia] at this
       exact Fm this
     .rw[AC i2,AF (by lia),AC (by lia),AF (by lia)]
      exact sg _ _ (by lia) (by lia) (by lia)
 .rintro c st' ⟨rfl,b,rfl,cr,sg⟩
  refine⟨rfl,b,rfl,cr,?_⟩;intro i j a c d;exact sg i j a c (by lia)
 .rw[show min (max ok 1) (max ok (max n 1))=max ok 1 by lia];exact sg1
 .rintro c st' ⟨rfl,b,rfl,cr,sg⟩
  exact AE (h b cr sg)
end
def Rn (r:AH->Am)(a:Aw AH):Aa (Ai × Ai × Ai)->Ai->Ai->Prop
 |[],x,y=>x=y
 |(s,n,_)::t,x,y=>s=x/\0<n/\Seg r a s n/\Rn r a t (x+n) y
section
variable {r:AH->Am}{a b:Aw AH}
theorem Rn.app:∀ {L1 L2:Aa (Ai × Ai × Ai)} {x y:Ai},Rn r a (L1++L2) x y↔∃ m,Rn r a L1 x m/\Rn r a L2 m y
 |[],L2,x,y=>⟨λh=>⟨x,rfl,h⟩,λ⟨m,h1,h2⟩=>by cases h1;exact h2⟩
 |(s,n,p)::t,L2,x,y=>by
  show s=x/\0<n/\Seg r a s n/\Rn r a (t++L2) (x+n) y↔∃ m,(s=x/\0<n/\Seg r a s n/\Rn r a t (x+n) m)/\Rn r a L2 m y;rw[Rn.app];exact⟨λ⟨h1,h2,h3,m,h4,h5⟩=>⟨m,⟨h1,h2,h3,h4⟩,h5⟩,λ⟨m,⟨h1,h2,h3,h4⟩,h5⟩=>⟨h1,h2,h3,m,h4,h5⟩⟩
theorem Rn.le:∀ {L:Aa (Ai × Ai × Ai)} {x y:Ai},Rn r a L x y->x+L.length<=y
 |[],x,y,h=>by cases h;simp
 |(s,n,p)::t,x,y,h=>by have:=Rn.le h.2.2.2;have:=h.2.1;simp only[AO];lia
theorem Rn.congr:∀ {L:Aa (Ai × Ai × Ai)} {x y:Ai},Rn r a L x y->(∀ k,x<=k->k<y->b.getD k nv=a.getD k nv)->Rn r b L x y
 |[],x,y,h,_=>h
 |(s,n,p)::t,x,y,h,e=>by
  obtain⟨rfl,h2,h3,h4⟩:=h;have l:=Rn.le h4;refine⟨rfl,h2,λi j a c d=>?_,Rn.congr h4 λk h1 h2=>e k (by lia) h2⟩
  rw[e i (by lia) (by lia),e j (by lia) (by lia)]
  exact h3 i j a c d
theorem Rn.mod {f:Ai × Ai × Ai->Ai × Ai × Ai}(hf:∀ u v p,∃ p',f (u,v,p)=(u,v,p')):∀ {L:Aa (Ai × Ai × Ai)} {i x y:Ai},Rn r a L x y->Rn r a (L.modify i f) x y
 |[],i,x,y,h=>by simpa using h
 |(s,n,p)::t,0,x,y,h=>by
  obtain⟨p',e⟩:=hf s n p;rw[List.modify_zero_cons,e];exact h
 |(s,n,p)::t,i+1,x,y,h=>by
  rw[List.modify_succ_cons];exact⟨h.1,h.2.1,h.2.2.1,Rn.mod hf h.2.2.2⟩
end
theorem N7 {α:Type}{l:Aa α}{i:Ai}(h:i+1<l.length):∃ L1 x y L2,l=L1++x::y::L2/\L1.length=i:=by
 refine⟨l.take i,l[i],l[i+1],l.drop (i+2),?_,by rw[CO];lia⟩
 rw[<- Fp h,<- Fp (by lia),Kx]
section
variable {prog:A5}{w:AL}{A:AK}{E:Ac->Ag->Prop}{s:Ag}{κ : Ja}{U:AH->Prop}{r:AH->Am}
theorem fE (C:Cm (Ar prog w) A s κ U r){i e:Ai}{Q:Ap->Dz->Prop}{arr:Aw AH}{pd:Aw (Ai × Ai × Ai)}{g:Ai}(ua:∀ x∈arr.toList,U x)(hi:i+1<pd.size)(R:Rn r arr pd.toList 0 e)(he:e<=arr.size)
  (h:∀ b pd' g,b.toList.Perm arr.toList->(∀ k,e<=k->b.getD k nv=arr.getD k nv)->Rn r b pd'.toList 0 e->pd'.size+1=pd.size->Q true (Bt κ b pd' g none)):wpS (Ar prog w) A E s (mergeAt' i) Q (Bt κ arr pd g none):=by
 obtain⟨L1,⟨sa,na,pa⟩,⟨sb,nb,pb⟩,L2,el,hl⟩:=N7 (l:=pd.toList) (i:=i) (by simpa using hi)
 rw[el] at R;obtain⟨m,R1,rfl,p1,s1,rfl,p2,s2,R2⟩:=Rn.app.mp R;have l2:=Rn.le R2;have e1:pd[i]? = Ab (sa,na,pa):=by
  rw[<- A9,el,<- hl,Bf (Aq _),T0];rfl
 have e2:pd[i+1]? = Ab (sa+na,nb,pb):=by
  rw[<- A9,el,<- hl,Bf (by lia),Hu];rfl
 refine rC C ua e1 e2 p1 p2 (by lia) s1 s2 λb g pm out sg=>?_
 have ep:((pd.setIfInBounds i (sa,na+nb,pa)).eraseIdxIfInBounds (i+1)).toList=L1++(sa,na+nb,pa)::L2:=by
  rw[Array.toList_eraseIdxIfInBounds,Array.toList_setIfInBounds,el,<- hl,List.set_append_right _ _ (Aq _),T0,List.set_cons_zero,List.eraseIdx_append_of_length_le (by lia),Hu]
  rfl
 refine h b _ g pm (λk hk=>out k (by lia)) ?_ ?_
 .rw[ep]
  refine Rn.app.mpr ⟨sa,R1.congr λk _ hk=>out k (by lia),rfl,by lia,sg,?_⟩
  rw[<- Xt];exact R2.congr λk hk _=>out k (by lia)
 .have:=congrArg Px ep
  have q:=congrArg Px el;simp only[A6,AT,AO] at this q
  lia
theorem nR (C:Cm (Ar prog w) A s κ U r){Q:Mx->Dz->Prop}{arr:Aw AH}{g:Ai}(ua:∀ x∈arr.toList,U x)(h2:0<arr.size)
  (h:∀ b pd g,b.toList.Perm arr.toList->b.toList.Pairwise (Le r)->Q () (Bt κ b pd g none)):wpS (Ar prog w) A E s sortRuns' Q (Bt κ arr #[] g none):=by
 have uc:∀ {b:Aw AH},b.toList.Perm arr.toList->∀ x∈b.toList,U x:=λh x hx=>ua x (h.mem_iff.mp hx);have zc:∀ {b:Aw AH},b.toList.Perm arr.toList->b.size=arr.size:=λh=>by simpa using h.length_eq
 refine A3 (Js ?_);dsimp only;refine A3 (Fi (Dl (I:=λx c st'=>∃ b pd g lo,st'=Bt κ b pd g none/\c=(none,lo)/\b.toList.Perm arr.toList/\lo<=arr.size/\min x arr.size<=lo/\Rn r b pd.toList 0 lo)
  (Q:=λc st'=>∃ b pd g,st'=Bt κ b pd g none/\c=(none,arr.size)/\b.toList.Perm arr.toList/\Rn r b pd.toList 0 arr.size) ?_ ?_ ⟨arr,#[],g,0,rfl,rfl,Jw _,by lia,by lia,rfl⟩) ?_)
 .rintro x c st' _ hx ⟨b,pd,g,lo,rfl,rfl,pm,lo1,lo2,R⟩
  have zb:=zc pm;dsimp only;refine qM (λe=>AE ⟨b,pd,g,rfl,by rw[show lo=arr.size by lia],pm,by rw[show arr.size=lo by lia];exact R⟩) λe=>?_
  refine A3 (nQ C (uc pm) (by lia) (by lia) λn b2 n1 n2 cr sg=>?_)
  have R2:Rn r b2 pd.toList 0 lo:=R.congr λk _ hk=>cr.out k (.inl hk);have pm2:=cr.pm.trans pm;have z2:=zc pm2;dsimp only;apply qM
  case' h1 =>
   intro lt;refine A3 (Nr (Ex ⟨rfl,?_⟩));refine A3 (sV C (uc pm2) (by lia) (by lia) sg λb3 cr3 sg3=>?_)
   have R3:Rn r b3 pd.toList 0 lo:=R2.congr λk _ hk=>cr3.out k (.inl hk);have pm3:=cr3.pm.trans pm2;refine qM (λe=>by simp at e) λ_=>?_
   have n3:lo+min (arr.size-lo) ((sortPriv% PySem.Builtin.minRun) arr.size arr.size 0)<=arr.size:=by lia
   have n4:0<min (arr.size-lo) ((sortPriv% PySem.Builtin.minRun) arr.size arr.size 0):=by lia
  case' h2 =>
   intro lt;have R3:=R2;have pm3:=pm2;have sg3:=sg;have n3:lo+n<=arr.size:=by lia
   have n4:0<n:=n1
  all_goals
   refine A3 (Js ?_);dsimp only;rcases hb:pd.back? with _|⟨s1,l1,p1⟩
   .dsimp only
    refine A3 (Hc (AE ⟨_,_,_,_,rfl,rfl,pm3,n3,by lia,?_⟩))
    show Rn r _ (pd.push _).toList 0 _;rw[CL];exact Rn.app.mpr ⟨lo,R3,rfl,n4,sg3,rfl⟩
   .dsimp only
    refine A3 (Fi (Dl (I:=λ_ c st'=>c=(none,())/\∃ b pd g,st'=Bt κ b pd g none/\b.toList.Perm arr.toList/\Rn r b pd.toList 0 lo/\Seg r b lo _)
     (Q:=λc st'=>c=(none,())/\∃ b pd g,st'=Bt κ b pd g none/\b.toList.Perm arr.toList/\Rn r b pd.toList 0 lo/\Seg r b lo _) ?_ (λ_ _ z=>z) ⟨rfl,_,pd,g,rfl,pm3,R3,sg3⟩) ?_)
    .rintro y c st' _ hy ⟨rfl,b,pd,g,rfl,pm,R,sg⟩
     have zb:=zc pm;refine A3 (Js ?_);dsimp only;by_cases hp:pd.size>1
     .rw[AF hp]
      rcases hq:pd[pd.size-2]? with _|⟨u,v,old⟩
      .exact AE ⟨rfl,b,pd,g,rfl,pm,R,sg⟩
      .dsimp only
       refine qM (λ_=>AE ⟨rfl,b,pd,g,rfl,pm,R,sg⟩) λ_=>?_;refine A3 (fE C (uc pm) (by lia) R (by lia) λb' pd' g' p' out R' _=>?_)
       refine qM (λe=>by simp at e) λ_=>AE ⟨rfl,b',pd',g',rfl,p'.trans pm,R',λi j a c d=>?_⟩
       rw[out i a,out j (by lia)]
       exact sg i j a c d
     .rw[AC hp]
      exact AE ⟨rfl,b,pd,g,rfl,pm,R,sg⟩
    .rintro c st' ⟨rfl,b,pd,g,rfl,pm,R,sg⟩
     dsimp only;refine A3 (Hc (A3 (Hc (AE ⟨_,_,_,_,rfl,rfl,pm,n3,by lia,?_⟩))))
     show Rn r b ((pd.modify (pd.size-1) _).push _).toList 0 _;rw[CL,Array.toList_modify];exact Rn.app.mpr ⟨lo,Rn.mod (λ_ _ _=>⟨_,rfl⟩) R,rfl,n4,sg,rfl⟩
 .rintro c st' ⟨b,pd,g,lo,rfl,rfl,pm,lo1,lo2,R⟩
  have:lo=arr.size:=by lia
  subst this;exact⟨b,pd,g,rfl,rfl,pm,R⟩
 .rintro c st' ⟨b,pd,g,rfl,rfl,pm,R⟩
  dsimp only;have hl:=R.le;rw[A6] at hl;refine A3 (Fi (Dl (I:=λx c st'=>c=(none,())/\∃ b pd g,st'=Bt κ b pd g none/\b.toList.Perm arr.toList/\Rn r b pd.toList 0 arr.size/\(pd.size<=1\/pd.size+x<=arr.size))
   (Q:=λc st'=>c=(none,())/\∃ b pd g,st'=Bt κ b pd g none/\b.toList.Perm arr.toList/\Rn r b pd.toList 0 arr.size/\pd.size<=1) ?_ ?_ ⟨rfl,b,pd,g,rfl,pm,R,by lia⟩) ?_)
  .rintro x c st' _ hx ⟨rfl,b,pd,g,rfl,pm,R,hs⟩
   have zb:=zc pm;refine A3 (Js ?_);dsimp only;refine qM (λe=>AE ⟨rfl,b,pd,g,rfl,pm,R,e⟩) λe=>?_;refine A3 (fE C (uc pm) ?_ R (by lia) λb' pd' g' p' out R' z'=>?_)
   .have e:¬ pd.size<=1:=e
    have q:∀ (c:Prop) [He c],(if c then pd.size-2-1 else pd.size-2)+1<pd.size:=λc _=>by split <;> lia
    exact q _
   exact qM (λe=>by simp at e) λ_=>AE ⟨rfl,b',pd',g',rfl,p'.trans pm,R',by lia⟩
  .rintro c st' ⟨rfl,b,pd,g,rfl,pm,R,hs⟩
   exact⟨rfl,b,pd,g,rfl,pm,R,by lia⟩
  .rintro c st' ⟨rfl,b,pd,g,rfl,pm,R,hs⟩
   have zb:=zc pm;refine AE (h b pd g pm ?_);have hs:pd.toList.length<=1:=by simpa using hs
   revert R hs
   cases pd.toList with
   |nil=>intro R;have:0=arr.size:=R;lia
   |cons q t =>
    obtain⟨s0,n0,p0⟩:=q;intro R hs;have:t=[]:=by cases t with|nil=>rfl|cons _ _=>simp at hs
    subst this;obtain⟨rfl,_,sg,e⟩:=R;have e:n0=arr.size:=by have:0+n0=arr.size:=e;lia
    subst e;rw[Hj];intro i j hi hj l;have hi':i<b.size:=by simpa using hi
    have hj':j<b.size:=by simpa using hj
    have:=sg i j (by lia) (by lia) (by lia)
    simpa [Ek,hi',hj',Le] using this
end
structure Cmps (prog:A5)(w:AL)(h0:AB)(vs:Aa Ac)(f:Ai->Ai->Ap):Prop where
 ex:∃ κ,∀ (A:AK),A.units+8<Ee->∀ (s:Ag),Sup h0 s.heap->(∀ (Q:Ja->Ag->Prop) (E:Ac->Ag->Prop),Q κ s->Ao (Ar prog w) A (keyKind' vs.toArray) Q E s)/\∀ i j (C:Ap->Ag->Prop),i<vs.length->j<vs.length->C (f i j) s->kas_ask prog w A κ vs i j C s
open Classical in
def kV {K:Type}(is:K->Ac->Prop)(d:K)(v:Ac):K:=if h:∃ k,is k v then choose h else d
open Classical in
theorem nZ {K:Type}{is:K->Ac->Prop}{d:K}{v:Ac}(h:∃ k,is k v):is (kV is d v) v:=by
 unfold kV;rw[dif_pos h];exact choose_spec h
section
variable {prog:A5}{w:AL}{A:AK}{E:Ac->Ag->Prop}{s:Ag}
theorem LP {K:Type}{is:K->Ac->Prop}{lt':K->K->Ap}{d:K}(O:Ord lt')(inj:∀ {k k':K} {v:Ac},is k v->is k' v->k=k'){a:Af}{vs:Aa Ac}{ks:Aa K}{n:Ai}{h0:AB}{P:Zb->Ag->Prop}(hlen:vs.length=ks.length)(hks:∀ i v,vs[i]? = Ab v->is (ks.getD i d) v)(ho:s.heap.get? a=Ab (Er "list" vs.toArray n))(hu:A.units+8<Ee)(hz:vs.length<=100000)(c:2<=vs.length->Cmps prog w h0 vs (lD lt' ks d))(hS:Sup h0 s.heap)(ha:h0.get? a=none)
  (h:∀ ps:Aa (K × Ac),ps.Perm (ks.zip vs)->Nf lt' (ps.map (·.1))->P (.done (.ret .none)) { s with heap:=sortedHeap s.heap a vs (ps.map (·.2)).toArray }) : Ao (Ar prog w) A (Fq.«list.sort» ⟨[.ref a],[]⟩) P E s:=by
 rw[list_sort_plain];have hb:a<s.heap.objs.size:=Az ho;have hsz:vs.toArray.size=vs.length:=by simp
 refine Ad (listItems_at ho rfl (Ad (listUpdate_at ho rfl ?_ (by rw[hsz,Dj];lia) (Dp _))))
 obtain⟨e1,ho1⟩:∃ e1,(s.heap.update a (Dn λ_=>#[])).get? a=Ab (Er "list" #[] e1):=⟨_,Pm ho (λ_=>#[])⟩;refine Ad (seqEpoch_at ho1 rfl (Ad (Qt (Ad (wpAny_newList (Cu ?_) (Dp _))) (by show vs.length<=_;rw[Dj];lia))))
 have ho6:(((s.heap.update a (Dn λ_=>#[])).push (Er "tuple" vs.toArray 0)).push (Er "list" #[] 0)).get? a=Ab (Er "list" #[] e1):=
  Ah _ (Ah _ ho1)
 have S6:Sup h0 (((s.heap.update a (Dn λ_=>#[])).push (Er "tuple" vs.toArray 0)).push (Er "list" #[] 0)):=λb o e =>
  Ah _ (Ah _ ((Cf _ _ (λz:a=b=>by rw[<- z,ha] at e;cases e)).trans (hS b o e)))
 show Ao (Ar prog w) A _ P E { s with heap:=((s.heap.update a (Dn λ_=>#[])).push (Er "tuple" vs.toArray 0)).push (Er "list" #[] 0) }
 dsimp only;have fin:∀ (st':Dz) (ps:Aa (K × Ac)),(arrOf st').map (·.2)=(ps.map (·.2)).toArray->failedOf st'=none->ps.Perm (ks.zip vs)->Nf lt' (ps.map (·.1))->Ao (Ar prog w) A (do
   let touched:=(<- seqEpoch a) != e1
   Yh (.ref a) λ_=>(arrOf st').map (·.2)
   if let Ab e:=failedOf st' then rule "list.sort.comparison-raised";throw e
   if touched then rule "list.sort.modified";raiseError "ValueError" "list modified during sort"
   ret .none) P E { s with heap:=((s.heap.update a (Dn λ_=>#[])).push (Er "tuple" vs.toArray 0)).push (Er "list" #[] 0) }:=by
  intro st' ps h1 h2 h3 h4;have hl:(ps.map (·.2)).length=vs.length:=by rw[A4,h3.length_eq,Jc,hlen,Tt]
  refine Ad (seqEpoch_at ho6 rfl ?_);rw[h1];refine Ad (listUpdate_at ho6 rfl ?_ (Dp _) (by show (ps.map (·.2)).toArray.size<=_;rw[AD,hl,Dj];lia))
  rw[h2];simp only[bne_self_eq_false,AR,CB];exact Ak (h ps h3 h4)
 by_cases h2:vs.toArray.size<2
 .rw[AF h2,AF h2]
  refine Ad (Ak ?_);rw[StateT.run_pure];refine Ad (Ak ?_);refine fin (Bt general' (vs.toArray.zip vs.toArray) #[] 7 none) (ks.zip vs) ?_ rfl (Jw _) ?_
  .show (vs.toArray.zip vs.toArray).map (·.2)=_
   apply Vo.mp;simp[List.map_snd_zip,hlen]
  .rw[Vp (by lia)]
   match ks,hlen with
   |[],_=>exact Jy
   |[_],_=>exact OO _ _
   |_::_::_,e=>simp at e h2;lia
 .rw[AC h2,AC h2]
  have h2':2<=vs.length:=by lia
  obtain⟨κ,C⟩:=c h2';obtain⟨k1,k2⟩:=C A hu { s with heap:=((s.heap.update a (Dn λ_=>#[])).push (Er "tuple" vs.toArray 0)).push (Er "list" #[] 0) } S6
  have kv:∀ i,i<vs.length->kV is d (vs.getD i Bs)=ks.getD i d:=λi hi=>by
   have q:=hks i (vs.getD i Bs) (by rw[No,Au hi];rfl)
   exact inj (nZ ⟨_,q⟩) q
  have km:∀ i,i<vs.length->ks.getD i d∈ks:=λi hi=>by
   have:i<ks.length:=by lia
   simp[IQ,this]
  have cm:Cm (Ar prog w) A { s with heap:=((s.heap.update a (Dn λ_=>#[])).push (Er "tuple" vs.toArray 0)).push (Er "list" #[] 0) } κ (λx=>∃ i,i<vs.length/\x=(vs.getD i Bs,vs.getD i Bs)) (λx=>kQ lt' ks (kV is d x.1)):=by
   refine⟨?_⟩;rintro x y ⟨i,hi,rfl⟩ ⟨j,hj,rfl⟩ E Q st hk q;rw[lt'_eq];refine A3 (Js ?_);rw[hk];rw[kv i hi,kv j hj,<- sA O (km i hi)] at q;refine A3 (Nr (Gm (Ff (k2 i j (λb s'=>s'=_/\b=lD lt' ks d i j) hi hj ⟨rfl,rfl⟩) ?_ λ_ _ e=>e.elim)));rintro b s' ⟨rfl,rfl⟩;exact⟨rfl,AE q⟩
  have pl:(vs.toArray.zip vs.toArray).toList=(Be vs.length).map λi=>(vs.getD i Bs,vs.getD i Bs):=by
   apply OE
   .simp
   .intro i h1 h2
    have:i<vs.length:=by simpa using h2
    simp[this]
  refine Ad (k1 _ _ ?_);refine Ad (Ff (nR (E:=E) (Q:=λ_ st'=>∃ b pd g,st'=Bt κ b pd g none/\b.toList.Perm (vs.toArray.zip vs.toArray).toList/\b.toList.Pairwise (Le λx=>kQ lt' ks (kV is d x.1))) cm (arr:=vs.toArray.zip vs.toArray) (g:=7) ?_ ?_ λb pd g p q=>⟨b,pd,g,rfl,p,q⟩) ?_ λ_ _ e=>e)
  .intro x hx
   rw[pl] at hx;obtain⟨i,hi,rfl⟩:=Bl.mp hx;exact⟨i,De.mp hi,rfl⟩
  .simp;lia
  .rintro⟨⟨⟩,st'⟩ s' ⟨rfl,b,pd,g,rfl,pm,up⟩
   refine fin _ (b.toList.map λx=>(kV is d x.1,x.2)) ?_ rfl ?_ ?_
   .show b.map (·.2)=_
    apply Vo.mp;simp
   .refine(pm.map _).trans ?_
    rw[pl,EQ];have:ks.zip vs=(Be vs.length).map λi=>(ks.getD i d,vs.getD i Bs):=by
     apply OE
     .simp[hlen]
     .intro i h1 h2
      have h3:i<vs.length:=by simpa using h2
      have h4:i<ks.length:=by lia
      simp[h3,h4]
    rw[this];refine List.Perm.of_eq (Sg λi hi=>?_);show (kV is d (vs.getD i Bs),_)=_;rw[kv i (De.mp hi)]
   .unfold Nf
    rw[EQ,Fd];refine up.imp_of_mem λ{x y} hx hy h=>?_;have hx:=pm.mem_iff.mp hx;have hy:=pm.mem_iff.mp hy;rw[pl] at hx hy;obtain⟨i,hi,rfl⟩:=Bl.mp hx;obtain⟨j,hj,rfl⟩:=Bl.mp hy;have h:kQ lt' ks (kV is d (vs.getD i Bs))<=kQ lt' ks (kV is d (vs.getD j Bs)):=h;show lt' (kV is d (vs.getD j Bs)) (kV is d (vs.getD i Bs))=false;have hj:=De.mp hj;rw[sA O (ks:=ks) (by rw[kv j hj];exact km j hj)]
    exact Cc (by lia)
end
section
variable {prog:A5}{w:AL}{h0:AB}
theorem JN {A:AK}{s:Ag}{b:Ap}{Q:Ap->Ag->Prop}:∀ {xs ys:Aa Am} {us vs:Aa Ac} {i:Ai} {N M:Ai},ItemsAre (A8 prog w) xs us->ItemsAre (A8 prog w) ys vs->N+ys.length=M+xs.length->Q (_H.lexLt xs ys) s->KatLex prog w A b (decide (N<M)) Q (us.zip vs) i s:=by
 intro xs ys us vs i N M hx
 induction hx generalizing ys vs i with
 |nil =>
  intro hy hl h;cases hy with
  |nil =>
   have:decide (N<M)=false:=Cc (by simp at hl;lia)
   rw[this];exact h
  |@cons k v ys vs q r =>
   have:decide (N<M)=true:=Bm (by simp at hl;lia)
   rw[this];exact h
 |@cons x u xs us qx rx ih =>
  intro hy hl h;cases hy with
  |nil =>
   have:decide (N<M)=false:=Cc (by simp at hl;lia)
   rw[this];exact h
  |@cons y v ys vs qy ry =>
   obtain⟨t,rfl⟩:=wX (prog:=prog) (w:=w) qx;obtain⟨t',rfl⟩:=wX (prog:=prog) (w:=w) qy;rw[List.zip_cons_cons];refine kat_cons (Uv ?_);rw[_H.lexLt_cons] at h;refine kat_go (λe=>kat_yes ?_) λe=>kat_no ?_
   .rw[AF (by simpa using e)] at h
    exact ih ry (by simp at hl;lia) h
   .rw[AC (by simpa using e)] at h
    cases b&&i == 0 with
    |true=>exact oneLt_int h
    |false=>exact kat_one _ _ (Yw h)
theorem c8 {h:AB}:∀ {vs:Aa Ac} {ks:Aa (Aa Am)},vs.length=ks.length->(∀ i v,vs[i]? = Ab v->isT prog w h (ks.getD i []) v)->(∀ k∈ks,k≠[])->∃ fs,KatTups h vs fs/\fs.length=vs.length/\∀ f∈fs,∃ n t,f=Hg n t
 |[],[],_,_,_=>⟨[],trivial,rfl,λf hf=>by simp at hf⟩
 |v::vs,k::ks,hl,hv,hne=>by
  obtain⟨fs,a1,a2,a3⟩:=c8 (vs:=vs) (ks:=ks) (by simpa using hl) (λi u hu=>by simpa using hv (i+1) u (by simpa using hu)) λk hk=>hne k (by simp[hk])
  obtain⟨a,rfl,o,items,n,ho,hc,hd,hi⟩:=hv 0 v rfl;have hk:k≠[]:=hne k (by simp)
  have hi':ItemsAre (A8 prog w) k items.toList:=hi;cases hz:items.toList with
  |nil=>rw[hz] at hi';cases hi';exact absurd rfl hk
  |cons f qO =>
   rw[hz] at hi';cases hi' with
   |cons q _ =>
    obtain⟨t,rfl⟩:=wX (prog:=prog) (w:=w) q;refine⟨_::fs,KatTups.cons ho hc hd (by rw[<- A9,hz];rfl) a1,by simp[a2],λf hf=>?_⟩
    rcases Av.mp hf with rfl|hf
    .exact⟨_,_,rfl⟩
    .exact a3 f hf
theorem PZ {ks:Aa (Aa Am)}(hl:vs.length=ks.length)(hv:∀ i v,vs[i]? = Ab v->isT prog w h0 (ks.getD i []) v)(hne:∀ k∈ks,k≠[])(h2:2<=vs.length):Cmps prog w h0 vs (lD _H.lexLt ks []):=by
 refine⟨tuples' (Ev "int" != Ev "tuple"),λA hu s hS=>⟨λQ E h=>?_,λi j C hi hj h=>?_⟩⟩
 .obtain⟨fs,a1,a2,a3⟩:=c8 (h:=s.heap) hl (λi v hv'=>by obtain⟨a,e,q⟩:=hv i v hv';exact⟨a,e,vE hS q⟩) hne
  refine kat_kind a1 (by lia) (λv hv'=>?_) (by decide) h
  obtain⟨n,t,rfl⟩:=a3 v hv';exact Looks.of_pure rfl
 .have g:∀ k (hk:k<vs.length),∃ a,vs.getD k Bs=.ref a/\OF (A8 prog w) s.heap (ks.getD k []) a:=λk hk=>by
   obtain⟨a,e,q⟩:=hv k vs[k] (Au hk);exact⟨a,by rw[<- e];simp[IQ,hk],vE hS q⟩
  obtain⟨a,ea,oa,ia,na,ha,_,da,qa⟩:=g i hi;obtain⟨b,eb,ob,ib,nb,hb,_,db,qb⟩:=g j hj;unfold kas_ask;rw[ea,eb];refine kat_lt ha da hb db (JN qa qb ?_ h);have la:=qa.length;have lb:=qb.length;simp only[A6] at la lb
  lia
theorem PY {ks:Aa Am}(hl:vs.length=ks.length)(hv:∀ i v,vs[i]? = Ab v->isI prog w (ks.getD i 0) v)(h2:2<=vs.length):Cmps prog w h0 vs (lD ltI ks 0):=by
 have hi:∀ v∈vs,∃ n t,v=Hg n t:=λv hm=>by
  obtain⟨i,hi,e⟩:=Bv.mp hm;obtain⟨t,q⟩:=wX (hv i v (by rw[Au hi,e]))
  exact⟨_,t,q⟩
 refine⟨oneType',λA hu s hS=>⟨λQ E h=>?_,λi j C hi hj h=>?_⟩⟩
 .obtain⟨v₁,v₂,qO,rfl⟩:∃ v₁ v₂ qO,vs=v₁::v₂::qO:=by
   match vs,h2 with
   |v₁::v₂::qO,_=>exact⟨v₁,v₂,qO,rfl⟩
  rw[keyKind_ints (intsAre_map _ hi)];exact Ak h
 .have g:∀ k (hk:k<vs.length),∃ t,vs.getD k Bs=.int (ks.getD k 0) t:=λk hk=>by
   obtain⟨t,q⟩:=wX (hv k vs[k] (Au hk));exact⟨t,by rw[<- q];simp[IQ,hk]⟩
  obtain⟨t,et⟩:=g i hi;obtain⟨u,eu⟩:=g j hj;unfold kas_ask;rw[et,eu];exact kat_lt_int h
end
section
variable {K:Type}{lt':K->K->Ap}
theorem NO {α:Type}{ks:Aa K}{vs:Aa α}{d:K}(hl:vs.length=ks.length){p:K × α}(h:p∈ks.zip vs):∃ i,vs[i]? = Ab p.2/\ks.getD i d=p.1:=by
 obtain⟨i,hi,e⟩:=Bv.mp h;have h1:i<ks.length:=by rw[Jc] at hi;lia
 have h2:i<vs.length:=by lia
 rw[List.getElem_zip] at e;subst e;exact⟨i,Au h2,by simp[h1]⟩
end
structure Kind (prog:A5)(w:AL){K:Type}(is:K->Ac->Prop)(hash:K->Am)(lt':K->K->Ap)(d:K)(Fit:K->Prop)(h0:AB):Prop where
 ord:Ord lt'
 inj:∀ {k k':K} {v:Ac},is k v->is k' v->k=k'
 cmps:∀ {vs:Aa Ac} {ks:Aa K},vs.length=ks.length->(∀ i v,vs[i]? = Ab v->is (ks.getD i d) v)->(∀ k∈ks,Fit k)->2<=vs.length->Cmps prog w h0 vs (lD lt' ks d)
theorem LL (prog:A5)(w:AL)(h0:AB):Kind prog w (isT prog w h0) (AJ (A8 prog w)) _H.lexLt [] (·≠[]) h0:=⟨RV,isT.inj,λh1 h2 h3 h4=>PZ h1 h2 h3 h4⟩
theorem VA (prog:A5)(w:AL)(h0:AB):Kind prog w (isI prog w) (A8 prog w).hash ltI 0 (λ_=>Jn) h0:=⟨wZ,λa b=>(A8 prog w).inj _ _ _ a b,λh1 h2 _ h4=>PY h1 h2 h4⟩
section
variable {prog:A5}{w:AL}{A:AK}{E:Ac->Ag->Prop}{s:Ag}{K:Type}{is:K->Ac->Prop}{hash:K->Am}{lt':K->K->Ap}{d:K}{Fit:K->Prop}{h0:AB}{S:Af}{V:Aa Ac}{seen:Aa K}
open Classical in
def kOf (is:K->Ac->Prop)(d:K)(e:Am × Ac):K:=if h:∃ k,is k e.2 then choose h else d
open Classical in
theorem oO {e:Am × Ac}(h:∃ k,is k e.2):is (kOf is d e) e.2:=by
 unfold kOf;rw[dif_pos h];exact choose_spec h
theorem iA {Q:Ac->Ag->Prop}(kd:Kind prog w is hash lt' d Fit h0)(hh:A.handled=none)(hu:A.units+16<Ee)(hS:Sup h0 s.heap)(Z:SetK is hash S (xC w) V seen s.heap)(hf:∀ k∈seen,Fit k){U:Aa K}(hU:U.length<=1000)(hU1:∀ k∈seen,k∈U)
  (h:∀ h' tk D c (ps:Aa (K × Ac)),(∀ b o,s.heap.get? b=Ab o->h'.get? b=Ab o)->s.heap.objs.size<=D->h'.get? D=Ab (Er "list" (ps.map (·.2)).toArray c)->ps.map (·.1)=srt lt' seen->(∀ p∈ps,is p.1 p.2/\p.2∈V)->ps.length<=1000->Q (.ref D) { s with heap:=h',toks:=tk }) :
  Ao (Ar prog w) A (call (.builtin "sorted") [.ref S]) Q E s:=by
 obtain⟨es,ep,t,ho,Z0,T,hl,hV⟩:=Z;have st:Still w S es ep t:=⟨T,hl⟩;have hn:es.size<=1000:=by
  have:=bJ es.toList U Z0.nd λe he=>by
   obtain⟨k',_,q⟩:=Z0.good e he;exact⟨k',hU1 k' ((Z0.mem k').mpr ⟨e,he,q⟩),q⟩
  rw[A6] at this
  lia
 have op:=fL w S ep es;have osz:=vH w S ep es;have good:∀ e∈(qP w S ep es).toList,is (kOf is d e) e.2/\e.2∈V:=λe he=>by
  have he':=op.mem_iff.mp he;obtain⟨k,_,q⟩:=Z0.good e he';exact⟨oO ⟨k,q⟩,hV e he'⟩
 have nd0:(qP w S ep es).toList.Pairwise λa b=>∀ k,is k a.2->¬ is k b.2:=(op.pairwise_iff λ{x y} h k hy hx=>h k hx hy).mpr Z0.nd;generalize hoe:(qP w S ep es).toList=oe at *;have hoel:oe.length<=1000:=by rw[op.length_eq,A6];exact hn
 have hks:∀ i v,(oe.map (·.2))[i]? = Ab v->is ((oe.map (kOf is d)).getD i d) v/\v∈V:=λi v hv=>by
  rw[By] at hv;cases hi:oe[i]? with
  |none=>rw[hi] at hv;cases hv
  |some e =>
   rw[hi] at hv;cases hv;have g:=good e (AQ hi);have:(oe.map (kOf is d)).getD i d=kOf is d e:=by rw[No,By,hi];rfl
   rw[this];exact g
 have nd:(oe.map (kOf is d)).Nodup:=by
  unfold Ws;rw[Fd];refine Ov (λ{a b} ha hb h e=>?_) nd0;exact h _ (good a ha).1 (e▸(good b hb).1)
 have mem:∀ x,x∈oe.map (kOf is d)↔x∈seen:=λx=>by
  rw[Z0.mem,Bl];constructor
  .rintro⟨e,he,rfl⟩
   exact⟨e,op.mem_iff.mp he,(good e he).1⟩
  .rintro⟨e,he,q⟩
   exact⟨e,op.mem_iff.mpr he,kd.inj (good e (op.mem_iff.mpr he)).1 q⟩
 have hlen:(oe.map (·.2)).length=(oe.map (kOf is d)).length:=by simp
 refine Calls.call_function_entry kind_sorted plain_sorted entry_sorted (args_sorted1 _) ?_;unfold Fq.«sorted»;refine Ad (m:=checkCount "sorted" 1 1 _) (Ak ?_);refine Ad (sX hh st ho (by lia) λh1 tk1 kp1 hlt=>?_)
 rw[hoe];refine Ad (wpAny_newList ?_ (by rw[Dj,A4];lia))
 have hD:(h1.push (Er "list" (oe.map (·.2)).toArray 0)).get? h1.objs.size=Ab (Er "list" (oe.map (·.2)).toArray 0):=A7 _ rfl
 have n0:h0.get? h1.objs.size=none:=by
  cases q:h0.get? h1.objs.size with
  |none=>rfl
  |some o=>exact absurd (Az (hS _ _ q)) (Kh.mpr (CV hlt))
 show Ao _ _ _ _ _ { s with heap:=h1.push (Er "list" (oe.map (·.2)).toArray 0),toks:=tk1 }
 refine Ad (Cu (Cy slot_list_sort ⟨_,hD,rfl⟩ entry_list_sort (LP (h0:=h0) (is:=is) kd.ord kd.inj (d:=d) (vs:=oe.map (·.2)) hlen (λi v hv=>(hks i v hv).1) hD (by show A.units+2+8<Ee;lia) (by rw[A4];lia) (λh2=>kd.cmps hlen (λi v hv=>(hks i v hv).1) (λk hk=>hf k ((mem k).mp hk)) h2) (λb o e=>Ah _ (kp1 b o (hS b o e))) n0 λps pm nf=>⟨_,rfl,?_⟩) (args_list_sort _)))
 refine Ak ⟨_,rfl,?_⟩;have hz:(h1.push (Er "list" (oe.map (·.2)).toArray 0)).objs.size=h1.objs.size+1:=size_push' ..
 have old:∀ b o,b≠h1.objs.size->(h1.push (Er "list" (oe.map (·.2)).toArray 0)).get? b=Ab o->((((h1.push (Er "list" (oe.map (·.2)).toArray 0)).update h1.objs.size (Dn λ_=>#[])).push (Er "tuple" (oe.map (·.2)).toArray 0)).push (Er "list" #[] 0)).get? b=Ab o:=λb o hb e =>
  Ah _ (Ah _ ((Cf _ _ (Ed hb)).trans e))
 obtain⟨e1,he1⟩:∃ e1,((h1.push (Er "list" (oe.map (·.2)).toArray 0)).update h1.objs.size (Dn λ_=>#[])).get? h1.objs.size=Ab (Er "list" #[] e1):=⟨_,Pm hD (λ_=>#[])⟩
 have he6:=Pm (Ah (Er "list" #[] 0) (Ah (Er "tuple" (oe.map (·.2)).toArray 0) he1)) (λ_=>(ps.map (·.2)).toArray)
 have pk:(ps.map (·.1)).Perm (oe.map (kOf is d)):=by
  have:=pm.map (·.1)
  rwa [Vp (by lia)] at this
 refine h _ tk1 h1.objs.size _ ps (λb o e=>?_) (CV hlt) he6 (FX kd.ord nf (pk.nodup_iff.mpr nd) λx=>by rw[pk.mem_iff,mem]) (λp hp=>?_) (by have:=pk.length_eq;rw[A4,A4] at this;lia)
 .have hb:b≠h1.objs.size:=λz=>by
   subst z;exact absurd (Az e) (Kh.mpr (CV hlt))
  exact(Cf _ _ (Ed hb)).trans (old b o hb (Ah _ (kp1 b o e)))
 .obtain⟨i,e1,e2⟩:=NO (d:=d) hlen (pm.mem_iff.mp hp)
  exact e2▸hks i _ e1
end
end _S
namespace _D
open PySem PySem.Spec PyProof.Rows _L
noncomputable def pO:Aa D->Al (Aa (Aa Am))
 |[]=>Ab []
 |.tup ys::r=>(zY ys).bind λk=>(pO r).map (k::·)
 |_::_=>none
noncomputable def tpD (k:Aa Am):D:=.tup (k.map D.int)
theorem sM:∀ {ds:Aa D} {ks:Aa (Aa Am)},pO ds=Ab ks->ds=ks.map tpD
 |[],ks,h=>by cases h;rfl
 |d::r,ks,h=>by
  cases d with
  |tup ys =>
   obtain⟨k,h1,h2⟩:=Cn.mp (show (zY ys).bind (λk=>(pO r).map (k::·))=Ab ks from h)
   obtain⟨m,h3,rfl⟩:=Bn.mp h2;rw[sM h3,vU h1];rfl
  |_=>cases h
noncomputable def uA (xs:Aa D):Al (Aa D):=match zY xs with
 |some ns=>if (_S.srt _S.ltI ns).length<=1000 then Ab ((_S.srt _S.ltI ns).map D.int) else none
 |none=>match pO xs with
  |some ks=>if ((_S.srt _H.lexLt ks).length<=1000&&ks.all λk=>!k.isEmpty) then Ab ((_S.srt _H.lexLt ks).map tpD) else none
  |none=>none
noncomputable def E5:D->Al (Aa D)
 |.lst xs=>Ab xs
 |.tup xs=>Ab xs
 |_=>none
theorem YI {K:Type}{lt':K->K->Ap}(O:_S.Ord lt')(ks:Aa K)(d:K):_S.srt lt' (_S.wW (λi=>ks.getD i d) ks.length)=_S.srt lt' ks:=
 _S.pP O (_S.y9 O _) (_S.y9 O _) λx=>by
  rw[_S.xQ O,_S.xQ O,_S.uP];constructor
  .rintro⟨i,hi,rfl⟩
   simp[IQ,hi]
  .intro hx
   obtain⟨i,hi,e⟩:=Bv.mp hx;exact⟨i,hi,by simp[IQ,hi,e]⟩
section
variable {X:Cx}{e:AM}{fa:DE}{p1 p2 pos1 pos2:CN}
theorem iQ:CU "sorted" = Ab (.builtin "sorted"):=by decide +kernel
theorem eB {prog:A5}{w:AL}:∀ {k:Aa Am} {us:Aa Ac},qJ (k.map V.int) us->ItemsAre (A8 prog w) k us
 |[],us,h=>by cases h;exact .nil
 |i::k,us,h=>by
  cases h with
  |cons q t =>
   obtain⟨tk,rfl⟩:=q;exact .cons (Sb _ _ _ _) (eB t)
theorem ZJ {pins:Aa (Af × AX)}{σ : _L.St}{H P:Hp}{α : Aa Af}{S:Sto}{s:Ag}{d:D}{xs:Aa D}{v:V}{vv:Ac}(I:Inv X pins σ H s)(r:Rel X.K H P α S)(p:Rep X.K P α d v)(q:qK v vv)(h:E5 d=Ab xs) :
  ∃ a vs its,vv=.ref a/\qD X.K P α xs vs/\qJ vs its/\(s.heap.IsList a its.toArray\/s.heap.IsTuple a its.toArray)/\xs.length=its.length:=by
 cases d with
 |lst ys =>
  cases h;obtain⟨a,vs,its,n,rfl,_,t,rv,e,l,_⟩:=yN I r p;exact⟨a,vs,its,q,t,rv,.inl ⟨_,e,rfl,n,rfl⟩,l⟩
 |tup ys =>
  cases h;obtain⟨a,vs,its,rfl,_,t,rv,⟨o,e,hc,n,hd⟩,l,_⟩:=uC I r p;exact⟨a,vs,its,q,t,rv,.inr ⟨o,e,hc,n,hd⟩,l⟩
 |_=>cases h
end
end _D
section
namespace _D
open PySem PySem.Spec PyProof.Rows _L
mutual
noncomputable def pyD:D->Al Su
 |.non=>Ab .none
 |.bl b=>Ab (.bool b)
 |.int i=>Ab (.int i)
 |.str x=>Ab (.str x)
 |.tup xs=>(u3 xs).map .tuple
 |.lst xs=>(u3 xs).map .list
 |.dct0=>Ab (.dict [])
 |_=>none
noncomputable def u3:Aa D->Al (Aa Su)
 |[]=>Ab []
 |d::ds=>(pyD d).bind λx=>(u3 ds).map (x::·)
end
mutual
noncomputable def vG:D->Ap
 |.lst _=>false
 |.tup xs=>jL xs
 |_=>true
noncomputable def jL:Aa D->Ap
 |[]=>true
 |d::ds=>vG d&&jL ds
end
noncomputable def gU (d:D)(p:Su):Ap:=p.showable&&p.leavesShort 40&&decide (p.bulk<=2 ^ 16)&&decide (p.depth<=60)&&(!p.hasDict||vG d)
noncomputable def uR (d:D):Al As:=(pyD d).bind λp=>if gU d p then Ab p.shown else none
noncomputable def pB:DF:=λds S=>match ds with
 |[d]=>match uR d with
  |some x=>.ok (.str x) S
  |none=>.bad
 |_=>.bad
section
variable {X:Cx}{pins:Aa (Af × AX)}{σ : _L.St}{H P:Hp}{α : Aa Af}{S:Sto}{s:Ag}
mutual
theorem sC (I:Inv X pins σ H s)(r:Rel X.K H P α S):∀ (d:D) (p:Su) (v:V) (u:Ac),pyD d=Ab p->Rep X.K P α d v->qK v u->∃ as,Reads s.heap u p as/\(vG d=true->Gi ∉ as)
 |.non,p,v,u,h,q,rv=>by
  cases h;simp only[Rep] at q;subst q;cases (show u=Bs from rv);exact⟨_,.none,by simp⟩
 |.bl b,p,v,u,h,q,rv=>by
  cases h;simp only[Rep] at q;subst q;cases (show u=Dt b from rv);exact⟨_,.bool b,by simp⟩
 |.int i,p,v,u,h,q,rv=>by
  cases h;simp only[Rep] at q;subst q;obtain⟨t,rfl⟩:=rv;exact⟨_,.int i t,by simp⟩
 |.str x,p,v,u,h,q,rv=>by
  cases h;simp only[Rep] at q;subst q;obtain⟨t,rfl⟩:=rv;exact⟨_,.str x t,by simp⟩
 |.tup xs,p,v,u,h,q,rv=>by
  simp only[pyD] at h;obtain⟨ps,h1,rfl⟩:=Bn.mp h;obtain⟨a,vs,its,rfl,_,t,rvs,⟨o,e,hc,n,hd⟩,_,_⟩:=uC I r q;cases (show u=AU a from rv)
  obtain⟨as,ra,ha⟩:=gT I r xs ps vs its h1 t rvs;exact⟨as,.tuple e hc hd (by simpa using ra),λz=>ha (by simpa only [vG] using z)⟩
 |.lst xs,p,v,u,h,q,rv=>by
  simp only[pyD] at h;obtain⟨ps,h1,rfl⟩:=Bn.mp h;obtain⟨a,vs,its,n,rfl,_,t,rvs,e,_,_⟩:=yN I r q;cases (show u=AU a from rv)
  obtain⟨as,ra,_⟩:=gT I r xs ps vs its h1 t rvs;exact⟨a::as,.list e rfl rfl (by simpa using ra),λz=>by simp[vG] at z⟩
 |.dct0,p,v,u,h,q,rv=>by
  cases h;simp only[Rep] at q;obtain⟨a,rfl,q⟩:=q;cases (show u=AU a from rv)
  obtain⟨_,ne,vs,kv,o,es,ep,e,hx,hd,_,hp,_⟩:=I.hok _ _ (r.sub _ _ q);cases kv;have he:es.toList=[]:=by
   generalize es.toList=l at hp;cases hp;rfl
  refine⟨[a]++[],.dict (kvs:=[]) e hx.1 hd ?_ ?_,λ_=>by simpa using (λz=>(Fe.mp ne) z.symm)⟩
  .rw[he];exact .nil
  .rw[he];exact .nil
 |.ty _,p,v,u,h,_,_=>by simp[pyD] at h
 |.obj _,p,v,u,h,_,_=>by simp[pyD] at h
 |.loc _,p,v,u,h,_,_=>by simp[pyD] at h
 |.exn _,p,v,u,h,_,_=>by simp[pyD] at h
 |.fd _ _,p,v,u,h,_,_=>by simp[pyD] at h
 |.clo _ _ _,p,v,u,h,_,_=>by simp[pyD] at h
theorem gT (I:Inv X pins σ H s)(r:Rel X.K H P α S):∀ (ds:Aa D) (ps:Aa Su) (vs:Aa V) (us:Aa Ac),u3 ds=Ab ps->qD X.K P α ds vs->qJ vs us->∃ as,ReadsAll s.heap us ps as/\(jL ds=true->Gi ∉ as)
 |[],ps,vs,us,h,q,rv=>by
  cases h;cases q.nil_inv;cases rv;exact⟨[],.nil,by simp⟩
 |d::ds,ps,vs,us,h,q,rv=>by
  simp only[u3] at h;obtain⟨p,h1,h2⟩:=Cn.mp h;obtain⟨ps',h3,rfl⟩:=Bn.mp h2;obtain⟨w,ws,rfl,q1,q2⟩:=q.cons_inv;cases rv with
  |cons r1 r2 =>
   obtain⟨as,a1,a2⟩:=sC I r d p w _ h1 q1 r1;obtain⟨bs,b1,b2⟩:=gT I r ds ps' ws _ h3 q2 r2;refine⟨as++bs,.cons a1 b1,λz=>?_⟩;simp only[jL,A0] at z;simp only[Ba,Qb];exact⟨a2 z.1,b2 z.2⟩
end
set_option tactic.hygienic true in
theorem ZC {d:D}{x:As}(h:uR d=Ab x):∃ p,pyD d=Ab p/\p.shown=x/\p.showable=true/\p.shown.length<=sizeLine/\p.depth<=60/\(p.hasDict=true->vG d=true):=by
 unfold uR at h;obtain⟨p,h1,h2⟩:=Cn.mp h
 split at h2
 .rename_i hk
  cases h2;simp only[gU,A0,AG,Ia,Ip] at hk;obtain⟨⟨⟨⟨k1,k2⟩,k3⟩,k4⟩,k5⟩:=hk;refine⟨p,h1,rfl,k1,?_,k4,λz=>k5.resolve_left (by rw[z];simp)⟩
  have:=PyData.shown_le_bulk 40 om p k2;rw[Dj];omega
 .cases h2
theorem VZ (hg:X.A.guards=Ab [])(hu:X.A.units+64<Ee):wJ X (.builtin "repr") pB:=by
 intro pins σ H s P α S vs us ds Q I r rv rp af
 match ds,af,rp with
 |[],af,_=>exact An af
 |_::_::_,af,_=>exact An af
 |[d],af,rp =>
  simp only[pB] at af;cases hd:uR d with
  |none=>rw[hd] at af;exact An af
  |some x =>
   rw[hd] at af;obtain⟨p,h1,rfl,hs,hz,hp,hn⟩:=ZC hd;obtain⟨v,u,rfl,rfl,q,rv1⟩:=yS rp rv;obtain⟨as,ra,ha⟩:=sC I r d p v u h1 q rv1;have fin:∀ (h':AB) (u tk:Os),(∀ b o,s.heap.get? b=Ab o->h'.get? b=Ab o)->EP X pins σ Q (.str p.shown u) { s with heap:=h',toks:=tk }:=λh' u tk hk =>
    ⟨.str p.shown,H,I.kept hk,⟨u,rfl⟩,xr af r (by simp only[Rep])⟩
   cases ra with
   |none=>exact PySem.P.repr_of_none (fin s.heap _ _ λ_ _ e=>e)
   |bool b=>exact PySem.P.repr_of_bool (fin s.heap _ _ λ_ _ e=>e)
   |int i t=>exact PySem.P.repr_of_int (by simpa [Po] using hs) (fin s.heap _ _ λ_ _ e=>e)
   |str y t=>exact PySem.P.repr_of_str (fin s.heap _ _ λ_ _ e=>e) hz
   |list a1 a2 a3 a4=>exact Qz (.list a1 a2 a3 a4) hs (λz=>ha (hn z)) hg om (λ_ _ e=>e) fin hz
   |tuple a1 a2 a3 a4=>exact Qz (.tuple a1 a2 a3 a4) hs (λz=>ha (hn z)) hg om (λ_ _ e=>e) fin hz
   |dict a1 a2 a3 a4 a5=>exact Qz (.dict a1 a2 a3 a4 a5) hs (λz=>ha (hn z)) hg om (λ_ _ e=>e) fin hz
end
end _D
end
section
namespace _H
open PySem PyProof.Rows
noncomputable def stepLo (n:Ai)(k:Am):Am:=(Ef none none k (n:Am)).1
noncomputable def stepHi (n:Ai)(k:Am):Am:=(Ef none none k (n:Am)).2
noncomputable def stepN (n:Ai)(k:Am):Ai:=Eg (stepLo n k) (stepHi n k) k
noncomputable def stepL {α:Type}(xs:Aa α)(k:Am):Aa α:=(Be (stepN xs.length k)).filterMap λ(m:Ai)=>xs[(stepLo xs.length k+(m:Am)*k).toNat]?
section
variable {prog:A5}{w:AL}{A:AK}{E:Ac->Ag->Prop}{s:Ag}
theorem pR {sl:Af}{k:Am}{t:Os}{n:Ai}{Q:Am × Am × Ai->Ag->Prop}(hs:s.heap.IsSliceOf sl .none .none (.int k t))(hk:k≠0)
  (h:Q (stepLo n k,k,stepN n k) s):Ao (Ar prog w) A (Gx (.ref sl) (pure (n:Am))) Q E s:=by
 obtain⟨os,hos,hcs,hds⟩:=id hs;unfold Gx Nv;refine Ad (Ad (Cg hos hds (x:=.none) rfl (Ad (Cg hos hds (x:=.none) rfl (Ad (Cg hos hds (x:=.int k t) rfl (Ak ?_)))))));refine Ad (slicePart_int ?_);show Ao _ _ (if (k == 0)=true then _ else _) _ _ s
 rw[AC (by simpa using hk)]
 refine Ad (Ml (Ad (Ml (Ad (Ak ?_)))));exact Ak h
theorem stepL_length {α:Type}(xs:Aa α)(k:Am):(stepL xs k).length<=stepN xs.length k:=by
 unfold stepL;exact Bp (O0 _ _) (by rw[CC];exact Aq _)
theorem getItem_tuple_step {t sl:Af}{items:Aw Ac}{k:Am}{u:Os}{Q:Ac->Ag->Prop}(ht:Ps s.heap t items)(hs:s.heap.IsSliceOf sl .none .none (.int k u))(h0:k≠0)(h1:k≠1)
  (h:Q (.ref s.heap.objs.size) { s with heap:=s.heap.push { cls:=.type "tuple",data:=.seq (stepL items.toList k).toArray } })
  (hsz:stepN items.size k<=sizeLine):Ao (Ar prog w) A (Km (.ref t) (.ref sl)) Q E s:=by
 have htake:sizeOk (.seq (stepL items.toList k).toArray):=by
  show (stepL items.toList k).toArray.size<=sizeLine;rw[AD];exact Bp (stepL_length _ _) (by simpa using hsz)
 obtain⟨os,hos,hcs,hds⟩:=id hs;have hTs:s.TypeIs (.ref sl) "slice":=⟨os,hos,hcs⟩;unfold Km
 try with_reducible refine Cu ?_
 first|refine Ad (Ak ?_)|skip
 refine Ad (Nw ht.typeIs (by decide) ?_)
 refine Ad (Cj (name:=Fl "__getitem__") ht.typeIs Ca
  (Cy Ca ht.typeIs Ma ?_ (Mz _ _)))
 show Ao _ _ (IK (.ref t) >>= _) _ _ s;refine Ad (Rt ht ?_);refine Ad (IF hTs ?_);rw[AF (by decide)]
 refine Ad (pR hs h0 ?_);have hno:¬ ((stepLo items.size k == 0&&k == 1&&stepN items.size k == items.size)=true):=by
  intro q;rw[A0,A0] at q;exact h1 (eq_of_beq q.1.2)
 show Ao _ _ (if (stepLo items.size k == 0&&k == 1&&stepN items.size k == items.size)=true then _ else _) _ _ s
 rw[AC hno];have e:((Be (stepN items.size k)).filterMap λ(m:Ai)=>items[(stepLo items.size k+(m:Am)*k).toNat]?)=stepL items.toList k:=by
  unfold stepL;simp
 rw[e]
 first
  |exact Ad (m:=Dc _) (Bu (Ak ⟨_,rfl,Ak h⟩) htake)
  |exact Ad (m:=Dc _) (Bu (Ad (Ak (Ak ⟨_,rfl,Ak h⟩))) htake)
  |exact Ad (Ad (m:=Dc _) (Bu (Ak (Ak ⟨_,rfl,Ak h⟩)) htake))
  |exact Ad (Ad (m:=Dc _) (Bu (Ak ⟨_,rfl,Ak h⟩) htake))
end
end _H
namespace _D
open PySem PySem.Spec PyProof.Rows _L
noncomputable def nY:G2:=λd k S=>match d,k with
 |.tup xs,.int k=>if k≠0/\k≠1/\_H.stepN xs.length k<=lim then .ok (.tup (_H.stepL xs k)) S else .bad
 |_,_=>.bad
noncomputable def cT (fe fk:DE):DE:=d2 nY fe fk
section
variable {X:Cx}{e ek:AM}{fe fk:DE}{p2 pos:CN}
theorem ZO {vs:Aa V}{us:Aa Ac}(rv:qJ vs us)(l:Aa Ai)(f:Ai->Ai):qJ (l.filterMap λm=>vs[f m]?) (l.filterMap λm=>us[f m]?):=by
 induction l with
 |nil=>exact .nil
 |cons m l ih =>
  simp only[Ec];cases h:vs[f m]? with
  |none =>
   have:us[f m]? = none:=by
    rw[Oq] at h ⊢;rw[<- rv.length];exact h
   rw[this];exact ih
  |some v =>
   obtain⟨u,hu,r⟩:=rv.get h;rw[hu];exact .cons r ih
theorem ZD {K:Aj}{P:Hp}{α:Aa Af}{ds:Aa D}{vs:Aa V}(rp:qD K P α ds vs)(l:Aa Ai)(f:Ai->Ai):qD K P α (l.filterMap λm=>ds[f m]?) (l.filterMap λm=>vs[f m]?):=by
 induction l with
 |nil=>exact .nil
 |cons m l ih =>
  simp only[Ec];cases h:ds[f m]? with
  |none =>
   have:vs[f m]? = none:=by
    rw[Oq] at h ⊢;rw[<- rp.length];exact h
   rw[this];exact ih
  |some d =>
   obtain⟨u,hu,r⟩:=rp.get h;rw[hu];exact .cons r ih
set_option tactic.hygienic true in
theorem UC (he:PE X e (tD X fe))(hk:PE X ek (tD X fk)):PE X (.Subscript e (.Slice none none (Ab ek) p2) pos) (tD X (cT fe fk)):=by
 intro pins s σ H Q I h;obtain⟨P,α,env,S,r,re,af⟩:=h;have af':qG X P α ((fe env S).bind λd S1=>(fk env S1).bind λk S2=>nY d k S2) (OkV X P α Q):=af;refine Wm (thn (zS he I r re af') λv s1 ⟨x,H1,P1,α1,d,S1,G1,af1⟩=>?_);refine wpAny_Slice ?_;rw[Ru];refine Ak (Ak ?_);rw[evalPart_some];refine thn (zS hk G1.inv G1.rel G1.env (qU.base G1.same G1.pre af1)) λvk s2 ⟨y,H2,P2,α2,k,S2,G2,af2⟩=>?_;have af2:=qU.base G2.same G2.pre af2;cases d with
 |tup xs =>
  cases k with
  |int k =>
   simp only[nY] at af2
   split at af2
   .rename_i hk'
    have rp:=Rep.mono G2.same G2.pre _ _ G1.rep;obtain⟨a,vs,its,rfl,q,t,rvs,ht,hl,_⟩:=uC G2.inv G2.rel rp;cases (show v=AU a from G1.val)
    have gr:=G2.rep;simp only[Rep] at gr;subst gr;obtain⟨tk,rfl⟩:=G2.val;have I4:Inv X pins σ H2 { s2 with heap:=s2.heap.push { cls:=.type "slice",data:=.fields #[.none,.none,.int k tk] } }:=G2.inv.kept (t':=s2.toks) λb ob q=>Ah _ q
    have ht':Ps (s2.heap.push { cls:=.type "slice",data:=.fields #[.none,.none,.int k tk] }) a its.toArray:=ht.keeps λb ob q=>Ah _ q;refine tail_any (ops:=[.ref a,.ref s2.heap.objs.size]) (s:={ s2 with heap:=s2.heap.push { cls:=.type "slice",data:=.fields #[.none,.none,.int k tk] } }) ht'.typeIs Ca.lookup ?_ (by with_unfolding_all rfl)
    refine _H.getItem_tuple_step (s:={ s2 with heap:=s2.heap.push { cls:=.type "slice",data:=.fields #[.none,.none,.int k tk] } }) ht' (Sy ..) hk'.1 hk'.2.1 ?_ ?_
    .have lv:vs.length=its.length:=rvs.length
     have ld:xs.length=vs.length:=t.length;have t':qD X.K P2 α2 (_H.stepL xs k) (_H.stepL vs k):=by
      unfold _H.stepL;rw[ld];exact ZD t _ λm=>(_H.stepLo vs.length k+(m:Am)*k).toNat
     have rv':qJ (_H.stepL vs k) (_H.stepL its k):=by
      unfold _H.stepL;rw[lv];exact ZO rvs _ λm=>(_H.stepLo its.length k+(m:Am)*k).toNat
     exact dH I4 G2.rel t' rv' (Bp (_H.stepL_length _ _) hk'.2.2) af2
    .rw[AD,<- hl,<- zX];exact hk'.2.2
   .exact An af2
  |_=>exact An af2
 |_=>exact An af2
end
end _D
end
namespace _D
open PySem PySem.Spec PyProof.Rows _L
section
variable {X:Cx}{cm:Ap}{k:Ai}{e ek:AM}{fe fk:DE}{p2 pos:CN}
theorem NM (hr:RoomC cm k X.A):ZCall X (.builtin "repr") pB:=⟨VZ hr.gd hr.units⟩
theorem KO (he:QE X e fe)(hk:QE X ek fk):QE X (.Subscript e (.Slice none none (Ab ek) p2) pos) (cT fe fk):=⟨UC he.1 hk.1⟩
end
section
variable {X:Cx}{pins:Aa (Af × AX)}{σ : _L.St}{H P:Hp}{α : Aa Af}{S:Sto}{s:Ag}
inductive NewR (X:Cx)(pins:Aa (Af × AX))(σ : _L.St)(H P:Hp)(α : Aa Af)(ys:Aa D)(u:Ac)(s':Ag):Prop
 |mk (D:Af) (vs:Aa V) (e:u=.ref D) (hn:H D=none) (I:Inv X pins σ (upd H D (.lst vs)) s') (rp:qD X.K P α ys vs):NewR X pins σ H P α ys u s'
end
end _D
namespace _L
open PySem PySem.Spec PyProof.Rows
variable {loose:Aa As}{mg mb:As->Al Ac}
def SY (H:Hp):Prop:=∀ b,H b=none\/(∃ o xs,H b=Ab (.frz o (.lst xs)))\/H b=Ab (.tbl #[])
def Tb0 (K:Aj)(H:Hp):Prop:=∀ x∈wC,∀ c T,Cd K x=Ab (c,T)->H T=Ab (.tbl #[])
structure Tabs (K:Aj)(h:AB):Prop where
 at':∀ x∈wC,∀ c T,Cd K x=Ab (c,T)->Qq h c T/\h.get? T=Ab (IE #[]) /\ K.lookup T=none
 inj:∀ x∈wC,∀ y∈wC,∀ c d T,Cd K x=Ab (c,T)->Cd K y=Ab (d,T)->x=y
theorem WA {P:A5}{w:AL}{K:Aj}{CX:CXT}{k:Ai}{fa a:Af}{fd:Dq}{x:As}{sp:Sp}{s₁:Ag}{vs:Aa Ac}{ns:Aa Am}
  (KX:K.In s₁.heap) (hns:s₁.heap.Ns AW mg) (hb:s₁.heap.Ns Lz mb) (hbb:∀ x:As,x ≠ "__name__" -> mb x=CU x) (hlim:s₁.heap.NoLimit) (hg:s₁.gens=#[]) (hbm:P7 mg s₁.heap) (tbs:Tabs K s₁.heap)
  (ha:s₁.heap.get? a=Ab { cls:=.type "list",data:=.seq vs.toArray }) (hi:Nx vs ns) (hl:ns.length<=sizeLine) (hr:Room k Ny)
  (F:∀ base:AB,K.In base->base.Ns AW mg->FnOk P w K mg base CX k fa fd [x] sp) (hbind:∀ (s:Ag) (u:Ac),Kl s fd ⟨[u],[]⟩ [(x,u)])
  (hsp:∀ H:Hp,Tb0 K H->SqX K H a (ns.map V.int)->sp [.ref a] H (λv _=>v=.bl true) λ_ _ _=>CP)
  (hCX:∀ H e s',CX [] H s₁ (λ_ _ _=>CP) e s'->CP) :
  Fn (Ar P w) Ny (.call (.ref fa) ⟨[.ref a],[]⟩) (λr s'=>r=.ok (.ret (.bool true))/\OldK s₁.heap s'.heap/\s'.os=s₁.os/\Kj s'.gens) s₁:=by
 have rv:=ZN hi;have lenV:=hi.length
 let isT:Af->Prop:=λb=>∃ x∈wC,∃ c,Cd K x=Ab (c,b)
 have tab:∀ b,isT b->s₁.heap.get? b=Ab (IE #[]) /\ K.lookup b=none:=λb ⟨x,hx,c,h⟩=>(tbs.at' x hx c b h).2;have core:∀ H:Hp,SY H->Tb0 K H->SqX K H a (ns.map V.int)->HOk P w H s₁.heap->(∀ b,H b≠none->b=a\/isT b)->(H a≠none->K.lookup a=none) ->
   Fn (Ar P w) Ny (.call (.ref fa) ⟨[.ref a],[]⟩) (λr s'=>r=.ok (.ret (.bool true))/\OldK s₁.heap s'.heap/\s'.os=s₁.os/\Kj s'.gens) s₁:=by
  intro H hO hT hS hok hA hK;have base_of:∀ {b:Af} {o:AX},s₁.heap.get? b=Ab o->H b=none->(kF s₁.heap H).get? b=Ab o:=λe n=>W0 e n;have noA:∀ {b:Af} {o:AX},s₁.heap.get? b=Ab o->o.cls≠.none->(o.cls≠.type "list" \/ ∃ es ep,o.data=.dict es ep)->H b=none:=λ{b o} e c1 c2=>by
   cases q:H b with
   |none=>rfl
   |some u =>
    rcases hA b (by rw[q];simp) with e'|e'
    .subst e'
     rw[ha] at e;cases e;rcases c2 with z|⟨es,ep,d⟩
     .exact absurd rfl z
     .cases d
    .rw[(tab b e').1] at e;cases e
     exact absurd rfl c1
  have noD:∀ {b:Af} {o:AX} {es:Aw DictEntry} {ep:Ai},s₁.heap.get? b=Ab o->o.data=.dict es ep->H b=none:=λ{b o es ep} e d=>by
   cases q:H b with
   |none=>rfl
   |some u =>
    rcases hA b (by rw[q];simp) with e'|e'
    .subst e'
     rw[ha] at e;cases e;cases d
    .rw[(tab b e').1] at e;cases e;cases d
  have nsK:∀ {b:Af} {m:As->Al Ac},s₁.heap.Ns b m->(kF s₁.heap H).Ns b m:=λ{b m} ⟨o,es,ep,e,d,r⟩=>⟨o,es,ep,base_of e (noD e d),d,r⟩;have hKb:K.In (kF s₁.heap H):=λb o e=>base_of (KX b o e) (by
   cases q:H b with
   |none=>rfl
   |some u =>
    rcases hA b (by rw[q];simp) with e'|e'
    .subst e'
     rw[hK (by rw[q];simp)] at e;cases e
    .rw[(tab b e').2] at e;cases e)
  have hM:Mod K mg (kF s₁.heap H):=by
   refine⟨hKb,nsK hns,⟨mb,nsK hb,hbb⟩,let ⟨mc,h1,h2⟩:=hlim;⟨mc,nsK h1,h2⟩,?_,λx hx c T h=>?_,tbs.inj⟩
   .obtain⟨bm,o,b1,b2,b3,b4,b5⟩:=hbm
    exact⟨bm,o,b1,b2,base_of b3 (noA b3 (by rw[b4];nofun) (.inl (by rw[b4];decide))),b4,b5⟩
   .obtain⟨o,vs,file,tf,flags,tg,inF,text,tt,e1,e2,r⟩:=(tbs.at' x hx c T h).1
    exact⟨o,vs,file,tf,flags,tg,inF,text,tt,base_of e1 (noA e1 (by rw[e2];nofun) (.inl (by rw[e2];decide))),e2,r⟩
  have e0:Env0 P w K mg (kF s₁.heap H) Ny [] s₁ H:=⟨rfl,hM,λb o e=>K2 e,Tz (oI _ _),trivial,λb hb=>absurd (show b∈([]:Aa Af) from hb) (by simp),hok,.of_eq hg⟩
  refine Hb ((F _ hKb (nsK hns)).run Ny [] s₁ H ⟨[.ref a],[]⟩ [.ref a] [.ref a] _ _ hr e0 (hbind s₁ (.ref a)) (.cons rfl .nil) (hsp H hT hS)) λr s' h=>?_;cases r with
  |error e=>exact(hCX H e s' h).elim
  |ok fl =>
   cases fl with
   |next=>exact An h
   |brk=>exact An h
   |cont=>exact An h
   |ret u =>
    obtain⟨v,H',os,bare,un,hok',r',q⟩:=h;have q':v=.bl true:=q;subst q';obtain rfl:u=Dt true:=r';refine⟨rfl,⟨λb o e=>?_,λb o e=>un.there b o e (by simp)⟩,os,bare⟩
    cases q:H b with
    |none=>exact .inl (un.keep b o e q (by intro z;exact absurd (show b∈([]:Aa Af) from z) (by simp)) (by simp))
    |some u =>
     rcases hO b with z|⟨ob,xs,z⟩|z
     .rw[q] at z;cases z
     .have z2:=un.frzs b ob _ z
      obtain⟨e1,_⟩:=hok b _ z;obtain⟨e2,_⟩:=hok' b _ z2;rw[e] at e1;cases e1;exact .inl e2
     .obtain⟨more,z2⟩:=un.tbls b _ z
      have e1:s₁.heap.get? b=Ab (IE #[]):=hok b _ z;have e2:s'.heap.get? b=Ab (IE (#[] ++ more)):=hok' b _ z2;rw[e] at e1;cases e1;rcases hA b (by rw[q];simp) with e'|⟨x,hx,c,h⟩
      .subst e';rw[ha] at e;cases e
      .exact .inr (.inl ⟨((tbs.at' x hx c b h).1.tab e).isCodeTable,rfl,#[],more,rfl,e2⟩)
 have nT:¬ isT a:=λh=>by
  have z:=(tab a h).1;rw[ha] at z;cases z
 have tT:∀ x∈wC,∀ c T,Cd K x=Ab (c,T)->isT T:=λx hx c T h=>⟨x,hx,c,h⟩;have dec:∀ b,He (isT b):=λb=>Classical.propDecidable _;cases hk:K.lookup a with
 |some o =>
  have e:=KX a o hk;rw[ha] at e;cases e;refine core (λb=>if isT b then Ab (.tbl #[]) else none) (λb=>?_) (λx hx c T h=>AF (tT x hx c T h)) (.inr ⟨vs,_,hk,by rw[A4];exact hl,rv⟩) (λb u z=>?_) (λb z=>?_) λz=>absurd (AC nT) z
  .by_cases h:isT b
   .exact .inr (.inr (AF h))
   .exact .inl (AC h)
  .by_cases h:isT b
   .have z':=(AF h).symm.trans z
    cases z';exact(tab b h).1
   .have z':=(AC h).symm.trans z
    cases z'
  .by_cases h:isT b
   .exact .inr h
   .exact absurd (AC h) z
 |none =>
  refine core (λb=>if b=a then Ab (.frz { cls:=.type "list",data:=.seq vs.toArray } (.lst (ns.map V.int))) else if isT b then Ab (.tbl #[]) else none) (λb=>?_) (λx hx c T h=>?_) (.inl (.inr ⟨{ cls:=.type "list",data:=.seq vs.toArray },AF rfl⟩)) (λb u z=>?_) (λb z=>?_) λ_=>hk
  .by_cases hb:b=a
   .exact .inr (.inl ⟨_,_,AF hb⟩)
   .by_cases h:isT b
    .exact .inr (.inr ((AC hb).trans (AF h)))
    .exact .inl ((AC hb).trans (AC h))
  .have h':=tT x hx c T h
   exact(AC (λ(z:T=a)=>nT (z▸h'))).trans (AF h')
  .by_cases hb:b=a
   .have z':=(AF hb).symm.trans z
    cases z';subst hb;exact⟨ha,by rw[A4];exact hl,vs,_,rv,ha⟩
   .by_cases h:isT b
    .have z':=((AC hb).trans (AF h)).symm.trans z
     cases z';exact(tab b h).1
    .have z':=((AC hb).trans (AC h)).symm.trans z
     cases z'
  .by_cases hb:b=a
   .exact .inl hb
   .by_cases h:isT b
    .exact .inr h
    .exact absurd ((AC hb).trans (AC h)) z
noncomputable def lN (q:A5)(K:Aj):Ap:=wC.all λx=>match Cd K x with
 |none=>true
 |some (_,T)=>((recsOf q).find? λe=>e.name == x).isSome&&((K.lookup T).isNone&&wC.all λy=>match Cd K y with
  |none=>true
  |some (_,U)=>x == y||!decide (T=U))
theorem GK {q:A5}{mean:ExcName->Al Ac}{h:AB}{K:Aj}(T:Top q loose mean mg mb h)(X:K.In h)(c:lN q K=true):Tabs K h:=by
 unfold lN at c;have g:∀ x∈wC,∀ d U,Cd K x=Ab (d,U)->((recsOf q).find? λe=>e.name == x).isSome=true/\(K.lookup U).isNone=true/\(wC.all λy=>match Cd K y with
  |none=>true
  |some (_,V)=>x == y||!decide (U=V))=true:=λx hx d U e=>by
  have z:=Bi.mp c x hx;rw[e] at z;simpa only [A0] using z
 refine⟨λx hx d U e=>?_,λx hx y hy d d' U e1 e2=>?_⟩
 .obtain⟨z1,z2,_⟩:=g x hx d U e
  obtain⟨r,hr⟩:=Hm.mp z1;obtain⟨k1,k2⟩:=PySem.W.tab_of T X hr e;exact⟨k1,k2,by simpa using z2⟩
 .have z:=Bi.mp (g x hx d U e1).2.2 y hy
  rw[e2] at z;simpa using z
theorem GP {l:Wg}{n k:Ai}{q:A5}{loose:Aa As}{XP:(As->Al Ac)->AB->Prop}{YP:AL->AB->Prop}{d:DefRec}{K:Params->Aj}{CX:AL->CXT}{sp:AL->Sp}{x:As}
  (hn:l.most=Ab n) (hn2:n<=sizeLine) (hdf:d.params.defaults=[]) (hr:Room k Ny) (ht:∀ p,lN q (K p)=true)
  (hY:∀ (w:AL) (h:AB),YP w h->(K w.params).In h)
  (F:∀ (w:AL) (mg:As->Al Ac) (fa:Af) (h:AB),(K w.params).In h->h.Ns AW mg->mg d.name=Ab (.ref fa) ->
   ∃ fd:Dq,(∀ (s:Ag) (u:Ac),Kl s fd ⟨[u],[]⟩ [(x,u)]) /\
    ∀ base:AB,(K w.params).In base->base.Ns AW mg->FnOk l.prog w (K w.params) mg base (CX w) k fa fd [x] (sp w))
  (hsp:∀ (w:AL) (H:Hp) (a:Af) (ns:Aa Am),ns.length<=n->Tb0 (K w.params) H->SqX (K w.params) H a (ns.map V.int)->sp w [.ref a] H (λv _=>v=.bl true) λ_ _ _=>CP)
  (hCX:∀ (w:AL) (H:Hp) (s:Ag) (e:Ac) (s':Ag),CX w [] H s (λ_ _ _=>CP) e s'->CP) :
  Xv q loose XP YP l.row.toRowW d [] (λf vs=>Wq f vs):=by
 refine _A.attach_call hn hdf λw s₀ s₁ mg mb fa o pm cd doc a vs ns G Y ho hd hcd hmg hobj hints hlen hg=>?_;have KX:=hY w _ Y;obtain⟨fd,hb,hF⟩:=F w mg fa _ KX G.T.g hmg;exact WA KX G.T.g G.T.b G.T.builtins G.T.nolimit hg (let ⟨bm,ob,b1,b2,b3,b4,b5,b6⟩:=G.T.bmain;⟨bm,ob,b1,b2,b3,b4,b5,b6⟩) (GK G.T KX (ht _)) hobj hints (Bp hlen hn2) hr hF hb (λH hT hS=>hsp w H a ns hlen hT hS) λH e s'=>hCX w H s₁ e s'
end _L
namespace _D
open PySem PySem.Spec PyProof.Rows _L
variable {K:Aj}{mg:As->Al Ac}
theorem N2 {h:AB}(X:K.In h)(G:h.Ns AW mg){x:As}{st:Dd}{ps:Aa As}{f:Af}{oc:Ac}{od an:Al Af}{osl:Aw (Al Ac)}{kV doc pm cdv ct:Ac}
  (a:Bw K AW x=Ab (Ab (.ref f)))
  (l:K.lookup f=Ab ⟨oc,od,.func (Em x x (wV st) (zJ st) (qH st) .none kV doc pm an cdv ct),osl⟩) (c:IC K cdv x=true) (k:CJ K (.ref f)=true)
  (hb:∀ (kV doc pm:Ac) (an:Al Af) (cdv ct:Ac) (us:Aa Ac),us.length=ps.length->OX (Em x x (wV st) (zJ st) (qH st) .none kV doc pm an cdv ct) ⟨us,[]⟩=pure (ps.zip us)):Src K mg x st ps:=
 have F:=F8 (st:=st) l c k
 ⟨f,_,Sh X G a,F,F.binds hb⟩
noncomputable def lM (K:Aj)(C:Af):Ap:=
 decide (Ju K (.ref C) "__getattribute__" = Ab (Ab (.builtin "BaseException.__getattribute__")))&&decide (Ju K (.ref C) "__getattr__" = Ab none)
 && decide (Ju K (.ref C) "__class__" = Ab (Ab (.builtin "object.__class__")))&&decide (Ro K C (.type "object")=Ab true)&&decide (Ro K C (.type "BaseException")=Ab true)
 && (PySem.W.clsIn K C).isSome&&decide (IB K (.ref C) (.type "ValueError")=Ab true)
noncomputable def X3 (K:Aj):Ap:=
 decide (Uc K (.builtin "object.__class__") "__get__" = Ab (Ab (.builtin "getset_descriptor.__get__")))&&decide (Vv K (.builtin "object.__class__")=Ab true)
noncomputable def PU (K:Aj)(cl:Aa Af):Ap:=cl.all λC=>cl.all λB=>decide (IB K (.ref C) (.ref B)=Ab (C == B))
theorem PX {cl:Aa Af}(h1:cl.all (lM K)=true)(h2:X3 K=true)(h3:PU K cl=true):ClsK K cl:=by
 have g:=h2;unfold X3 at g;simp only[A0,AG] at g;have k1:∀ C∈cl,lM K C=true:=Bi.mp h1;refine⟨λC hC=>?_,λC hC B hB=>?_,λC hC=>?_⟩
 .have e:=k1 C hC
  unfold lM at e;simp only[A0,AG] at e;obtain⟨⟨⟨⟨⟨⟨e1,e2⟩,e3⟩,e4⟩,e5⟩,e6⟩,e7⟩:=e;exact⟨e1,e2,e3,g.1,g.2,e4,e5,e6⟩
 .have e:=Bi.mp (Bi.mp h3 C hC) B hB
  exact Bd e
 .have e:=k1 C hC
  unfold lM at e;simp only[A0,AG] at e;exact e.2
noncomputable def RD (K:Aj)(cs:Aa Ac)(A:Af):Ap:=cs.all λv=>decide (Hn K v (.ref A)=Ab true)
noncomputable def RB (K:Aj)(cs:Aa Af)(A:Af):Ap:=cs.all λC=>b9 K C A
noncomputable def RC (K:Aj)(cs:Aa Af):Ap:=cs.all λC=>CJ K (.ref C)
def l8 (K:Aj):Sp:=λvs H Q E=>Tb0 K H/\∃ a ns,vs=[.ref a]/\SqX K H a (Yk V.int ns)/\ns.length<=63/\∀ H',Q (.bl true) H'
theorem sD {P:Hp}{α:Aa Af}:∀ ns:Aa Am,qD K P α (ns.map D.int) (ns.map V.int)
 |[]=>.nil
 |n::ns=>.cons (by simp only[Rep]) (sD ns)
noncomputable def noT (H:Hp):Hp:=λb=>match H b with
 |some (.tbl _)=>none
 |u=>u
theorem JK {P:A5}{w:AL}{fa:Af}{st:Dd}{k:Ai}{x:As}(hs:Src K mg "law" st [x])(hfa:mg "law" = Ab (.ref fa))
  (hbd:∀ (kV doc pm:Ac) (an:Al Af) (cdv ct:Ac) (s:Ag) (v:Ac),Kl s (Em "law" "law" (wV st) (zJ st) (qH st) .none kV doc pm an cdv ct) ⟨[v],[]⟩ [(x,v)])
  (hall:∀ base:AB,∃ F,lB P w K mg base true k "law" [x] F/\∀ ns:Aa Am,ns.length<=63->∃ S,F [.lst (ns.map D.int)] [] = .ok (.bl true) S) :
  ∃ fd:Dq,(∀ (s:Ag) (v:Ac),Kl s fd ⟨[v],[]⟩ [(x,v)])/\∀ base:AB,K.In base->base.Ns AW mg->FnOk P w K mg base (CXd P w) k fa fd [x] (l8 K):=by
 obtain⟨f,fd,hm,F,hb⟩:=hs;cases hfa.symm.trans hm;refine⟨fd,?_,λbase _ _=>?_⟩
 .obtain⟨oc,od,kV,doc,pm,an,cdv,ct,osl,rfl,_,_⟩:=F.ex
  exact hbd kV doc pm an cdv ct
 .obtain⟨G,⟨f',fd',hm',_,hb',hl,X⟩,hG⟩:=hall base
  cases hm.symm.trans hm';cases hl.one (pE F);refine(X.imp λvs H Q E h=>?_).ok;obtain⟨tb,a,ns,rfl,hS,hl,k⟩:=h;obtain⟨S,e⟩:=hG ns hl;have keep:∀ (b:Af) (u:HO),H b=Ab u->(∀ ps,u≠.tbl ps)->noT H b=Ab u:=λb u q h=>by
   unfold noT;rw[q];cases u with
   |tbl ps=>exact absurd rfl (h ps)
   |_=>rfl
  have hS':SqX K (noT H) a (Yk V.int ns):=by
   rcases hS with (h|⟨o,h⟩)|h
   .exact .inl (.inl (keep _ _ h λ_ z=>by cases z))
   .exact .inl (.inr ⟨o,keep _ _ h λ_ z=>by cases z⟩)
   .exact .inr h
  have sub:qF (noT H) H:=λb u q=>by
   unfold noT at q;cases z:H b with
   |none=>rw[z] at q;cases q
   |some v =>
    rw[z] at q;cases v with
    |tbl ps=>cases q
    |_=>exact q
  refine⟨rfl,noT H,[],[.lst (ns.map D.int)],[],⟨λx hx c T h=>⟨#[],tb x hx c T h,by unfold noT;rw[tb x hx c T h],by simp,trivial,λpos cv z=>by cases z⟩,sub,rfl,.nil,by simp,by simp,by simp⟩,.cons (mZ hS' (sD ns)) .nil,?_⟩
  rw[e];intro v H' P' α' _ _ _ rv;simp only[Rep] at rv;subst rv;exact k H'
theorem SJ {l:Wg}{q:A5}{loose:Aa As}{XP:(As->Al Ac)->AB->Prop}{YP:AL->AB->Prop}{d:DefRec}{K:Params->Aj}{k:Ai}{x:As}(hn:l.most=Ab 63)(hdf:d.params.defaults=[])(hr:Room k Ny)(ht:∀ p,lN q (K p)=true)
  (hY:∀ (w:AL) (h:AB),YP w h->(K w.params).In h)
  (F:∀ (w:AL) (mg:As->Al Ac) (fa:Af) (h:AB),(K w.params).In h->h.Ns AW mg->mg d.name=Ab (.ref fa) ->
   ∃ fd:Dq,(∀ (s:Ag) (u:Ac),Kl s fd ⟨[u],[]⟩ [(x,u)])/\∀ base:AB,(K w.params).In base->base.Ns AW mg->FnOk l.prog w (K w.params) mg base (CXd l.prog w) k fa fd [x] (l8 (K w.params))) :
  Xv q loose XP YP l.row.toRowW d [] (λf vs=>Wq f vs):=
 _L.GP (n:=63) (k:=k) (x:=x) (CX:=λw=>CXd l.prog w) (sp:=λw=>l8 (K w.params)) hn (by decide) hdf hr ht hY F (λ_ _ a ns hl hT hS=>⟨hT,a,ns,rfl,hS,hl,λ_=>rfl⟩) λw H s e s' h=>by
  obtain⟨_,_,_,_,_,_,_,_,_,_,_,_,z⟩:=h;exact z
end _D
namespace _D
open PySem
variable {us:Aa Ac}
theorem us0 (h:us.length=0):us=[]:=Ig h
theorem usS {n:Ai}(h:us.length=n+1):∃ a vs,us=a::vs/\vs.length=n:=by
 cases us with
 |nil=>exact absurd h (by simp)
 |cons a vs=>exact⟨a,vs,rfl,by simpa using h⟩
theorem us1 (h:us.length=1):∃ a,us=[a]:=by
 obtain⟨a,vs,rfl,h'⟩:=usS h;exact⟨a,by rw[us0 h']⟩
theorem us2 (h:us.length=2):∃ a b,us=[a,b]:=by
 obtain⟨a,vs,rfl,h'⟩:=usS h;obtain⟨b,rfl⟩:=us1 h';exact⟨a,b,rfl⟩
end _D
namespace _D
open PySem PySem.Spec PyProof.Rows _L
variable {oc:AX}{us:Aa Ac}{caps:Aa D}{E Q:Ac->Ag->Prop}{c':Af}{tk j:Ai}{sc:Cs}{d:D}{H':Hp}{env:qE}
theorem VJ (F:DF):∃ G:DF,G=F:=⟨F,rfl⟩
def sh (F:DF):DF:=Vj (VJ F)
theorem xF (F:DF):sh F=F:=Qc (VJ F)
noncomputable def isV:Al Fx->Ap
 |some .local => true
 |some .cell=>true
 |some .free=>true
 |_=>false
noncomputable def isL:Al Fx->Ap
 |some .local => true
 |some .cell=>true
 |_=>false
noncomputable def isG:Al Fx->Ap
 |some .globalImplicit=>true
 |_=>false
noncomputable def okN (x:As):Ap:=!(x == ("__debug__" : As))&&(!(x == ("__classdict__" : As))&&!decide (x = "__name__"))
noncomputable def okG (X:Cx)(x:As):Ap:=isG (X.env.kindOf x)&&okN x
noncomputable def okB (v:Ac)(x:As):Ap:=decide (CU x=Ab v)
noncomputable def j9 (sc:Cs):Aa As:=sc.names.filterMap λy=>if isL (Ab y.2) then Ab y.1 else none
noncomputable def xX (sc:Cs):Aa As:=(sc.names.filterMap λy=>if isL (Ab y.2)&&!(y.1 == (".0" : As)) then Ab y.1 else none)++sc.names.filterMap λy=>if y.2 == .free then Ab y.1 else none
def Ck (b:Ap):Prop:=b=true
theorem ck {b:Ap}(h:b=true:=by kernel_rfl):Ck b:=h
structure DfS (F:DF)(P:A5)(w:AL)(K:Aj)(mg:As->Al Ac)(base:AB)(cm:Ap)(k:Ai)(x:As)(n:Ai):Prop where
 get:Def P w K mg base cm k x n F
noncomputable def okT (X:Cx)(m:Ai)(x:As):Ap:=decide (X.N[m]? = Ab x)&&(isL (X.env.scope.names.lookup x)&&(decide X.N.Nodup&&(X.fn x||decide (X.env.scope.names.lookup x=Ab .local))))
noncomputable def okP (X:Cx)(m:Ai)(x:As):Ap:=decide (X.N[m]? = Ab x)&&decide (X.env.scope.names.lookup x=Ab .local)
noncomputable def bO (scX:Cs)(NX:Aa As)(scope:Cs)(cap:Aa (Al Ai)):Ap:=
 decide (scope.kind=.function)&&(decide (∀ y∈scope.names,y.2=.local -> scope.names.lookup y.1=Ab .local)&&(decide (∀ y∈scope.names,y.2=.cell->scope.names.lookup y.1=Ab .cell)&&(decide (∀ y∈scope.names,y.2=.free->scX.names.lookup y.1=Ab .cell\/scX.names.lookup y.1=Ab .free)
 && (decide (∀ y∈scope.names,y.2=.free->scope.names.lookup y.1=Ab .free)&&(decide (cap.length=(xX scope).length)&&(((cap.zip (xX scope)).all λp=>match p.1 with|none=>true|some i=>NX[i]? == Ab p.2&&scope.names.lookup p.2 == Ab .free)&&decide (xX scope).Nodup))))))
noncomputable def fnB (N P:Aa As)(sc:Cs):Ap:=
 decide (sc.kind=.function)&&(decide (sc.isCoroutine=false)&&(decide (sc.isGenerator=false)&&(decide N.Nodup&&(decide (N.take P.length=P)&&(decide (∀ x∈P,sc.names.lookup x=Ab .local \/ sc.names.lookup x=Ab .cell)&&decide (∀ y∈sc.names,y.2≠.free))))))
theorem bA {scX:Cs}{NX:Aa As}{scope:Cs}{cap:Aa (Al Ai)}(h:bO scX NX scope cap=true):CompSc scX NX scope (xX scope) cap:=by
 simp only[bO,A0,AG] at h;obtain⟨a,b,c,d,e,f,g,k⟩:=h;exact⟨a,b,c,d,e,f,g,k⟩
theorem d9 {N P:Aa As}(h:fnB N P sc=true):FnScope N P sc:=by
 simp only[fnB,A0,AG] at h;obtain⟨a,b,c,d,e,f,g⟩:=h;exact⟨a,b,c,d,e,f,g⟩
section
variable {X:Cx}{a b c e o elt tg iter:AM}{ifs qO:Aa AM}{f g:DS}{fa:DE}{f2:DI2}{dg:DG}{t:DT}{kk:DK}{gens grest:Aa Bo}{scope:Cs}{cap:Aa (Al Ai)}{mm:Ap}{l q:Ai}{y z:As}{G2':G2}{es:Aa AM}{fA:DA}{x:As}{p pos:CN}{cm:Ap}{k n m:Ai}{F:DF}
theorem rZ (h:isV (sc.names.lookup x)=true):Vis sc x:=by
 unfold Vis
 revert h
 cases sc.names.lookup x with
 |none=>intro h;cases h
 |some y=>cases y <;> intro h <;> first|cases h;done|exact .inl rfl|exact .inr (.inl rfl)|exact .inr (.inr rfl)
theorem J7 (h:isL (sc.names.lookup x)=true):_L.Loc sc x:=by
 unfold _L.Loc
 revert h
 cases sc.names.lookup x with
 |none=>intro h;cases h
 |some y=>cases y <;> intro h <;> first|cases h;done|exact .inl rfl|exact .inr rfl
theorem jN (h:okN x=true):(x == ("__debug__" : As))=false/\(x == ("__classdict__" : As))=false/\x ≠ "__name__":=by
 unfold okN at h;rw[A0,A0] at h;exact⟨by simpa using h.1,by simpa using h.2.1,by simpa using h.2.2⟩
theorem w8 (h:okG X x=true):Gl X x/\(x == ("__debug__" : As))=false/\x ≠ "__name__":=by
 have h:=(A0 _ _).mp h;refine⟨?_,(jN h.2).1,(jN h.2).2.2⟩;have z:=h.1;unfold Gl
 revert z
 cases X.env.kindOf x with
 |none=>intro z;cases z
 |some y=>cases y <;> intro z <;> first|cases z;done|rfl
theorem dR (h:okT X m x=true):X.N[m]? = Ab x/\_L.Loc X.env.scope x/\X.N.Nodup/\(X.fn x=true\/X.env.scope.names.lookup x=Ab .local):=by
 simp only[okT,A0,AG,Ia] at h;exact⟨h.1,J7 h.2.1,h.2.2⟩
theorem jO (h:okP X m x=true):X.N[m]? = Ab x/\X.env.scope.names.lookup x=Ab .local:=by
 simp only[okP,A0,AG] at h;exact h
theorem V4 (h:Ck (okG X x)):Gl X x:=(w8 h).1
theorem aV (h:Ck (decide (X.N[m]? = Ab x)&&(isV (X.env.scope.names.lookup x)&&okN x))):QE X (.Name x pos) (qC m):=by
 unfold Ck at h;simp only[A0,AG] at h;exact TF m h.1 (rZ h.2.1) (jN h.2.2).1 (jN h.2.2).2.1
theorem aBt {nm:CF}(h:Ck (okG X x))(hm:X.mg x=none)(hb:Ck (okB (.type nm) x)):QE X (.Name x pos) (dC (.ty nm)):=
 have h:=w8 h
 KG h.1 hm (Bd hb) h.2.2 h.2.1
theorem aCl {C:Af}(h:Ck (okG X x))(hm:X.mg x=Ab (.ref C)/\CJ X.K (.ref C)=true):QE X (.Name x pos) (dC (.obj C)):=
 have h:=w8 h
 T6 h.1 hm.1 hm.2 h.2.1
theorem aGi {v:Am}(h:Ck (okG X x))(hm:∃ t,X.mg x=Ab (.int v t)):QE X (.Name x pos) (dC (.int v)):=
 have h:=w8 h
 KJ h.1 hm h.2.1
abbrev St1 (X:Cx)(e:AM)(es:Aa AM)(pos:CN):Prop:=Ay (e::es) X.env=(false,eval e X.env)::Ay es X.env/\(Di pos (Ay es X.env)).any (·.1)=false
theorem aN (G:DfS F X.prog X.w X.K X.mg X.base cm k x n)(hr:RoomC cm k X.A)(hF:Fn1 X)(h:Ck (okG X x))(ha:QA X (e::es) fA)(s:St1 X e es pos):QE X (.Call (.Name x p) (e::es) [] pos) (qR n F fA):=
 have h:=w8 h
 qcN G.1 hr hF h.1 ha h.2.1 s.1 s.2
theorem aL (G:DfS F X.prog X.w X.K X.mg X.base cm k x n)(hr:RoomC cm k X.A)(hF:Fn1 X)(h:Ck (okG X x))(ha:QA X (e::es) fA)(s:St1 X e es pos):QE X (.Call (.Name x p) (e::es) [] pos) (qR n (uN F) fA):=
 have h:=w8 h
 qcL G.1 hr hF h.1 ha h.2.1 s.1 s.2
theorem aO (G:DfS F X.prog X.w X.K X.mg X.base cm k x n)(hr:RoomC cm k X.A)(h:Ck (okG X x))(ha:QA X (e::es) fA)(s:St1 X e es pos):QE X (.Call (.Name x p) (e::es) [] pos) (qR n (okO F) fA):=
 have h:=w8 h
 qcO G.1 hr h.1 ha h.2.1 s.1 s.2
theorem aB {id:CF}(hc:ZCall X (.builtin id) F)(h:Ck (okG X x))(hm:X.mg x=none)(hb:Ck (okB (.builtin id) x))(ha:QA X (e::es) fA)(s:St1 X e es pos):QE X (.Call (.Name x p) (e::es) [] pos) (qL F fA):=
 have h:=w8 h
 WZ hc h.1 hm (Bd hb) ha h.2.2 h.2.1 s.1 s.2
theorem aT {T:CF}(hc:ZCall X (.type T) F)(h:Ck (okG X x))(hm:X.mg x=none)(hb:Ck (okB (.type T) x))(ha:QA X (e::es) fA)(s:St1 X e es pos):QE X (.Call (.Name x p) (e::es) [] pos) (qL F fA):=
 have h:=w8 h
 QR hc h.1 hm (Bd hb) ha h.2.2 h.2.1 s.1 s.2
theorem aC (S:Ck (bO X.env.scope X.N scope cap))(hc:X.calm=true)(hi:QI2 X tg iter f2)(hg:∀ cl C ex s₀ H₀,QG (qN X (xX scope) scope cl C ex s₀ H₀) tg dg)(ht:∀ cl C ex s₀ H₀,QTs (qN X (xX scope) scope cl C ex s₀ H₀) ifs t)
  (has:∀ g',(⟨tg,iter,ifs,0⟩::grest:Aa Bo)[0+1]? = Ab g'->g'.is_async=0)
  (he:∀ cl C ex s₀ H₀,QK accL (qN X (xX scope) scope cl C ex s₀ H₀) (λacc=>zF false elt (⟨tg,iter,ifs,0⟩::grest) scope pos 0 acc (qN X (xX scope) scope cl C ex s₀ H₀).env) kk) (hs:∀ x,Co iter X.env x=pure x) :
  QE X (.ListComp elt (⟨tg,iter,ifs,0⟩::grest) scope pos) (zE mm cap f2 dg t kk):=Y1 hc (bA S) hi hg ht has he hs
theorem aCs {py spos:CN}(hsw:Jz (.ListComp elt (⟨tg,iter,ifs,0⟩::grest) scope pos) (Ab (.Name y py)) spos.line X.env=pure true)(S:Ck (bO X.env.scope X.N scope cap))(hN:Ck (okT X m y))(hc:X.calm=true)(hi:QI2 X tg iter f2)(hg:∀ cl C ex s₀ H₀,QG (qN X (xX scope) scope cl C ex s₀ H₀) tg dg)(ht:∀ cl C ex s₀ H₀,QTs (qN X (xX scope) scope cl C ex s₀ H₀) ifs t)
  (has:∀ g',(⟨tg,iter,ifs,0⟩::grest:Aa Bo)[0+1]? = Ab g'->g'.is_async=0)
  (he:∀ cl C ex s₀ H₀,QK accL (qN X (xX scope) scope cl C ex s₀ H₀) (λacc=>zF false elt (⟨tg,iter,ifs,0⟩::grest) scope pos 0 acc (qN X (xX scope) scope cl C ex s₀ H₀).env) kk) (hs:∀ x,Co iter X.env x=pure x) :
  QS X (.Assign [.Name y py] (.ListComp elt (⟨tg,iter,ifs,0⟩::grest) scope pos) spos) (zG (zE mm cap f2 dg t kk) (gNm m)):=
 have h:=dR hN
 Y5 hc h.2.2.1 (bA S) hi hg ht has he h.1 h.2.1 h.2.2.2 hsw hs
theorem aNm (h:Ck (okT X m x)):QG X (.Name x pos) (gNm m):=
 have h:=dR h
 KP h.2.2.1 h.1 h.2.1 h.2.2.2
theorem aSt {pos':CN}(hs:Jz e (Ab (.Name x pos')) pos.line X.env=pure false)(he:QE X e fa)(h:Ck (okT X m x)):QS X (.Assign [.Name x pos'] e pos) (zG fa (gNm m)):=
 have h:=dR h
 TQ h.2.2.1 he h.1 h.2.1 hs h.2.2.2
theorem aP2 {px py pt:CN} {kt k2 pt2} (h:Ck (decide X.N.Nodup&&(okP X m x&&(okP X l y&&!decide (m=l))))) (hc:X.calm=true) (ha:QA X [a,b] fA)
  (hw:IL [.Tuple [.Name x px,.Name y py] kt pt] (.Tuple [a,b] k2 pt2) X.env=pure (Ab [x,y])) (hs:IM [.Tuple [.Name x px,.Name y py] kt pt] (.Tuple [a,b] k2 pt2) pos.line X.env=pure false) :
  QS X (.Assign [.Tuple [.Name x px,.Name y py] kt pt] (.Tuple [a,b] k2 pt2) pos) (gV m l fA):=by
 unfold Ck at h;simp only[A0,AG,Ip,Gg] at h;exact TN hc h.1 ha (jO h.2.1).1 (jO h.2.2.1).1 h.2.2.2 (jO h.2.1).2 (jO h.2.2.1).2 hw hs
theorem aRs {C:Af}{np cpos:CN}(h:Ck (okG X x))(hc:X.calm=true)(hF:Fn1 X)(hm:∃ Ae,X.mg x=Ab (.ref C)/\b9 X.K C Ae=true)(ha:QA X (e::qO) fA)(s:St1 X e qO cpos) :
  QS X (.Raise (Ab (.Call (.Name x np) (e::qO) [] cpos)) none pos) (jQ (.ref C) fA):=
 have h:=w8 h
 let ⟨_,hm,hx⟩:=hm
 Y6 hc hF h.1 hm hx ha h.2.1 s.1 s.2
theorem aTr {nm:As}{body:Aa Dd}{b₀:Dd}{suite:Aa Dd}{np hpos:CN}{cs:Aa Ac}(h:Ck (okG X x&&(okP X m nm&&(decide X.N.Nodup&&decide (X.N.length=n)))))(hF:Fn1 X)(hm:∃ C0,X.mg x=Ab (.ref C0)/\∀ c∈cs,Hn X.K c (.ref C0)=Ab true)(hb:∀ E pn,ZPass (Cx.tryIn X E pn)->QB (Cx.tryIn X E pn) body f)(hs:∀ e,QB (Cx.suite X e) (b₀::suite) g) :
  QS X (.Try body [.ExceptHandler (Ab (.Name x np)) (Ab nm) (b₀::suite) hpos] [] [] pos) (bL n m cs f g):=by
 unfold Ck at h;simp only[A0,AG] at h;obtain⟨C0,hm,hcs⟩:=hm;exact TR hF hb hs (w8 h.1).1 hm hcs h.2.2.1 (jO h.2.1).1 (jO h.2.1).2 (w8 h.1).2.1 h.2.2.2
end
structure TxS (K:Aj)(mg:As->Al Ac)(tp:Ai->Dd)(tab:Aa (As × Ai × Aa As))(bl:Aa As)(clt plt:Aa (As × Af))(cs:Aa Ac)(exl:Aa Af)(cst:Aa (As × Am)):Prop where
 src:∀ (j:Ai) {x:As} {i:Ai} {ps:Aa As},tab[j]? = Ab (x,i,ps)->Src K mg x (tp i) ps
 nb:∀ {x:As},Ck (bl.contains x)->mg x=none
 cl:∀ {x:As} {C:Af},clt.lookup x=Ab C->mg x=Ab (.ref C)/\CJ K (.ref C)=true
 rz:∀ {x:As} {C:Af},plt.lookup x=Ab C->∃ Ae,mg x=Ab (.ref C)/\b9 K C Ae=true
 ct:∃ C0,mg "FarError" = Ab (.ref C0)/\∀ c∈cs,Hn K c (.ref C0)=Ab true
 cls:ClsK K exl
 gi:∀ {x:As} {v:Am},cst.lookup x=Ab v->∃ t,mg x=Ab (.int v t)
section
variable {K:Aj}{mg:As->Al Ac}{cm:Ap}{tp:Ai->Dd}{tab:Aa (As × Ai × Aa As)}{bl:Aa As}{clt plt:Aa (As × Af)}{cs:Aa Ac}{exl:Aa Af}{cst:Aa (As × Am)}{x:As}{i m:Ai}{ps:Aa As}{F:DF}{g:DS}
theorem dq (P:A5)(w:AL)(base:AB)(k j:Ai)(T:TxS K mg tp tab bl clt plt cs exl cst)(hj:tab[j]? = Ab (x,i,ps))(h:Ck (fnB (j9 (qH (tp i))) ps (qH (tp i))&&decide ((j9 (qH (tp i))).length=m)))(hF:F=qX m g)
  (hb:∀ (f:Af) (cdv:Ac) (A:AK) (outer:Aa Gj) (s:Ag) (H:Hp) (E:XK),jU K x cdv->RoomC cm k (A.deeper (Eb x (qH (tp i)) s.heap.objs.size f cdv)) ->
   QB (cxC cm P w K mg base (j9 (qH (tp i))) x (qH (tp i)) f cdv A outer s H E) (zJ (tp i)) g):DfS F P w K mg base cm (k+1) x ps.length:=by
 unfold Ck at h;simp only[A0,AG] at h;obtain⟨h,rfl⟩:=h;exact⟨hF▸RF (T.src j hj) (d9 h) rfl hb⟩
theorem dqP {P:A5}{w:AL}{base:AB}(k j:Ai)(T:TxS K mg tp tab bl clt plt cs exl cst)(hj:tab[j]? = Ab (x,i,ps))(h:Ck (fnB (j9 (qH (tp i))) ps (qH (tp i))&&decide ((j9 (qH (tp i))).length=m)))
  (hb:∀ (f:Af) (cdv:Ac) (A:AK) (outer:Aa Gj) (s:Ag) (H:Hp) (E:XK),jU K x cdv->RoomC cm k (A.deeper (Eb x (qH (tp i)) s.heap.objs.size f cdv)) ->
   QB (cxC cm P w K mg base (j9 (qH (tp i))) x (qH (tp i)) f cdv A outer s H E) (zJ (tp i)) g):lB P w K mg base cm (k+1) x ps (qX m g):=by
 unfold Ck at h;simp only[A0,AG] at h;obtain⟨h,rfl⟩:=h;exact NY (T.src j hj) (d9 h) rfl hb
end
theorem hv {a b:Prop}(f:a->b)(h:a):b:=f h
inductive SrcF (K:Aj)(x:As)(st:Dd)(ps:Aa As):Prop
 |mk {f:Af} {oc:Ac} {od an:Al Af} {osl:Aw (Al Ac)} {kV doc pm cdv ct:Ac} (a:Bw K AW x=Ab (Ab (.ref f)))
  (l:K.lookup f=Ab ⟨oc,od,.func (Em x x (wV st) (zJ st) (qH st) .none kV doc pm an cdv ct),osl⟩) (c:IC K cdv x=true) (k:CJ K (.ref f)=true):SrcF K x st ps
def cJ (K:Aj)(tp:Ai->Dd):Aa (As × Ai × Aa As)->Prop
 |[]=>Jn
 |(x,i,ps)::t=>SrcF K x (tp i) ps/\cJ K tp t
def BdF (tp:Ai->Dd):Aa (As × Ai × Aa As)->Prop
 |[]=>Jn
 |(x,i,ps)::t=>(∀ (kV doc pm:Ac) (an:Al Af) (cdv ct:Ac) (us:Aa Ac),us.length=ps.length->OX (Em x x (wV (tp i)) (zJ (tp i)) (qH (tp i)) .none kV doc pm an cdv ct) ⟨us,[]⟩=pure (ps.zip us))/\BdF tp t
def cF (K:Aj):Aa (As × Af)->Prop
 |[]=>Jn
 |(x,C)::t=>Bw K AW x=Ab (Ab (.ref C))/\cF K t
def cG (K:Aj):Aa (As × Am)->Prop
 |[]=>Jn
 |(x,v)::t=>(∃ k,Bw K AW x=Ab (Ab (.int v k)))/\cG K t
noncomputable def RL:Al (Al Ac)->Ap
 |some none=>true
 |_=>false
section
variable {K:Aj}{h:AB}{mg:As->Al Ac}{tp:Ai->Dd}
theorem hX (X:K.In h)(G:h.Ns AW mg):∀ (tab:Aa (As × Ai × Aa As)),cJ K tp tab->BdF tp tab->∀ (j:Ai) {x:As} {i:Ai} {ps:Aa As},tab[j]? = Ab (x,i,ps)->Src K mg x (tp i) ps
 |[],_,_,_,_,_,_,e=>by cases e
 |(x,i,ps)::t,H,B,0,_,_,_,e=>by
  cases e;obtain⟨a,l,c,k⟩:=H.1;exact N2 X G a l c k B.1
 |(x,i,ps)::t,H,B,j+1,_,_,_,e=>hX X G t H.2 B.2 j e
theorem wM {β:Type}{p:As->β->Prop}{x:As}{C:β}:∀ {l:Aa (As × β)},(∀ y∈l,p y.1 y.2)->l.lookup x=Ab C->p x C
 |[],_,e=>by cases e
 |(y,b)::t,H,e=>by
  rw[Gp] at e;cases q:x == y with
  |true =>
   rw[q] at e;cases e;rw[eq_of_beq q];exact H (y,_) (.head _)
  |false =>
   rw[q] at e;exact wM (λz hz=>H z (.tail _ hz)) e
theorem p5 (X:K.In h)(G:h.Ns AW mg):∀ {l:Aa (As × Af)},cF K l->∀ y∈l,mg y.1=Ab (.ref y.2)
 |(x,C)::t,H,y,hy=>by
  rcases Av.mp hy with rfl|hy
  .exact Sh X G H.1
  .exact p5 X G H.2 y hy
theorem rM (X:K.In h)(G:h.Ns AW mg):∀ {l:Aa (As × Am)},cG K l->∀ y∈l,∃ k,mg y.1=Ab (.int y.2 k)
 |(x,C)::t,H,y,hy=>by
  rcases Av.mp hy with rfl|hy
  .obtain⟨k,e⟩:=H.1
   exact⟨k,Sh X G e⟩
  .exact rM X G H.2 y hy
theorem SG {tab:Aa (As × Ai × Aa As)}{bl:Aa As}{clt plt:Aa (As × Af)}{cs:Aa Ac}{exl:Aa Af}{cst:Aa (As × Am)}{far:Af}(B:BdF tp tab)(hp:∀ y∈plt,y∈clt)(hf:clt.lookup ("FarError" : As)=Ab far)(X:K.In h)(G:h.Ns AW mg)
  (s:cJ K tp tab) (z:(bl.all λx=>RL (Bw K AW x))=true) (q:cF K clt) (g:cG K cst) (e1:exl.all (lM K)=true) (e2:X3 K=true) (e3:PU K exl=true) (e4:RD K cs far=true) (e5:RB K (plt.map (·.2)) far=true) (e6:RC K (clt.map (·.2))=true):TxS K mg tp tab bl clt plt cs exl cst where
 src:=hX X G tab s B
 nb:=λ{x} hx=>by
  have e:=Bi.mp z x (by simpa using Dx.mp hx)
  refine PySem.W.mg_none_of X G ?_
  revert e
  cases Bw K AW x with
  |none=>intro e;cases e
  |some y=>cases y with
   |none=>intro _;rfl
   |some y=>intro e;cases e
 cl:=λh=>⟨wM (p:=λx C=>mg x=Ab (.ref C)) (p5 X G q) h,wM (p:=λ_ C=>CJ K (.ref C)=true) (λy hy=>Bi.mp e6 y.2 (Si hy)) h⟩
 rz:=λh=>⟨far,wM (p:=λx C=>mg x=Ab (.ref C)) (λy hy=>p5 X G q y (hp y hy)) h,wM (p:=λ_ C=>b9 K C far=true) (λy hy=>Bi.mp e5 y.2 (Si hy)) h⟩
 ct:=⟨far,wM (p:=λx C=>mg x=Ab (.ref C)) (p5 X G q) hf,λv hv=>Bd (Bi.mp e4 v hv)⟩
 cls:=PX e1 e2 e3
 gi:=λh=>wM (p:=λx v=>∃ k,mg x=Ab (.int v k)) (rM X G g) h
end
structure LamT where
 qual:As
 params:Lm
 body:AM
 scope:Cs
noncomputable def xT (sc:Cs):Aa As:=sc.names.filterMap λy=>if y.2 == .free then Ab y.1 else none
inductive CloAt (h:AB)(H:Hp)(fs:Aa Af)(L:LamT)(a:Af)(cv:Aa V):Prop
 |mk (cl:Aa (As × Af)) (pm ctv:Ac) (c:Af) (oc:AX) (ws:Aw Ac) (t:Os) (o:h.get? a=Ab (Jd "<lambda>" L.qual L.params L.body L.scope cl pm c ctv)) (hc:H c=Ab (.frz oc (.frz oc (.own 0)))) (hd:oc.data=.fields ws) (ht:ws[1]? = Ab (.str L.qual t))
  (inj:∀ x y d,cl.lookup x=Ab d->cl.lookup y=Ab d->x=y) (cel:∀ x d,cl.lookup x=Ab d->H d=none/\∃ v,h.IsCell d v) (has:∀ x,L.scope.names.lookup x=Ab .free->∃ d,cl.lookup x=Ab d)
  (len:cv.length=(xT L.scope).length) (val:∀ (j:Ai) x v,(xT L.scope)[j]? = Ab x->cv[j]? = Ab v->∃ d u,cl.lookup x=Ab d/\qK v u/\h.IsCell d (Ab u)) (hn:H a=none) (hf:a ∉ fs):CloAt h H fs L a cv
theorem CloAt.at {X:Cx}{pins:Aa (Af × AX)}{σ:_L.St}{H:Hp}{s:Ag}{L:LamT}{a:Af}{cv:Aa V}(C:CloAt X.s₀.heap X.H₀ X.fs L a cv)(F:Fn1 X)(I:Inv X pins σ H s):CloAt s.heap H (frs X.stack) L a cv:=by
 obtain⟨cl,pm,ctv,c,oc,ws,t,o,hc,hd,ht,inj,cel,has,len,val,hn,hf⟩:=C;have nx:∀ b,b ∉ X.ex:=λb=>by rw[F.1];simp
 have nf:∀ b o,X.s₀.heap.get? b=Ab o->b ∉ X.fs->b ∉ frs X.stack:=λb o e n z=>(F.mem.mp z).elim (AZ (Ax (Az e) I.ok.above)) n;have kc:∀ d v,X.H₀ d=none->X.s₀.heap.IsCell d v->s.heap.IsCell d v:=λd v h1 ⟨o,e,q⟩=>let ⟨_,z⟩:=I.base.any e h1 (nx d);⟨_,z,q⟩
 refine⟨cl,pm,ctv,c,oc,ws,t,I.base.keep a _ o hn hf (nx a),I.base.frzs _ _ _ hc,hd,ht,inj,λx d e=>?_,has,len,λj x v e1 e2=>?_,I.base.free a _ o hn (nx a),nf a _ o hf⟩
 .obtain⟨h1,v,h3⟩:=cel x d e
  obtain⟨ob,e3,q⟩:=id h3;exact⟨I.base.free d ob e3 h1 (nx d),v,kc d v h1 h3⟩
 .obtain⟨d,u,q1,q2,q3⟩:=val j x v e1 e2
  exact⟨d,u,q1,q2,kc d _ (cel x d q1).1 q3⟩
noncomputable def W6 (cm:Ap)(P:A5)(w:AL)(K:Aj)(mg:As->Al Ac)(base:AB)(N:Aa As)(L:LamT)(cl:Aa (As × Af))(f:Af)(cd:Ac)(A:AK)(outer:Aa Gj)(s:Ag)(H:Hp)(E:XK):Cx where
 prog:=P
 w:=w
 K:=K
 mg:=mg
 base:=base
 A:=A.deeper (IG L.qual L.scope s.heap.objs.size f cd cl)
 N:=N
 s₀:=s
 H₀:=H
 env:=IG L.qual L.scope s.heap.objs.size f cd cl
 outer:=outer
 stack:=IG L.qual L.scope s.heap.objs.size f cd cl::outer
 ex:=[]
 calm:=cm
 fn:=λ_=>false
 pn:=[]
 xe:=xeL P w A (IG L.qual L.scope s.heap.objs.size f cd cl) outer H s E
structure LamSc (L:LamT)(ps:Aa As):Prop where
 kind:L.scope.kind=.function
 co:L.scope.isCoroutine=false
 gen:L.scope.isGenerator=false
 nocell:∀ y∈L.scope.names,y.2≠.cell
 par:∀ x∈ps,L.scope.names.lookup x=Ab .local
 one:ps.length<=1
 fr:∀ x∈xT L.scope,L.scope.names.lookup x=Ab .free
def fW (P:A5)(w:AL)(K:Aj)(mg:As->Al Ac)(base:AB)(cm:Ap)(k:Ai)(L:LamT)(n:Ai)(G:Aa D->DF):Prop:=
 ∀ (A:AK) (outer:Aa Gj) (s:Ag) (H:Hp) (us:Aa Ac) (ws cv:Aa V) (a:Af) (P':Hp) (α : Aa Af) (S:Sto) (caps ds:Aa D) (Q:VK) (E:XK),RoomC cm k A->Env0 P w K mg base A outer s H->CloAt s.heap H (frs outer) L a cv->Rel K H P' α S ->
  qD K P' α caps cv->qD K P' α ds ws->qJ ws us->ds.length=n->spR K P' α (G caps ds S) Q E->Fn (Ar P w) A (.call (.ref a) ⟨us,[]⟩) (CR (CXd P w) outer P w H s Q E) s
section
variable {P:A5}{w:AL}{K:Aj}{mg:As->Al Ac}{base:AB}{cm:Ap}{L:LamT}{ps:Aa As}
theorem J2 {cl:Aa (As × Af)}{f:Af}{cd:Ac}{A:AK}{outer:Aa Gj}{s:Ag}{H:Hp}{E:XK}{ws cv:Aa V}{h':AB}{tk:Ai}(S:LamSc L ps)(hd:cm=true->A.handled=none)(e0:Env0 P w K mg base A outer s H)
  (inj:∀ x y d,cl.lookup x=Ab d->cl.lookup y=Ab d->x=y) (cel:∀ x d,cl.lookup x=Ab d->H d=none/\∃ v,s.heap.IsCell d v) (has:∀ x,L.scope.names.lookup x=Ab .free->∃ d,cl.lookup x=Ab d)
  (len:cv.length=(xT L.scope).length) (val:∀ (j:Ai) x v,(xT L.scope)[j]? = Ab x->cv[j]? = Ab v->∃ d u,cl.lookup x=Ab d/\qK v u/\s.heap.IsCell d (Ab u)) (hl:ws.length=ps.length) (r:qJ ws us)
  (hns:h'.Ns s.heap.objs.size λy=>(ps.zip us).reverse.lookup y) (hk:∀ b o,s.heap.get? b=Ab o->h'.get? b=Ab o) :
  Inv (W6 cm P w K mg base (ps++xT L.scope) L cl f cd A outer s H E) [] ((ws++cv).map Ab) H { s with heap:=h',toks:=tk }:=by
 have kc:∀ d v,s.heap.IsCell d v->h'.IsCell d v:=λd v ⟨o,e,q⟩=>⟨o,hk d o e,q⟩;have no:∀ b:Af,b ∉ ([]:Aa Af):=λb=>by simp
 refine⟨⟨e0.mod,S.kind,rfl,rfl,Aq _,inj,λy hy=>?_,(λy c z=>nomatch z),hd,Lc e0.frames,.inr ⟨rfl,rfl⟩,λb z=>absurd z (no b),e0.bs,e0.bsz,λb _ _=>no b,λb z=>absurd z (no b),e0.funs,e0.frf⟩,
  rfl,e0.bare,Un.kept hk,⟨_,hns,λi y v h1 h2 h3=>?_⟩,λy c h=>?_,e0.hok.fresh (Aq _),λy c h=>(cel y c h).1,λp hp=>absurd (show p∈([]:Aa (Af × AX)) from hp) (by simp),e0.hok.kept hk,?_⟩
 .rcases hy with hy|hy
  .exact absurd rfl (S.nocell _ (Dk hy))
  .exact has y hy
 .have h1:(ps++xT L.scope)[i]? = Ab y:=h1
  rw[By] at h2;obtain⟨v',h2,e⟩:=Bn.mp h2;cases e;by_cases hi:i<ps.length
  .rw[AY hi] at h1
   rw[AY (by rw[hl];exact hi)] at h2
   obtain⟨u,hu,rv⟩:=r.get h2;refine⟨u,rv,.inl ⟨S.par y (AQ h1),?_⟩⟩;have one:=S.one;cases ps with
   |nil=>cases h1
   |cons p t =>
    cases t with
    |cons _ _=>simp at one
    |nil =>
     have i0:i=0:=by simpa using hi
     subst i0;cases us with
     |nil=>cases hu
     |cons u' us =>
      cases h1;cases hu;simp
  .rw[Bf (O8 hi)] at h1
   rw[Bf (by rw[hl];exact O8 hi),hl] at h2
   obtain⟨d,u,q1,q2,q3⟩:=val _ y v h1 h2;exact⟨u,q2,.inr ⟨.inr (S.fr y (AQ h1)),d,q1,kc d _ q3⟩⟩
 .obtain⟨_,v,q⟩:=cel y c h
  exact⟨v,kc c v q⟩
 .show _=(ps++xT L.scope).length
  simp[hl,len]
theorem FM {k:Ai}{fe:DE}(S:LamSc L ps)(hb:∀ (cl:Aa (As × Af)) (pm cdv ctv:Ac) (us:Aa Ac),us.length=ps.length->OX (Wz "<lambda>" L.qual L.params L.body L.scope cl pm cdv ctv) ⟨us,[]⟩=pure (ps.zip us))
  (hbody:∀ (cl:Aa (As × Af)) (f:Af) (cd:Ac) (A:AK) (outer:Aa Gj) (s:Ag) (H:Hp) (E:XK),RoomC cm k (A.deeper (IG L.qual L.scope s.heap.objs.size f cd cl)) ->
   QE (W6 cm P w K mg base (ps++xT L.scope) L cl f cd A outer s H E) L.body fe):fW P w K mg base cm (k+1) L ps.length λcaps ds S=>fe ((ds++caps).map Ab) S:=by
 intro A outer s H us ws cv a P' α St caps ds Q E hr e0 C r rc rd rv hn af;obtain⟨cl,pm,ctv,c,oc,vs,t,o,hc,hd,ht,inj,cel,has,len,val,hna,hf⟩:=C;have af:spR K P' α (fe ((ds++caps).map Ab) St) Q E:=af;have lim:s.heap.NoLimit:=e0.mod.nolimit.keeps λb o e=>(e0.bs b o e).1;have hul:us.length=ps.length:=by rw[<- rv.length,<- rd.length];exact hn
 have hloc:∀ y∈ps.zip us,L.scope.names.lookup y.1=Ab .local:=λy hy=>S.par _ (IW hy).1;refine PySem.W.kla_callFunE hr.depth o rfl S.co S.gen rfl ⟨c,oc,vs,t,rfl,(e0.hok c _ hc).1,hd,ht⟩ ?_;rw[hb cl pm (.ref c) ctv us hul];refine Ak (wpAny_newFunctionEnv S.nocell hloc (λh₁ hns hsb=>?_) S.kind);have hk₁:∀ b o,s.heap.get? b=Ab o->h₁.get? b=Ab o:=λb o e=>hsb.extBut b o (AZ (Az e)) (Ah _ e);refine⟨lim.keeps hk₁,?_⟩;show Fn _ _ (.expr L.body (IG L.qual L.scope s.heap.objs.size a (.ref c) cl)) _ _;have I:=J2 (cm:=cm) (f:=a) (cd:=.ref c) (E:=E) (tk:=s.toks+(ps.zip us).length) S hr.hd e0 inj cel has len val (by rw[<- rd.length];exact hn) rv hns hk₁
 have re:qY K P' α ((ws++cv).map Ab) ((ds++caps).map Ab):=by
  have z:=rd.append rc;refine⟨by simp[z.length,rd.length,rc.length],λi d e=>?_⟩
  rw[By] at e;obtain⟨d',e1,e2⟩:=Bn.mp e;cases e2;obtain⟨v,h1,h2⟩:=z.get e1;exact⟨v,by rw[By,h1];rfl,h2⟩
 refine PySem.W.kla_codeExpr (Ff ((hbody cl a (.ref c) A outer s H E (hr.deeper _)).1 [] _ _ H Q I ⟨P',α,_,St,r,re,?_⟩) (λu s' q=>?_) λ_ _ y=>y)
 .cases z:fe ((ds++caps).map Ab) St with
  |ok d S'=>rw[z] at af;exact af
  |ex e x S'=>rw[z] at af;exact λu s' q=>lS (A:=A) rfl q λH' P1 α1 r1 e1 e2=>af H' P1 α1 r1 e1 e2
  |bad=>rw[z] at af;exact An af
 .obtain⟨v,H',I',rv',q⟩:=q
  exact⟨v,H',I'.os,I'.bare,I'.base,I'.hok,rv',q⟩
end
open Classical in
def jY (i:Ai)(fa:DA)(a:Af)(cv:Aa V)(n:Ai)(G:Aa D->DF):DE:=λenv S=>match env[i]? with
 |some (Ab (.clo b vs caps))=>if b=a/\vs=cv then (fa env S).bind λds S1=>if ds.length=n then G caps ds S1 else .bad else .bad
 |_=>.bad
section
variable {X:Cx}{cm:Ap}{k n i:Ai}{x:As}{p pos:CN}{e:AM}{es:Aa AM}{fa:DA}{L:LamT}{G:Aa D->DF}{a:Af}{cv:Aa V}
set_option tactic.hygienic true in
theorem U0 {S:Sto}{P:Hp}{α:Aa Af}{Ok:D->Sto->Prop}(h:qG X P α (jY i fa a cv n G env S) Ok):∃ caps,env[i]? = Ab (Ab (.clo a cv caps))/\qG X P α ((fa env S).bind λds S1=>if ds.length=n then G caps ds S1 else .bad) Ok:=by
 unfold jY at h
 split at h
 .rename_i b vs caps e
  obtain⟨⟨rfl,rfl⟩,h1⟩:=xZ h;exact⟨caps,e,h1⟩
 .exact An h
theorem RH {h:AB}{H:Hp}{fs:Aa Af}(C:CloAt h H fs L a cv):PySem.W.FnAt a h:=by
 obtain⟨cl,pm,ctv,c,oc,ws,t,o,_⟩:=C;exact⟨_,_,_,_,o⟩
theorem U1 {pins:Aa (Af × AX)}{σ:_L.St}{H P:Hp}{α:Aa Af}{s:Ag}{Q:VK}{ws:Aa V}{ds:Aa D}{S:Sto}(LX:fW X.prog X.w X.K X.mg X.base cm k L n G)(hr:RoomC cm k X.A)(F:Fn1 X)(C:CloAt X.s₀.heap X.H₀ X.fs L a cv)
  (I:Inv X pins σ H s) (r:Rel X.K H P α S) (rc:qD X.K P α caps cv) (rp:qD X.K P α ds ws) (rv:qJ ws us) (af:qU X P α (if ds.length=n then G caps ds S else .bad) Q):Ao (Ar X.prog X.w) X.A (call (.ref a) us) (EP X pins σ Q) X.xe s:=by
 obtain⟨hn,af⟩:=xZ af;exact b7 (λ_=>F) I af (LX X.A X.stack s H us ws cv a P α S caps ds Q _ hr I.env0 (C.at F I) r rc rp rv hn (sJ af))
theorem FO {pins:Aa (Af × AX)}{σ:_L.St}{H P:Hp}{α:Aa Af}{s:Ag}(hN:X.N[i]? = Ab x)(hv:Vis X.env.scope x)(hd:(x == ("__debug__" : As))=false)(hcd:(x == ("__classdict__" : As))=false)
  (I:Inv X pins σ H s) (re:qY X.K P α σ env) (he:env[i]? = Ab (Ab (.clo a cv caps))) (h:∀ s1,Inv X pins σ H s1->qD X.K P α caps cv->Q (.ref a) s1):Ao (Ar X.prog X.w) X.A (eval (.Name x p) X.env) Q X.xe s:=by
 obtain⟨v,e1,rp⟩:=re.2 i _ he;simp only[Rep] at rp;obtain⟨rfl,rc⟩:=rp;refine thn (dX hN hv hd hcd pins s σ H (λv H'=>v=.ref a/\H'=H) I ⟨_,e1,rfl,rfl⟩) λu s1 ⟨v,H1,I1,rv,z1,z2⟩=>?_;subst z1;subst z2;cases (show u=AU a from rv)
 exact h s1 I1 rc
theorem U8 (LX:fW X.prog X.w X.K X.mg X.base cm k L n G)(hr:RoomC cm k X.A)(F:Fn1 X)(C:CloAt X.s₀.heap X.H₀ X.fs L a cv)(hN:X.N[i]? = Ab x)(hv:Vis X.env.scope x)(hd:(x == ("__debug__" : As))=false)(hcd:(x == ("__classdict__" : As))=false) :
  PE X (.Call (.Name x p) [] [] pos) (tD X (jY i qB a cv n G)):=by
 intro pins s σ H Q I h;obtain⟨P,α,env,S,r,re,af⟩:=h;obtain⟨caps,e1,af⟩:=U0 af;refine CW (FO hN hv hd hcd I re e1 λs1 I1 rc=>?_);exact PySem.W.callWith_F0 (RH (C.at F I1)) (U1 (us:=[]) LX hr F C I1 r rc .nil .nil af)
end
theorem rA {i:Ai}{c:Ac}(l:Aa Ac)(h:IP l):IP (l++[DL i,DL j,c]):=by
 fun_induction IP l with
 |case1=>simp[IP,DL]
 |case2 _ _ _ _ _ qO ih=>simp only[Ky,IP];exact ih h
 |case3=>exact An h
set_option tactic.hygienic true in
theorem iL {pos:CN}{i:Ai}{c v:Ac}(l:Aa Ac)(h:IP l)(e:Lo pos (l++[DL i,DL j,c])=Ab v):Lo pos l=Ab v\/v=c:=by
 fun_induction IP l with
 |case1 =>
  simp only[Fh,Lo,DL] at e
  split at e
  .exact .inr (Bh e).symm
  .cases e
 |case2 _ _ _ _ _ qO ih =>
  simp only[Ky,Lo] at e ⊢
  split at e
  .rename_i hc;rw[AF hc];exact .inl e
  .rename_i hc;rw[AC hc];exact ih h e
 |case3=>exact An h
theorem MOk.at {K:Aj}{H P:Hp}{α:Aa Af}{a:Af}(e:H' a=H a):∀ {o:MO},MOk K H P α a o->MOk K H' P α a o
 |.dead,_=>trivial
 |.lst _,⟨vs,q,r⟩=>⟨vs,e.trans q,r⟩
 |.dct _,⟨vs,q,r⟩=>⟨vs,e.trans q,r⟩
 |.ins _ _,⟨dx,vs,q,r⟩=>⟨dx,vs,e.trans q,r⟩
section
variable {X:Cx}{pins:Aa (Af × AX)}{σ : _L.St}{H P:Hp}{α : Aa Af}{s:Ag}{S:Sto}{y:As}{c T:Af}
theorem Rel.grown {ps:Aw Ac}{ws:Aw Ac}{t:Os}{i:Ai}(r:Rel X.K H P α S)(m:Mod X.K X.mg X.base)(hy:y∈wC)(ht:Cd X.K y=Ab (c,T))(e:H T=Ab (.tbl ps))(pn:P T=none)(an:T ∉ α)(ok:IP ps.toList)
  (cd:∀ pos cv,Lo pos ps.toList=Ab cv->∃ c oc vs t,cv=.ref c/\H c=Ab (.frz oc (.frz oc (.own 0)))/\oc.data=.fields vs/\vs[1]? = Ab (.str (y ++ ".<locals>." ++ "<lambda>") t)) (hn:H c'=none) (hd:oc.data=.fields ws) (hs:ws[1]? = Ab (.str (y ++ ".<locals>." ++ "<lambda>") t)) :
  Rel X.K (upd (upd H T (.tbl (ps++#[DL i,DL j,.ref c']))) c' (.frz oc (.frz oc (.own 0)))) P α S:=by
 have ne:T≠c':=qS e hn;have go:∀ b u,b≠T->H b=Ab u->upd (upd H T (.tbl (ps++#[DL i,DL j,.ref c']))) c' (.frz oc (.frz oc (.own 0))) b=Ab u:=λb u h q=>by rw[qI (qS q hn),qI h];exact q
 have nT:∀ b∈α,b≠T:=λb h z=>an (z▸h);have nc:∀ (k:Ai) b,α[k]? = Ab b->b≠c':=λk b h z=>r.own k b h (z▸hn);have at':∀ (k:Ai) b,α[k]? = Ab b->upd (upd H T (.tbl (ps++#[DL i,DL j,.ref c']))) c' (.frz oc (.frz oc (.own 0))) b=H b:=λk b h=>by rw[qI (nc k b h),qI (nT b (AQ h))]
 refine⟨λx hx d U hU=>?_,λb u q=>go b u (λz=>by rw[z,pn] at q;cases q) (r.sub b u q),r.len,r.nd,r.sep,λk b o h1 h2=>MOk.at (at' k b h1) (r.at' k b o h1 h2),λk b h=>by rw[at' k b h];exact r.own k b h⟩
 by_cases hT:U=T
 .subst hT
  cases m.inj x hx y hy d c U hU ht;refine⟨_,by rw[qI ne];exact qV,pn,an,?_,λpos cv q=>?_⟩
  .rw[Cb];exact rA _ ok
  .rw[Cb] at q
   rcases iL _ ok q with q|q
   .obtain⟨d,od,vs,t,a1,a2,a3⟩:=cd pos cv q
    exact⟨d,od,vs,t,a1,go d _ (λz=>by rw[z,e] at a2;cases a2) a2,a3⟩
   .exact⟨c',oc,ws,t,q,qV,hd,hs⟩
 .obtain⟨qs,e1,p1,a1,ok1,cd1⟩:=r.tb x hx d U hU
  exact⟨qs,go U _ hT e1,p1,a1,ok1,λpos cv q=>let ⟨d,od,vs,t,b1,b2,b3⟩:=cd1 pos cv q;⟨d,od,vs,t,b1,go d _ (λz=>by rw[z,e] at b2;cases b2) b2,b3⟩⟩
theorem Inv.pinned {a:Af}{o:AX}{h':AB}{tk:Ai}(I:Inv X pins σ H' { s with heap:=h'.push o,toks:=tk })(ha:a=h'.objs.size)(hs:s.heap.objs.size<=h'.objs.size)(I0:Inv X pins σ H s)(hn:H' a=none)(hd:∀ v,o.data≠.cell v)(hfr:o.isFreed=false:=by rfl):Inv X ((a,o)::pins) σ H' { s with heap:=h'.push o,toks:=tk }:=by
 refine I.pins_of λp hp=>?_;rcases Av.mp hp with rfl|hp
 .subst ha
  exact⟨A7 _ hfr,hn,El (Ax I0.lt hs),I0.nofs hs,hd⟩
 .exact I.pin p (AI _ hp)
theorem W9 {M:Im}{params:Lm}{body:AM}{scope:Cs}{lpos:CN}{cl:Aa (As × Af)}(I:Inv X pins σ H s)(r:Rel X.K H P α S)(hy:y∈wC)(ht:Cd X.K y=Ab (c,T))(hc:X.env.code=.ref c)(hq:X.env.qual=y ++ ".<locals>.")
  (hdef:Wv params X.env=([],[])) (hcl:OB scope X.env=pure cl)
  (h:∀ (a:Af) (H':Hp) (s':Ag) (pm ctv:Ac) (c':Af) (oc:AX) (ws:Aw Ac) (t:Os),Inv X ((a,Jd "<lambda>" (y ++ ".<locals>." ++ "<lambda>") params body scope cl pm c' ctv)::pins) σ H' s'->Rel X.K H' P α S ->
   H' c'=Ab (.frz oc (.frz oc (.own 0)))->oc.data=.fields ws->ws[1]? = Ab (.str (y ++ ".<locals>." ++ "<lambda>") t)->Q (.ref a) s'):Ao M X.A (eval (.Lambda params body scope lpos) X.env) Q E s:=by
 obtain⟨ps,e,pn,an,ok,cd⟩:=r.tb y hy c T ht;have hP:s.heap.get? T=Ab (IE ps):=I.hok T _ e;have hC:Qq s.heap c T:=(I.mod.code y hy c T ht).keeps I.bk;have hg:s.heap.Ns AW X.mg:=I.mod.glob.keeps I.bk;have hgP:AW≠T:=λz=>by
  obtain⟨o,es,ep,e1,d1,_⟩:=hg;rw[z,hP] at e1;cases e1;cases d1
 have hb:s.heap.BuiltinsAt X.mg T:=by
  obtain⟨bm,o,b1,b2,b3,b4,b5,b6⟩:=I.mod.bm;have b3':=I.bk _ _ b3;refine⟨bm,o,b1,b2,λz=>?_,λz=>?_,b3',b4,b5,b6⟩
  .obtain⟨o',es,ep,e1,d1,_⟩:=hg
   rw[<- z,b3'] at e1;cases e1;rw[b6] at d1;cases d1
  .rw[z,hP] at b3';cases b3';cases b4
 refine PySem.W.kla_eval hdef ?_;rw[hq];cases hf:Lo lpos ps.toList with
 |none =>
  refine PySem.W.kla_makeFunction (mg:=X.mg) hcl I.ok.glob hg hc hC hP ok hf hgP hb λc' ctv h' tk hx hge hlt hrec htb=>?_;obtain⟨c2,oc,ws,t,z,hoc,hd,hs⟩:=hrec;cases z;have hn:H c'=none:=I.hok.fresh hge;have ne:T≠c':=qS e hn;have hsz:s.heap.objs.size<=h'.objs.size:=Bp hge (CV hlt)
  let o:=Jd "<lambda>" (y ++ ".<locals>." ++ "<lambda>") params body scope cl ((X.mg "__name__").getD .none) c' ctv
  have kp:∀ b u,b≠T->s.heap.get? b=Ab u->(h'.push o).get? b=Ab u:=λb u hb q=>Ah _ (hx b u hb q);have eT:(h'.push o).get? T=Ab (IE (ps++#[DL lpos.line,DL lpos.col,.ref c'])):=Ah _ htb
  let H2:=upd (upd H T (.tbl (ps++#[DL lpos.line,DL lpos.col,.ref c']))) c' (.frz oc (.frz oc (.own 0)))
  have go:∀ b u,b≠T->H b=Ab u->H2 b=Ab u:=λb u h q=>by show upd _ _ _ b=_;rw[qI (qS q hn),qI h];exact q
  have go0:∀ b,b≠T->b≠c'->H b=none->H2 b=none:=λb h h' q=>by show upd _ _ _ b=_;rw[qI h',qI h];exact q
  have nT:∀ b,H b=none->b≠T:=λb q z=>by rw[z,e] at q;cases q
  have eH:H2 T=Ab (.tbl (ps++#[DL lpos.line,DL lpos.col,.ref c'])):=by show upd _ _ _ T=_;rw[qI ne];exact qV
  have un:Un X.fs [] H H2 s.heap (h'.push o):=by
   refine⟨λb u q n _ _=>kp b u (nT b n) q,λb u q n _ _=>⟨u.slots,kp b u (nT b n) q⟩,λb u q n _=>go0 b (nT b n) (AZ (Ax (Az q) hge)) n,λb u q _=>?_,λb xs q=>go b _ (λz=>by rw[z,e] at q;cases q) q,λb u xs q=>go b _ (λz=>by rw[z,e] at q;cases q) q,λb qs q=>?_⟩
   .by_cases hb:b=T
    .rw[hb];exact⟨_,eT⟩
    .exact⟨u,kp b u hb q⟩
   .by_cases hb:b=T
    .rw[hb,e] at q;cases q
     exact⟨_,by rw[hb];exact eH⟩
    .exact⟨#[],by rw[go b _ hb q];simp⟩
  have hok:HOk X.prog X.w H2 (h'.push o):=λb u q=>by
   by_cases hb:b=c'
   .have q':Ab (HO.frz oc (.frz oc (.own 0)))=Ab u:=by rw[<- q,hb];exact qV.symm
    cases q';have z:(h'.push o).get? b=Ab oc:=by rw[hb];exact Ah _ hoc
    exact⟨z,z,_,z⟩
   .by_cases hb2:b=T
    .rw[hb2,eH] at q;cases q
     rw[hb2];exact eT
    .have q':H b=Ab u:=by have q2:upd _ _ _ b=Ab u:=q;rw[qI hb,qI hb2] at q2;exact q2
     refine(I.hok b u q').stay (λd v hd q=>kp d v ?_ q) (λd q=>go d _ (λz=>by rw[z,e] at q;cases q) q) λd xs q=>go d _ (λz=>by rw[z,e] at q;cases q) q
     rcases hd with z|z
     .rw[z];exact hb2
     .intro w;rw[w,e] at z;cases z
  have I2:=I.un (t':=tk) un hok;refine h h'.objs.size H2 _ _ ctv c' oc ws t (Inv.pinned I2 rfl hsz I (go0 _ (λz=>?_) (El hlt) (I.hok.fresh hsz)) λv z=>by cases z) (r.grown I.mod hy ht e pn an ok cd hn hd hs) qV hd hs
  rw[<- z] at e;exact absurd (Ax (I.hok.lt e) hsz) (Dh _)
 |some cv =>
  obtain⟨c',oc,ws,t,rfl,a2,a3,a4⟩:=cd lpos cv hf;refine PySem.W.kla_makeFunctionHit (mg:=X.mg) hcl I.ok.glob hg hc hC hP ok hf hb λctv h' tk hk hsz=>?_;have I2:=I.kept (t':=tk) (h':=h'.push (Jd "<lambda>" (y ++ ".<locals>." ++ "<lambda>") params body scope cl ((X.mg "__name__").getD .none) c' ctv)) λb u q=>Ah _ (hk b u q);exact h h'.objs.size H _ _ ctv c' oc ws t (Inv.pinned I2 rfl hsz I (I.hok.fresh hsz) λv z=>by cases z) r a2 a3 a4
end
noncomputable def b8:Aa Ai->qE->Al (Aa D)
 |[],_=>Ab []
 |i::r,env=>match env[i]? with
  |some (Ab d)=>(b8 r env).map (d::·)
  |_=>none
set_option tactic.hygienic true in
theorem rJ {K:Aj}{P:Hp}{α:Aa Af}{σ:_L.St}(re:qY K P α σ env):∀ (cap:Aa Ai) (caps:Aa D),b8 cap env=Ab caps->∃ cv,qD K P α caps cv/\cv.length=cap.length/\∀ (j i:Ai) v,cap[j]? = Ab i->cv[j]? = Ab v->σ[i]? = Ab (Ab v)
 |[],caps,h=>by cases h;exact⟨[],.nil,rfl,λj i v e=>by simp at e⟩
 |i::r,caps,h=>by
  unfold b8 at h
  split at h
  .rename_i d e
   obtain⟨ds,h1,rfl⟩:=Bn.mp h;obtain⟨cv,a1,a2,a3⟩:=rJ re r ds h1;obtain⟨v,b1,b2⟩:=re.2 i d e;refine⟨v::cv,.cons b2 a1,by simp[a2],λj k w e1 e2=>?_⟩
   cases j with
   |zero=>cases e1;cases e2;exact b1
   |succ j=>exact a3 j k w (by simpa using e1) (by simpa using e2)
  .cases h
open Classical in
def uni (f:Af->Aa V->Res D):Res D:=if ∀ a cv,f a cv=f 0 [] then f 0 [] else .bad
theorem ND {f:Af->Aa V->Res D}{R:Res D}(h:∀ a cv,f a cv=R):uni f=R:=by
 unfold uni;rw[AF λa cv=>(h a cv).trans (h 0 []).symm];exact h 0 []
set_option tactic.hygienic true in
theorem NC {f:Af->Aa V->Res D}(h:uni f≠.bad)(a:Af)(cv:Aa V):f a cv=uni f:=by
 unfold uni at h ⊢
 split at h
 .rename_i z;rw[AF z];exact z a cv
 .exact absurd rfl h
noncomputable def exO (nx:Ap)(R:Res D):Res D:=match nx,R with
 |true,.ex _ _ _=>.bad
 |_,R=>R
def gJ (nx:Ap)(cap:Aa Ai)(n N:Ai)(fa:DA)(g:Af->Aa V->DS):DE:=λenv S=>match b8 cap env with
 |none=>.bad
 |some caps=>(fa env S).bind λds S1=>if ds.length+1=n then exO nx (uni λa cv=>qX N (g a cv) (.clo a cv caps::ds) S1) else .bad
def P8 (P:A5)(w:AL)(K:Aj)(mg:As->Al Ac)(base:AB)(cm:Ap)(k kl m:Ai)(x:As)(n N:Ai)(g:(Aa D->DF)->Af->Aa V->DS):Prop:=
 ∃ f fd st Ns ps,ps.length=n/\Ns.length=N/\mg x=Ab (.ref f)/\Fun K x x st f fd/\yJ K fd ps [] /\ FnScope Ns ps (qH st)/\∀ (L:LamT) (G:Aa D->DF) (a:Af) (cv:Aa V),fW P w K mg base cm kl L m G ->
  ∀ (cdv:Ac) (A:AK) (outer:Aa Gj) (s:Ag) (H:Hp) (E:XK),CloAt s.heap H (frs outer) L a cv->RoomC cm k (A.deeper (Eb x (qH st) s.heap.objs.size f cdv))->QB (cxC cm P w K mg base Ns x (qH st) f cdv A outer s H E) (zJ st) (g G a cv)
noncomputable def gQ (scX:Cs)(NX:Aa As)(sc:Cs)(cap:Aa Ai):Ap:=decide ((xT sc).length=cap.length)&&(cap.zip (xT sc)).all λp=>NX[p.1]? == Ab p.2&&(scX.names.lookup p.2 == Ab .cell||scX.names.lookup p.2 == Ab .free)
section
variable {X:Cx}{pins:Aa (Af × AX)}{σ : _L.St}{H P:Hp}{α : Aa Af}{s:Ag}{S:Sto}{y x:As}{c T:Af}{params:Lm}{body:AM}{scope:Cs}{lpos p pos:CN}{es:Aa AM}{fa:DA}{nx cm:Ap}{k kl m n N:Ai}{cap:Aa Ai}{G:Aa D->DF}{g:(Aa D->DF)->Af->Aa V->DS}
theorem F1 {R:Res D}{Ok:D->Sto->Prop}(h:qG X P α (exO nx R) Ok):R≠.bad/\qG X P α R Ok/\((∃ c x S',R=.ex c x S')->nx=false):=by
 cases R with
 |ok d S'=>exact⟨nofun,by cases nx <;> exact h,λ⟨_,_,_,z⟩=>nomatch z⟩
 |bad=>cases nx <;> exact An h
 |ex c x S' =>
  cases nx with
  |true=>exact An h
  |false=>exact⟨nofun,h,λ_=>rfl⟩
theorem Rel.know {K:Aj}(r:Rel K H P α S)(h:H c'=Ab (.frz oc (.frz oc (.own 0)))):Rel K H (upd P c' (.frz oc (.frz oc (.own 0)))) α S/\qF P (upd P c' (.frz oc (.frz oc (.own 0)))):=by
 have sP:qF P (upd P c' (.frz oc (.frz oc (.own 0)))):=λb u q=>by
  by_cases hb:b=c'
  .have z:=r.sub b u q
   rw[hb,h] at z;cases z;rw[hb];exact qV
  .rw[qI hb];exact q
 refine⟨⟨λx hx d T hT=>let ⟨ps,e,pn,an,ok,cd⟩:=r.tb x hx d T hT;⟨ps,e,(qI λ(z:T=c')=>by rw[z,h] at e;cases e).trans pn,an,ok,cd⟩,λb u q=>?_,r.len,r.nd,λi a o h1 h2 h3=>?_,λi a o h1 h2=>(r.at' i a o h1 h2).mono sP (AA _),r.own⟩,sP⟩
 .by_cases hb:b=c'
  .rw[hb,qV] at q;cases q;rw[hb];exact h
  .rw[qI hb] at q;exact r.sub b u q
 .have hb:a≠c':=by
   rintro rfl;have z:=r.at' i a o h1 h2;cases o with
   |dead=>exact h3 rfl
   |lst ds=>obtain⟨vs,z,_⟩:=z;rw[h] at z;cases z
   |dct kvs=>obtain⟨vs,z,_⟩:=z;rw[h] at z;cases z
   |ins C fs=>obtain⟨dx,vs,z,_⟩:=z;rw[h] at z;cases z
  rw[qI hb];exact r.sep i a o h1 h2 h3
theorem n9 {z:As × Fx}(h:z∈sc.names)(hk:z.2=.free):z.1∈xT sc:=Fv.mpr ⟨z,h,by rw[hk];rfl⟩
set_option tactic.hygienic true in
theorem WO {z:As}(h:z∈xT sc):(z,Ej)∈sc.names:=by
 obtain⟨⟨n,k⟩,h1,h2⟩:=Fv.mp h
 split at h2
 .rename_i e
  have:k=Ej:=by simpa using e
  cases h2;subst this;exact h1
 .cases h2
theorem mP (hB:gQ X.env.scope X.N scope cap=true){j:Ai}{z:As}(h:(xT scope)[j]? = Ab z):∃ i,cap[j]? = Ab i/\X.N[i]? = Ab z/\(X.env.scope.names.lookup z=Ab .cell\/X.env.scope.names.lookup z=Ab .free):=by
 simp only[gQ,A0,AG] at hB;obtain⟨hl,ha⟩:=hB;have hj:j<cap.length:=by rw[<- hl];exact(Bg.mp h).1
 have e:=Au hj;have hz:(cap[j],z)∈cap.zip (xT scope):=Iq.mpr ⟨j,by rw[Oc];exact⟨e,h⟩⟩
 have q:=Bi.mp ha _ hz;simp only[A0,Ia,OA] at q;exact⟨_,e,q.1,q.2⟩
theorem W8 (hB:gQ X.env.scope X.N scope cap=true)(ok:X.Ok):OB scope X.env=pure (wK X.env.cells scope.names []):=kX λz hz hk=>by
 obtain⟨j,hj⟩:=Iq.mp (n9 hz hk);obtain⟨i,_,_,q⟩:=mP hB hj;exact ok.has z.1 q
theorem vW (hB:gQ X.env.scope X.N scope cap=true)(ok:X.Ok){z:As}{d:Af}(h:(wK X.env.cells scope.names []).lookup z=Ab d):X.env.cells.lookup z=Ab d:=by
 rcases uX _ _ h with h|⟨hm,hc⟩
 .cases h
 .obtain⟨j,hj⟩:=Iq.mp (n9 hm rfl)
  obtain⟨i,_,_,q⟩:=mP hB hj;obtain⟨d',e⟩:=ok.has z q;rw[e,Ko] at hc;rw[e,hc]
theorem PV {a:Af}{ws:Aw Ac}{t:Os}{pm ctv:Ac}{cv:Aa V}{s':Ag}(hB:gQ X.env.scope X.N scope cap=true)(I:Inv X ((a,Jd "<lambda>" (y ++ ".<locals>." ++ "<lambda>") params body scope (wK X.env.cells scope.names []) pm c' ctv)::pins) σ H' s')
  (hc:H' c'=Ab (.frz oc (.frz oc (.own 0)))) (hd:oc.data=.fields ws) (hs:ws[1]? = Ab (.str (y ++ ".<locals>." ++ "<lambda>") t)) (hl:cv.length=cap.length) (hv:∀ (j i:Ai) v,cap[j]? = Ab i->cv[j]? = Ab v->σ[i]? = Ab (Ab v)) :
  CloAt s'.heap H' (frs X.stack) ⟨y ++ ".<locals>." ++ "<lambda>",params,body,scope⟩ a cv:=by
 obtain⟨e1,n1,n2,n3,_⟩:=I.pin _ (AI _ (.head _));refine⟨_,pm,ctv,c',oc,ws,t,e1,hc,hd,hs,λz z' d h1 h2=>I.ok.inj z z' d (vW hB I.ok h1) (vW hB I.ok h2),λz d h=>⟨I.freeC z d (vW hB I.ok h),I.cell z d (vW hB I.ok h)⟩,λz hz=>uJ _ _ (.inl (Dk hz)),?_,λj z v h1 h2=>?_,n1,λz=>?_⟩
 .simp only[gQ,A0,AG] at hB
  rw[hl,<- hB.1]
 .obtain⟨i,q1,q2,q3⟩:=mP hB h1
  obtain⟨m,hm,hlk⟩:=I.loc;obtain⟨u,ru,lk⟩:=hlk i z v q2 (hv j i v q1 h2) (q3.elim (λk=>.inr (.inl k)) λk=>.inr (.inr k));rcases lk with⟨kl,_⟩|⟨_,d,hcl,hcell⟩
  .have kl':X.env.scope.names.lookup z=Ab .local:=kl
   rcases q3 with k|k <;> (rw[kl'] at k;cases k)
  .obtain⟨d',hd'⟩:=uJ (cells:=X.env.cells) scope.names [] (.inl (WO (AQ h1)))
   have:=vW hB I.ok hd';rw[hcl] at this;cases this;exact⟨d,u,hd',ru,hcell⟩
 .rcases Av.mp (I.stkSub a z) with z|z
  .exact n2 z
  .exact n3 z
theorem X8 (D:P8 X.prog X.w X.K X.mg X.base cm k kl m x n N g)(LX:fW X.prog X.w X.K X.mg X.base cm kl ⟨y ++ ".<locals>." ++ "<lambda>",params,body,scope⟩ m G)(hr:RoomC cm (k+1) X.A)(hF:nx=false->Fn1 X)(hg:Gl X x)(hdb:(x == ("__debug__" : As))=false)
  (hy:y∈wC) (ht:Cd X.K y=Ab (c,T)) (hc:X.env.code=.ref c) (hq:X.env.qual=y ++ ".<locals>.") (hdef:Wv params X.env=([],[])) (hB:gQ X.env.scope X.N scope cap=true) (ha:PA X es (tDA X fa))
  (he:Ay (.Lambda params body scope lpos::es) X.env=(false,eval (.Lambda params body scope lpos) X.env)::Ay es X.env) (hpl:(Di pos (Ay es X.env)).any (·.1)=false) :
  PE X (.Call (.Name x p) (.Lambda params body scope lpos::es) [] pos) (tD X (gJ nx cap n N fa (g G))):=by
 intro pins s σ H Q I h;obtain⟨P,α,env,S,r,re,af⟩:=h;obtain⟨f,fd,st,Ns,ps,hn,hN,hm,F,hb,hS,hbody⟩:=D;subst hn;subst hN;have af:qG X P α (match b8 cap env with
  |none=>.bad
  |some caps=>(fa env S).bind λds S1=>if ds.length+1=ps.length then exO nx (uni λa cv=>qX Ns.length (g G a cv) (.clo a cv caps::ds) S1) else .bad) (OkV X P α Q):=af
 cases hcap:b8 cap env with
 |none=>rw[hcap] at af;exact An af
 |some caps =>
  rw[hcap] at af;obtain⟨cv,rc,hcl,hv⟩:=rJ re cap caps hcap;refine CW (v3 I hg hm ?_ hdb);refine Hv (h₀:=X.base) I.ok.mod.kin F.kp ?_ he hpl;rw[he];show Ao _ _ (spliced ((false,eval (.Lambda params body scope lpos) X.env)::Di pos (Ay es X.env))) _ _ s;refine Et (W9 I r hy ht hc hq hdef (W8 hB I.ok) λa H1 s1 pm ctv c' oc ws t I1 r1 hc' hd hs=>?_);obtain⟨rk,sk⟩:=Rel.know r1 hc';refine thn (xS ha I1 rk (re.mono sk (AA _)) (qU.base sk (AA _) af) pos) λus s2 ⟨vs,H2,P2,α2,ds,S2,I2,rv,r2,re2,rp,q1,q2,af2⟩=>⟨I2.kIn,?_⟩;obtain⟨hl,af3⟩:=xZ af2;obtain⟨nb,af4,nf⟩:=F1 af3;have e1:=NC nb a cv;rw[<- e1] at af4 nf;have C:=PV hB I2 (r2.sub _ _ (q1 _ _ qV)) hd hs hcl hv;have I3:Inv X pins σ H2 s2:=I2.pins_of λp hp=>I2.pin p (AI _ (Bb _ hp));obtain⟨oc',od,kV,doc,pm',an,cdv,ct,osl,rfl,lk,hcd⟩:=F.ex;have hz:(AU a::us).length=ps.length:=by rw[<- hl,rp.length,rv.length];rfl
  have hb':=hb s2 (.ref a::us) I2.kIn (by rw[Df];exact hz)
  rw[Df] at hb';have rc2:=qD.mono (sk.trans q1) q2 _ _ rc;have af5:=qU.base q1 q2 af4;have rv2:qJ (V.ref a::vs) (AU a::us):=.cons rfl rv;exact b7 (λz=>hF (nf z)) I3 af5 (oF lk hcd hS (by rw[<- hz];exact rv2.length) hr I3.env0 hb' rv2 (lG (hbody _ G a cv LX cdv X.A X.stack s2 H2 _ C (hr.deeper _)).1 r2 (.cons (by simp only[Rep];exact⟨trivial,rc2⟩) rp) (sJ af5)))
end
section
variable {X:Cx}{pins:Aa (Af × AX)}{σ : _L.St}{H P:Hp}{α : Aa Af}{s:Ag}{S:Sto}
noncomputable def kD:DF:=λds S=>match ds with
 |[d,.tup [.ty b,.ty c]]=>if vZ b=true/\vZ c=true then match tyD d S with
   |some a=>.ok (.bl (wB a b||wB a c)) S
   |none=>.bad
  else .bad
 |_=>.bad
inductive KitAt (X:Cx)(u:Ac)(t:Ac)(h:AB):Prop
 |mk (Hh:AB->Prop) (Z:PySem.W.KitX X.K u t Hh) (p:Hh h) (ne:u≠.builtin "__main__.__loader__#opaque"):KitAt X u t h
theorem FK {v:V}{u:Ac}{a:CF}(I:Inv X pins σ H s)(r:Rel X.K H P α S)(q:qK v u)(p:Rep X.K P α d v)(ha:tyD d S=Ab a):KitAt X u (.type a) s.heap:=by
 cases VN r p ha with
 |tup p' ws e sq ea =>
  subst e ea;cases (show u=AU p' from q)
  obtain⟨its,rv',⟨o,h1,h2,_⟩,_⟩:=I.tuple sq;exact⟨_,Jj,⟨o,h1,h2⟩,λz=>nomatch z⟩
 |lst p' ws e sq ea =>
  subst e ea;cases (show u=AU p' from q)
  obtain⟨its,rv',⟨o,_,h1,h2,_⟩,_⟩:=I.list sq;exact⟨_,Hi,⟨o,h1,h2⟩,λz=>nomatch z⟩
 |of ty =>
  cases ty with
  |non=>cases (show u=Bs from q);exact⟨_,Ud,Gk,λz=>nomatch z⟩
  |bl y=>cases (show u=Dt y from q);exact⟨_,Ue,Gk,λz=>nomatch z⟩
  |int i=>obtain⟨t,q⟩:=(show ∃ t,u=Hg i t from q);cases q;exact⟨_,Va,Gk,λz=>nomatch z⟩
  |str y=>obtain⟨t,q⟩:=(show ∃ t,u=Pq y t from q);cases q;exact⟨_,Vb,Gk,λz=>nomatch z⟩
  |flt y=>cases d <;> first|(exact nn ha)|(simp only[Rep] at p;cases p;done)|(simp only[Rep] at p;obtain⟨_,p⟩:=p;cases p.1;done)|(simp only[Rep] at p;obtain⟨_,_,p⟩:=p;cases p.1;done)
  |@lst b xs ea =>
   cases (show u=AU b from q)
   obtain⟨_,_,n,_,h1⟩:=(show qZ X.prog X.w H s.heap b (.lst xs) from I.hok b _ ea)
   exact⟨_,Hi,⟨_,h1,rfl⟩,λz=>nomatch z⟩
  |@frz b ob xs ea =>
   cases (show u=AU b from q)
   obtain⟨_,_,_,n,_,h1⟩:=(show qZ X.prog X.w H s.heap b (.frz ob (.lst xs)) from I.hok b _ ea)
   exact⟨_,Hi,⟨_,h1,rfl⟩,λz=>nomatch z⟩
  |@tup b xs ea =>
   cases (show u=AU b from q)
   obtain⟨_,_,_,p⟩:=(show qZ X.prog X.w H s.heap b (.tup xs) from I.hok b _ ea)
   obtain⟨o,h1,h2,_⟩:=p;exact⟨_,Jj,⟨o,h1,h2⟩,λz=>nomatch z⟩
  |@dK b kvs ea =>
   cases (show u=AU b from q)
   obtain⟨_,_,vs,_,p⟩:=(show qZ X.prog X.w H s.heap b (.dK kvs) from I.hok b _ ea)
   obtain⟨o,es,ep,h1,h2,_⟩:=p;exact⟨_,Jx,⟨o,h1,h2.1⟩,λz=>nomatch z⟩
  |@dT b kvs ea =>
   cases (show u=AU b from q)
   obtain⟨_,_,xs,_,o,es,ep,h1,h2,_⟩:=(show qZ X.prog X.w H s.heap b (.dT kvs) from I.hok b _ ea)
   exact⟨_,Jx,⟨o,h1,h2.1⟩,λz=>nomatch z⟩
set_option tactic.hygienic true in
theorem W2 {ds:Aa D}{Ok:D->Sto->Prop}(h:qG X P α (kD ds S) Ok):∃ d b c a,ds=[d,.tup [.ty b,.ty c]]/\vZ b=true/\vZ c=true/\tyD d S=Ab a/\Ok (.bl (wB a b||wB a c)) S:=by
 unfold kD at h
 split at h
 .rename_i d b c
  obtain⟨⟨h1,h2⟩,h⟩:=xZ h
  split at h
  .rename_i a ha
   exact⟨d,b,c,a,rfl,h1,h2,ha,h⟩
  .exact An h
 .exact An h
theorem VW:wJ X (.builtin "isinstance") kD:=by
 intro pins σ H s P α S vs us ds Q I r rv rp af;obtain⟨d,b,c,a,rfl,hb,hc,ha,ok⟩:=W2 af;obtain⟨v,w,u,x,rfl,rfl,p,p',q,q'⟩:=pM rp rv;simp only[Rep] at p';obtain⟨tp,ws,rfl,sq,t⟩:=p';obtain⟨w1,ws1,rfl,z1,t⟩:=t.cons_inv;obtain⟨w2,ws2,rfl,z2,t⟩:=t.cons_inv;cases t.nil_inv;simp only[Rep] at z1 z2;subst z1 z2;cases (show x=AU tp from q')
 obtain⟨its,rvi,⟨o,h1,h2,n,h3⟩,_⟩:=I.tuple (xG r.sub sq);obtain⟨i1,i2,rfl,y1,y2⟩:=fT rvi;cases (show i1=Ev b from y1)
 cases (show i2=Ev c from y2)
 obtain⟨Hh,Z,hp,ne⟩:=FK I r q p ha;obtain⟨oc,od,odt,osl⟩:=o;cases h2;cases h3;have k1:=mO (K:=X.K) (sN ha) hb;have k2:=mO (K:=X.K) (sN ha) hc;refine PySem.W.kia_tup (its:=[.type b,.type c]) (b:=wB a b||wB a c) Z I.kIn hp h1 ?_ ne λtk=>⟨.bl _,H,I.tok tk,rfl,xr ok r (by simp only[Rep])⟩
 cases z:wB a b with
 |true=>rw[z] at k1;simp only[Ra,k1];rfl
 |false =>
  rw[z] at k1;cases z':wB a c with
  |true=>rw[z'] at k2;simp only[Ra,k1,k2];rfl
  |false=>rw[z'] at k2;simp only[Ra,k1,k2];rfl
end
abbrev FnL:=Aa (Af × Ai × DF)
def ZFn (X:Cx)(cm:Ap)(k:Ai)(Fs:FnL):Prop:=∀ q∈Fs,∃ x,X.mg x=Ab (.ref q.1)/\Def X.prog X.w X.K X.mg X.base cm k x q.2.1 q.2.2
noncomputable def bB (i:Ai)(Fs:FnL)(fa:DA):DE:=λenv S=>match env[i]? with
 |some (Ab (.obj a))=>match Fs.lookup a with
  |some (n,F)=>(fa env S).bind λds S1=>if ds.length=n then F ds S1 else .bad
  |none=>.bad
 |_=>.bad
section
variable {X:Cx}{cm:Ap}{k i:Ai}{x:As}{p pos:CN}{e:AM}{es:Aa AM}{fa:DA}{Fs:FnL}
theorem oW {β:Type}{a:Af}{b:β}:∀ {l:Aa (Af × β)},l.lookup a=Ab b->(a,b)∈l
 |[],h=>by cases h
 |(c,d)::r,h=>by
  rw[Gp] at h;cases q:a == c with
  |true=>rw[q] at h;cases h;rw[eq_of_beq q];exact .head _
  |false=>rw[q] at h;exact .tail _ (oW h)
set_option tactic.hygienic true in
theorem UW {S:Sto}{P:Hp}{α:Aa Af}{Ok:D->Sto->Prop}(h:qG X P α (bB i Fs fa env S) Ok):∃ a n F,env[i]? = Ab (Ab (.obj a))/\(a,n,F)∈Fs/\qG X P α ((fa env S).bind λds S1=>if ds.length=n then F ds S1 else .bad) Ok:=by
 unfold bB at h
 split at h
 .rename_i a e
  split at h
  .rename_i n F q
   exact⟨a,n,F,e,oW q,h⟩
  .exact An h
 .exact An h
theorem BA (Z:ZFn X cm k Fs)(hr:RoomC cm k X.A)(hF:Fn1 X)(hN:X.N[i]? = Ab x)(hv:Vis X.env.scope x)(hd:(x == ("__debug__" : As))=false)(hcd:(x == ("__classdict__" : As))=false)(ha:PA X (e::es) (tDA X fa))
  (he:Ay (e::es) X.env=(false,eval e X.env)::Ay es X.env:=by rfl) (hpl:(Di pos (Ay es X.env)).any (·.1)=false:=by rfl):PE X (.Call (.Name x p) (e::es) [] pos) (tD X (bB i Fs fa)):=by
 intro pins s σ H Q I h;obtain⟨P,α,env,S,r,re,af⟩:=h;obtain⟨a,n,F,e1,hm,af⟩:=UW af;obtain⟨y,hy,f,fd,ps,hn,hmf,hk,hb,hl,G⟩:=Z _ hm;cases hy.symm.trans hmf;obtain⟨v,e2,rp⟩:=re.2 i _ e1;simp only[Rep] at rp;obtain⟨rfl,kp⟩:=rp;refine CW (thn (dX hN hv hd hcd pins s σ H (λv H'=>v=.ref a/\H'=H) I ⟨_,e2,rfl,rfl⟩) λu s1 ⟨v,H1,I1,rv,z1,z2⟩=>?_);subst z1;subst z2;cases (show u=AU a from rv)
 refine Hv (h₀:=X.base) I.ok.mod.kin kp (thn (xS ha I1 r re af pos) λus s2 ⟨vs,H2,P2,α2,ds,S2,I2,rv,r2,re2,rp,q1,q2,af2⟩=>⟨I2.kIn,?_⟩) he hpl;obtain⟨hl,af3⟩:=xZ af2;exact t9 G hr hb hF I2 r2 rv rp hl (qU.base q1 q2 af3)
end
noncomputable def okV (X:Cx)(i:Ai)(x:As):Ap:=decide (X.N[i]? = Ab x)&&(isV (X.env.scope.names.lookup x)&&okN x)
noncomputable def bI (fe:DE):Aa D->DF:=λcaps ds S=>fe ((ds++caps).map Ab) S
noncomputable def W7 (sc:Cs)(ps:Aa As):Ap:=decide (sc.kind=.function)&&(decide (sc.isCoroutine=false)&&(decide (sc.isGenerator=false)&&(decide (∀ y∈sc.names,y.2≠.cell)&&(decide (∀ x∈ps,sc.names.lookup x=Ab .local)&&decide (∀ x∈xT sc,sc.names.lookup x=Ab .free)))))
structure LmX (G:Aa D->DF)(P:A5)(w:AL)(K:Aj)(mg:As->Al Ac)(base:AB)(cm:Ap)(k:Ai)(L:LamT)(n:Ai):Prop where
 get:fW P w K mg base cm k L n G
structure DfL (g:(Aa D->DF)->Af->Aa V->DS)(P:A5)(w:AL)(K:Aj)(mg:As->Al Ac)(base:AB)(cm:Ap)(k kl m:Ai)(x:As)(n N:Ai):Prop where
 get:P8 P w K mg base cm k kl m x n N g
structure ClA (X:Cx)(L:LamT)(a:Af)(cv:Aa V):Prop where
 get:CloAt X.s₀.heap X.H₀ X.fs L a cv
structure ZF (X:Cx)(cm:Ap)(k:Ai)(Fs:FnL):Prop where
 get:ZFn X cm k Fs
structure LmK (X:Cx)(y:As):Prop where
 get:y∈wC/\jU X.K y X.env.code/\X.env.qual=y ++ ".<locals>." /\ ∃ c T,Cd X.K y=Ab (c,T)
section
variable {X:Cx}{cm nx:Ap}{k kl m n N i:Ai}{x y:As}{p pos lpos:CN}{e:AM}{es:Aa AM}{fA:DA}{fe:DE}{L:LamT}{G:Aa D->DF}{a:Af}{cv:Aa V}{g:(Aa D->DF)->Af->Aa V->DS}{Fs:FnL}{cap:Aa Ai}{params:Lm}{body:AM}{scope:Cs}
theorem QD (h:Ck (okV X i x)):X.N[i]? = Ab x/\Vis X.env.scope x/\(x == ("__debug__" : As))=false/\(x == ("__classdict__" : As))=false:=by
 unfold Ck okV at h;simp only[A0,AG] at h;exact⟨h.1,rZ h.2.1,(jN h.2.2).1,(jN h.2.2).2.1⟩
theorem aK0 (LX:LmX G X.prog X.w X.K X.mg X.base cm k L n)(C:ClA X L a cv)(hr:RoomC cm k X.A)(F:Fn1 X)(h:Ck (okV X i x)):QE X (.Call (.Name x p) [] [] pos) (jY i qB a cv n G):=
 have h:=QD h
 ⟨U8 LX.1 hr F C.1 h.1 h.2.1 h.2.2.1 h.2.2.2⟩
theorem aFv (hr:RoomC cm k X.A)(Z:ZF X cm k Fs)(F:Fn1 X)(h:Ck (okV X i x))(ha:QA X (e::es) fA)(s:St1 X e es pos):QE X (.Call (.Name x p) (e::es) [] pos) (bB i Fs fA):=
 have h:=QD h
 ⟨BA Z.1 hr F h.1 h.2.1 h.2.2.1 h.2.2.2 ha.1 s.1 s.2⟩
theorem PD:ZF X cm k []:=⟨λq h=>by cases h⟩
theorem aFn {F:DF}{f:Af}(D:DfS F X.prog X.w X.K X.mg X.base cm j x n)(hj:j<=k)(hm:X.mg x=Ab (.ref f)/\CJ X.K (.ref f)=true)(Z:ZF X cm k Fs):ZF X cm k ((f,n,F)::Fs):=⟨λq h=>by
 rcases Av.mp h with rfl|h
 .exact⟨x,hm.1,D.1.mono hj⟩
 .exact Z.1 q h⟩
theorem RS {ps:Aa As}{q:As}(h:Ck (W7 scope ps))(one:ps.length<=1):LamSc ⟨q,params,body,scope⟩ ps:=by
 unfold Ck at h;simp only[W7,A0,AG] at h;obtain⟨a,b,c,d,e,f⟩:=h;exact⟨a,b,c,d,e,one,f⟩
theorem R0 (D:DfL g X.prog X.w X.K X.mg X.base cm k (kl+1) 0 x n N)(M:LmK X y)(hr:RoomC cm (k+1) X.A)(hF:nx=false->Fn1 X)(h:Ck (okG X x&&gQ X.env.scope X.N scope cap))(hs:Ck (W7 scope []))(hdef:Wv params X.env=([],[]))
  (hb:∀ (q:As) (b:AM) (cl:Aa (As × Af)) (pm cdv ctv:Ac),OX (Wz "<lambda>" q params b scope cl pm cdv ctv) ⟨[],[]⟩ = pure [])
  (hbody:∀ (cl:Aa (As × Af)) (f:Af) (cd:Ac) (A:AK) (outer:Aa Gj) (s:Ag) (H:Hp) (E:XK),RoomC cm kl (A.deeper (IG (y ++ ".<locals>." ++ "<lambda>") scope s.heap.objs.size f cd cl)) ->
   QE (W6 cm X.prog X.w X.K X.mg X.base ([] ++ xT scope) ⟨y ++ ".<locals>." ++ "<lambda>",params,body,scope⟩ cl f cd A outer s H E) body fe)
  (ha:QA X es fA) (s:St1 X (.Lambda params body scope lpos) es pos):QE X (.Call (.Name x p) (.Lambda params body scope lpos::es) [] pos) (gJ nx cap n N fA (g (bI fe))):=by
 unfold Ck at h;rw[A0] at h;obtain⟨m1,m2,m3,c,T,m4⟩:=M.1;have hg:=w8 h.1;exact⟨X8 D.1 (FM (ps:=[]) (RS hs (by decide)) (λcl pm cdv ctv us hl=>by cases us with|nil=>exact hb _ _ _ _ _ _|cons _ _=>cases hl) hbody) hr hF hg.1 hg.2.1 m1 m4 (m2 c T m4) m3 hdef h.2 ha.1 s.1 s.2⟩
theorem ClA.tr {pn:Aa (Af × AX)}(h:ClA X L a cv):ClA (Cx.tryIn X E pn) L a cv:=⟨h.1⟩
theorem lmK {ls:Aa As}(h:(ls.all λy=>(Cd X.K y).isSome)=true)(hc:jU X.K y X.env.code)(hy:Ck (ls.contains y&&wC.contains y))(hq:X.env.qual=y ++ ".<locals>."):LmK X y:=by
 unfold Ck at hy;rw[A0] at hy;obtain⟨⟨c,T⟩,e⟩:=Hm.mp (Bi.mp h y (by simpa using hy.1))
 exact⟨by simpa using hy.2,hc,hq,c,T,e⟩
theorem ZR:ZCall X (.builtin "isinstance") kD:=⟨VW⟩
end
section
variable {P:A5}{w:AL}{K:Aj}{mg:As->Al Ac}{base:AB}{cm:Ap}{tp:Ai->Dd}{tab:Aa (As × Ai × Aa As)}{bl:Aa As}{clt plt:Aa (As × Af)}{cs:Aa Ac}{exl:Aa Af}{cst:Aa (As × Am)}{x:As}{i:Ai}{ps:Aa As}{N:Ai}
theorem dqL {g:(Aa D->DF)->Af->Aa V->DS}(P:A5)(w:AL)(base:AB)(k kl m j:Ai)(T:TxS K mg tp tab bl clt plt cs exl cst)(hj:tab[j]? = Ab (x,i,ps))(h:Ck (fnB (j9 (qH (tp i))) ps (qH (tp i))&&decide ((j9 (qH (tp i))).length=N)))
  (hb:∀ (L:LamT) (G:Aa D->DF) (a:Af) (cv:Aa V),LmX G P w K mg base cm kl L m->∀ (f:Af) (cdv:Ac) (A:AK) (outer:Aa Gj) (s:Ag) (H:Hp) (E:XK),ClA (cxC cm P w K mg base (j9 (qH (tp i))) x (qH (tp i)) f cdv A outer s H E) L a cv->RoomC cm k (A.deeper (Eb x (qH (tp i)) s.heap.objs.size f cdv)) ->
   QB (cxC cm P w K mg base (j9 (qH (tp i))) x (qH (tp i)) f cdv A outer s H E) (zJ (tp i)) (g G a cv)):DfL g P w K mg base cm k kl m x ps.length N:=by
 unfold Ck at h;simp only[A0,AG] at h;obtain⟨h,rfl⟩:=h;obtain⟨f,fd,hm,F,hbd⟩:=T.src j hj;exact⟨f,fd,tp i,_,ps,rfl,rfl,hm,F,hbd,d9 h,λL G a cv LX cdv A outer s H E C hr=>hb L G a cv ⟨LX⟩ f cdv A outer s H E ⟨C⟩ hr⟩
end
noncomputable def tG:D->Sto->Al (Aa D)
 |.lst xs,_=>Ab xs
 |.tup xs,_=>Ab xs
 |.loc n,S=>match S[n]? with
  |some (.lst xs)=>Ab xs
  |_=>none
 |_,_=>none
noncomputable def w9 (mu:Ap)(f:DE):DE:=λenv S=>(f env S).bind λd S1=>match (tG d S1).bind uA with
 |some ys=>if mu then .ok (.loc S1.length) (S1++[.lst ys]) else .ok (.lst ys) S1
 |none=>.bad
section
variable {X:Cx}{pins:Aa (Af × AX)}{σ : _L.St}{H P:Hp}{α : Aa Af}{S:Sto}{s:Ag}
theorem pW {K:Type}{is:K->Ac->Prop}{hash:K->Am}{lt':K->K->Ap}{d:K}{Fit:K->Prop}(kd:_S.Kind X.prog X.w is hash lt' d Fit s.heap)(ad:_S.AddS X.prog X.w is hash s.heap)(hc:X.calm=true)(hu:X.A.units+64<Ee)(I:Inv X pins σ H s)(r:Rel X.K H P α S){a:Af}{its:Aa Ac}
  (ha:s.heap.IsList a its.toArray\/s.heap.IsTuple a its.toArray) (ks:Aa K) (hl:ks.length=its.length) (hk:∀ i v,its[i]? = Ab v->is (ks.getD i d) v) (hn:(_S.srt lt' ks).length<=1000) (hf:∀ k∈ks,Fit k) (enc:K->D)
  (back:∀ k v,is k v->v∈its->∃ vv,qK vv v/\Rep X.K P α (enc k) vv) {E:Ac->Ag->Prop} :
  Ao (Ar X.prog X.w) X.A (call (.type "set") [.ref a]) (λu s1=>Ao (Ar X.prog X.w) X.A (call (.builtin "sorted") [u]) (NewR X pins σ H P α ((_S.srt lt' ks).map enc)) E s1) E s:=by
 have hsz:its.toArray.size=ks.length:=by rw[AD,hl]
 have mem:∀ k,k∈_S.srt lt' ks↔k∈ks:=λk=>_S.xQ kd.ord k ks;have inn:∀ i,i<ks.length->ks.getD i d∈ks:=λi hi=>by simp[IQ,hi]
 refine _S.cQ (U:=_S.srt lt' ks) ad (I.ok.hd hc) li ha (λi=>ks.getD i d) (λi v hv=>hk i v (by simpa using hv)) li (λi hi=>(mem _).mpr (inn i (by rw[<- hsz];exact hi))) λh1 tk1 Z kp=>?_
 have seen:∀ k∈_S.wW (λi=>ks.getD i d) its.toArray.size,k∈ks:=λk hk'=>by
  obtain⟨i,hi,rfl⟩:=_S.uP.mp hk';exact inn i (by rw[<- hsz];exact hi)
 have I1:Inv X pins σ H { s with heap:=h1,toks:=tk1 }:=I.kept kp
 refine _S.iA (s:={ s with heap:=h1,toks:=tk1 }) kd (I.ok.hd hc) li kp Z (λk hk'=>hf k (seen k hk')) (U:=_S.srt lt' ks) li (λk hk'=>(mem k).mpr (seen k hk')) λh2 tk2 D c ps kp2 hD hob hps hp hpl=>?_
 rw[hsz,YI kd.ord] at hps;have vv:∀ (ps:Aa (K × Ac)),(∀ p∈ps,is p.1 p.2/\p.2∈its)->∃ vs,qJ vs (ps.map (·.2))/\qD X.K P α ((ps.map (·.1)).map enc) vs:=by
  intro ps
  induction ps with
  |nil=>exact λ_=>⟨[],.nil,.nil⟩
  |cons p ps ih =>
   intro h;obtain⟨vs,a1,a2⟩:=ih λq hq=>h q (by simp[hq])
   obtain⟨v,b1,b2⟩:=back p.1 p.2 (h p (by simp)).1 (h p (by simp)).2
   exact⟨v::vs,.cons b1 a1,.cons b2 a2⟩
 obtain⟨vs,a1,a2⟩:=vv ps λp hpm=>by simpa using hp p hpm
 rw[hps] at a2;have nd:([(D,HO.lst vs)].map (·.1)).Nodup:=by simp
 have I2:Inv X pins σ (kR H [(D,HO.lst vs)]) { s with heap:=h2,toks:=tk2 }:=Inv.laidL (s:={ s with heap:=h1,toks:=tk1 }) (L:=[(D,HO.lst vs)]) (t':=tk2) I1 kp2 (λp hpm=>by
  have:p=(D,HO.lst vs):=by simpa using hpm
  subst this;exact hD) λp hpm=>by
  have:p=(D,HO.lst vs):=by simpa using hpm
  subst this;refine⟨?_,ps.map (·.2),c,a1,hob⟩
  have:=a1.length;rw[A4] at this;rw[this,Dj]
  lia
 exact⟨D,vs,rfl,I1.hok.fresh hD,I2,a2⟩
set_option tactic.hygienic true in
theorem GB {xs:Aa D}{v:V}{vv:Ac}(I:Inv X pins σ H s)(r:Rel X.K H P α S)(p:Rep X.K P α d v)(q:qK v vv)(h:tG d S=Ab xs) :
  ∃ a vs its,vv=.ref a/\qD X.K P α xs vs/\qJ vs its/\(s.heap.IsList a its.toArray\/s.heap.IsTuple a its.toArray)/\xs.length=its.length:=by
 cases d with
 |lst ys=>exact ZJ I r p q h
 |tup ys=>exact ZJ I r p q h
 |loc n =>
  have hS:S[n]? = Ab (.lst xs):=by
   have h:(match S[n]? with|some (.lst xs)=>Ab xs|_=>none)=Ab xs:=h
   split at h
   .rename_i e;cases h;exact e
   .cases h
  simp only[Rep] at p;obtain⟨a,rfl,ha⟩:=p;cases (show vv=AU a from q)
  obtain⟨vs,z,t⟩:=r.at' n a _ ha hS;obtain⟨its,rv,p,hz⟩:=I.list (SqL.of z);exact⟨a,vs,its,rfl,t,rv,.inl p.isList,by rw[t.length,rv.length]⟩
 |_=>cases h
end
section
variable {X:Cx}{e:AM}{fa:DE}{p1 p2 pos1 pos2:CN}{mu:Ap}
set_option tactic.hygienic true in
theorem sZ (hc:X.calm=true)(hu:X.A.units+64<Ee)(hg:Gl X "sorted")(hm:X.mg "sorted" = none)(hg2:Gl X "set")(hm2:X.mg "set" = none)(ha:PE X e (tD X fa))(he:Ay [e] X.env=(false,eval e X.env)::Ay [] X.env:=by rfl) :
  PE X (.Call (.Name "sorted" p1) [.Call (.Name "set" p2) [e] [] pos2] [] pos1) (tD X (w9 mu fa)):=by
 intro pins s σ H Q I h;obtain⟨P,α,env,S,r,re,af⟩:=h;refine CW (w4 I hg hm iQ ?_);refine Ga ?_ rfl rfl;refine Et ?_;refine Vx (w4 I hg2 hm2 lH (CK ?_ he rfl));rw[he];refine Et (thn (zS ha I r re af) λvv s1 ⟨v,H1,P1,α1,d,S1,G1,af1⟩=>Fc ?_);cases hq:(tG d S1).bind uA with
 |none=>simp only[hq] at af1;exact An af1
 |some ys =>
   simp only[hq] at af1;obtain⟨xs,hd,hs⟩:=Cn.mp hq;obtain⟨a,vs,its,rfl,t1,rv1,e1,l1⟩:=GB G1.inv G1.rel G1.rep G1.val hd;have main:Ao (Ar X.prog X.w) X.A (call (.type "set") [.ref a]) (λu s1=>Ao (Ar X.prog X.w) X.A (call (.builtin "sorted") [u]) (NewR X pins σ H1 P1 α1 ys) X.xe s1) X.xe s1:=by
    unfold uA at hs;cases hi:zY xs with
    |some ns =>
     rw[hi] at hs;dsimp only at hs
     split at hs
     .rename_i hlt
      cases hs;have:=vU hi;subst this;have:=uL t1;subst this;refine pW (d:=0) (_S.VA X.prog X.w s1.heap) (_S.iJ s1.heap) hc hu G1.inv G1.rel e1 ns (by simpa using l1) (λi u hu'=>?_) hlt (λ_ _=>trivial) D.int λk u hk _=>?_
      .have hi:Nx its ns:=by simpa using bY rv1
       obtain⟨t,rfl⟩:=WF hi i u hu';exact Sb _ _ _ _
      .obtain⟨t,rfl⟩:=_S.wX hk
       exact⟨.int k,⟨t,rfl⟩,by simp only[Rep]⟩
     .cases hs
    |none =>
     rw[hi] at hs;dsimp only at hs;cases ht:pO xs with
     |none=>rw[ht] at hs;cases hs
     |some ks =>
      rw[ht] at hs;dsimp only at hs
      split at hs
      .rename_i hlt
       cases hs;have hlt':=Do.mp hlt;have:=sM ht;subst this;have at':∀ (i:Ai) (u:Ac),its[i]? = Ab u->∃ b,u=.ref b/\OF (A8 X.prog X.w) s1.heap (ks.getD i []) b/\∃ vv,qK vv u/\Rep X.K P1 α1 (tpD (ks.getD i [])) vv:=λi u hu'=>by
        have hii:i<its.length:=(Bg.mp hu').1;have hik:i<ks.length:=by rw[A4] at l1;lia
        obtain⟨v,p,q,_⟩:=vV t1 rv1 (j:=i) (by rw[AD];exact hii)
        have hd:(ks.map tpD).getD i D.non=tpD (ks.getD i []):=by simp[IQ,hik]
        rw[hd] at p;have hu2:its.toArray[i]'(by rw[AD];exact hii)=u:=by
         rw[Au hii] at hu';simpa using hu'
        rw[hu2] at q;obtain⟨b,ws,us,rfl,sq,t,rv,⟨o,ho,hcl,m,hd⟩,_,_⟩:=uC G1.inv G1.rel (show Rep X.K P1 α1 (.tup ((ks.getD i []).map D.int)) v from p)
        cases (show u=AU b from q)
        have:=uL t;subst this;exact⟨b,rfl,⟨o,us.toArray,m,ho,hcl,hd,by simpa using eB rv⟩,.ref b,rfl,p⟩
       refine pW (d:=[]) (_S.LL X.prog X.w s1.heap) (_S.PF s1.heap) hc hu G1.inv G1.rel e1 ks (by simpa using l1) (λi u hu'=>?_) (Bd hlt'.1) (λk hk=>?_) tpD λk u hk hm'=>?_
       .obtain⟨b,rfl,q,_⟩:=at' i u hu'
        exact⟨b,rfl,q⟩
       .have:=Bi.mp hlt'.2 k hk
        intro z;subst z;cases this
       .obtain⟨i,hi',rfl⟩:=Bv.mp hm'
        obtain⟨b,eb,q,w,rw',pw⟩:=at' i _ (Au hi');have:k=ks.getD i []:=_S.isT.inj hk ⟨b,eb,q⟩;rw[this];exact⟨w,rw',pw⟩
      .cases hs
   refine thn main λu s2 h2=>Fc (thn h2 λu' s3 ⟨D,vs',e,hn,I',rp'⟩=>?_);subst e;cases mu with
   |true=>exact⟨.ref D,_,I',rfl,mT G1.rel hn rp' λv' H' P' α' r' e1 e2 rp=>af1 v' H' P' α' r' (G1.same.trans e1) (G1.pre.trans e2) rp⟩
   |false=>exact⟨.ref D,_,I',rfl,wD G1.rel hn rp' λv' H' P' α' r' e1 e2 rp=>af1 v' H' P' α' r' (G1.same.trans e1) (G1.pre.trans e2) rp⟩
end
section
variable {X:Cx}{cm:Ap}{k:Ai}{e:AM}{fa:DE}{p1 p2 pos1 pos2:CN}{mu:Ap}
theorem r9 (hc:X.calm=true)(hr:RoomC cm k X.A)(hg:Gl X "sorted")(hm:X.mg "sorted" = none)(hg2:Gl X "set")(hm2:X.mg "set" = none)(ha:QE X e fa)(he:Ay [e] X.env=(false,eval e X.env)::Ay [] X.env:=by rfl) :
  QE X (.Call (.Name "sorted" p1) [.Call (.Name "set" p2) [e] [] pos2] [] pos1) (w9 mu fa):=⟨sZ hc hr.units hg hm hg2 hm2 ha.1 he⟩
end
section
variable {prog:A5}{w:AL}{A:AK}{E:Ac->Ag->Prop}{s:Ag}{r:Af}{a b c:Am}{t u v:Os}{n:Ai}
theorem sW {Q:Aa Ac->Ag->Prop}(hh:A.handled=none)(hr:Xw s.heap r a b c t u v)(hs:Mi a b c=true)(hn:Gd a b c=↑n)(hl:n<=2 ^ 24)
  (h:∀ (h':AB) (tk:Ai) (acc:Aw Ac),(∀ b o,s.heap.get? b=Ab o->h'.get? b=Ab o)->Xx (λi v=>∃ t,v=Hg (a+↑i*c) t) acc n->Q acc.toList { s with heap:=h',toks:=tk }) : Ao (Ar prog w) A (collect (.ref r)) Q E s:=by
 unfold collect;refine Ad (Mt (Eo Mv ?_));rw[Ey Mw _];show Ao _ A.in1 (newList [] >>= λl=>again (.builtin "list.__iadd__" ⟨[l,.ref r],[]⟩)) _ _ s;refine Ad (Bu (Ak ⟨Kv Ht _,Eo ON ?_⟩));rw[Ey Ht _];have hD:(s.heap.push { cls:=.type "list",data:=.seq ([] : Aa Ac).toArray }).get? s.heap.objs.size=Ab { cls:=.type "list",data:=.seq #[] }:=A7 _ rfl;have hr1:Xw (s.heap.push { cls:=.type "list",data:=.seq ([] : Aa Ac).toArray }) r a b c t u v:=Ah _ hr;show Ao _ A.in1 (ID (.ref s.heap.objs.size) (.ref r) (.ref s.heap.objs.size)) _ _ _;refine wpAny_extend_range (R:=λr s'=>match r with
  |.ok (.ret v)=>Ao (Ar prog w) A (match v with
   |.ref a=>do
    let o <- load a
    match o.data with
    |.seq xs epoch=>pure xs.toList
    |x=>unsupported "internal:collect"
   |x=>unsupported "internal:collect") Q E s'
  |.ok _=>CP
  |.error e=>E e s') (s:={ s with heap:=s.heap.push { cls:=.type "list",data:=.seq ([] : Aa Ac).toArray } }) hh hr1 hs hn hl s.heap.objs.size _ _ hD λh' tk acc c' kp hS hacc=>?_
 show Ao _ A (load s.heap.objs.size >>= _) _ _ _;refine Ad (Wk hS (Ak ?_));exact h h' tk acc (λb o q=>kp b o (AZ (Az q)) (Ah _ q)) hacc
theorem rB (r:Af)(a b c:Am)(t u v:Os)(n:Ai)(hs:Mi a b c=true)(hn:Gd a b c=↑n)(hl:n<=2 ^ 24) :
  Meets (Fq.«tuple.__new__» ⟨[.type "tuple",.ref r],[]⟩) (λA R s=>A.handled=none/\Xw s.heap r a b c t u v/\∀ (h':AB) (tk:Ai) (acc:Aw Ac),(∀ b o,s.heap.get? b=Ab o->h'.get? b=Ab o)->Xx (λi v=>∃ t,v=Hg (a+↑i*c) t) acc n->R (.ok (.ret (.ref h'.objs.size))) { s with heap:=h'.push { cls:=.type "tuple",data:=.seq acc },toks:=tk }):=
 .of_wp λprog w A R s h=>by
  obtain⟨hh,hr,h⟩:=h;have hsub:=Lh.sub;have hi:=Lh.init.lookup;have hm:=madeHere_tuple;unfold Fq.«tuple.__new__»;dsimp only;generalize hg:PySem.collect (AU r)=cc
  wp_walk
  rw[<- hg];refine sW (s:=⟨s.heap,s.gens,s.drawn,s.toks,s.os⟩) hh hr hs hn hl λh' tk acc kp hacc=>?_;rw[Li]
  wp_walk
  rw[AC (by rw[hacc.1,Dj];omega)]
  wp_walk
  exact⟨_,rfl,h h' tk acc kp hacc⟩
theorem m8 (hh:A.handled=none)(hr:Xw s.heap r a b c t u v)(hs:Mi a b c=true)(hn:Gd a b c=↑n)(hl:n<=2 ^ 24)
  (h:∀ (h':AB) (tk:Ai) (acc:Aw Ac),(∀ b o,s.heap.get? b=Ab o->h'.get? b=Ab o)->Xx (λi v=>∃ t,v=Hg (a+↑i*c) t) acc n->Q (.ref h'.objs.size) { s with heap:=h'.push { cls:=.type "tuple",data:=.seq acc },toks:=tk }) : Ao (Ar prog w) A (call (.type "tuple") [.ref r]) Q E s:=
 Tv Lh (by decide) (PySem.F.typeCall_tuple_1 _) (PySem.F.newCall_tuple_1 _) (λobj=>PySem.F.args_object_init_2 obj _) PySem.F.entry_tuple_new (rB r a b c t u v n hs hn hl) ⟨hh,hr,λh' tk acc kp hacc=>⟨⟨_,A7 _ rfl,rfl⟩,h h' tk acc kp hacc⟩⟩
end
noncomputable def rsN:Ap->CF
 |true => "tuple"
 |false => "list"
noncomputable def rsD:Ap->Aa D->D
 |true,l=>.tup l
 |false,l=>.lst l
noncomputable def p7 (tp:Ap)(f:DA):DE:=λenv S=>(f env S).bind λds S1=>match u7 ds with
 |some its=>if its.length<=lim then .ok (rsD tp its) S1 else .bad
 |none=>.bad
theorem sT {acc:Aw Ac}{lo:Am}{n:Ai}(h:Xx (λi v=>∃ t,v=Hg (lo+↑i*1) t) acc n):qJ ((Be n).map λ(i:Ai)=>V.int (lo+i)) acc.toList:=by
 have key:∀ (m:Ai) (l:Aa Ac) (k:Ai),l.length=m->(∀ j v,l[j]? = Ab v->∃ t,v=Hg (lo+((j+k:Ai):Am)*1) t)->qJ ((List.range' k m).map λ(i:Ai)=>V.int (lo+i)) l:=by
  intro m
  induction m with
  |zero=>intro l k hl _;rw[Ig hl];exact .nil
  |succ m ih =>
   intro l k hl hv;cases l with
   |nil=>cases hl
   |cons v l =>
    obtain⟨t,rfl⟩:=hv 0 v rfl;rw[List.range'_succ,Ce];refine .cons ⟨t,by rw[Yn,En]⟩ (ih l (k+1) (Yd hl) λj v e=>?_)
    obtain⟨t,rfl⟩:=hv (j+1) v e;exact⟨t,by rw[show j+1+k=j+(k+1) by omega]⟩
 rw[List.range_eq_range'];exact key n acc.toList 0 (by rw[A6];exact h.1) λj v e=>h.2 j v (by rwa [A9] at e)
theorem sF {K:Aj}{P:Hp}{α:Aa Af}(lo:Am)(n:Ai):qD K P α (xV lo n) ((Be n).map λ(i:Ai)=>V.int (lo+i)):=by
 unfold xV;generalize Be n=l
 induction l with
 |nil=>exact .nil
 |cons i l ih=>exact .cons (by simp only[Rep]) ih
section
variable {X:Cx}{e:AM}{es:Aa AM}{f:DA}{p p0 pos pos0:CN}
theorem eW {tp:Ap}{pins:Aa (Af × AX)}{σ:_L.St}{H P:Hp}{α:Aa Af}{S:Sto}{s:Ag}{Q:VK}{lo hi:Am}{t u v:Os}{tk:Ai}(hc:X.calm=true)(I:Inv X pins σ H s)(r:Rel X.K H P α S)(h1 : -(2 ^ 62)<=lo)(h2:lo<2 ^ 62)(h3 : -(2 ^ 62)<=hi)(h4:hi<2 ^ 62)
  (hl:(hi-lo).toNat<=lim) (af:OkV X P α Q (rsD tp (xV lo (hi-lo).toNat)) S) :
  Ao (Ar X.prog X.w) X.A (call (.type (rsN tp)) [.ref s.heap.objs.size]) (EP X pins σ Q) X.xe { s with heap:=s.heap.push { cls:=.type "range",data:=.fields #[.int lo t,.int hi u,.int 1 v] },toks:=tk }:=by
 have hz:Gd lo hi 1=(((hi-lo).toNat:Ai):Am):=by rw[rangeSize_one];split <;> omega
 have hm:(hi-lo).toNat<=2 ^ 24:=by unfold lim at hl;omega
 have I1:Inv X pins σ H { s with heap:=s.heap.push { cls:=.type "range",data:=.fields #[.int lo t,.int hi u,.int 1 v] },toks:=tk }:=I.kept λb o e=>Ah _ e
 cases tp with
 |true =>
  refine m8 (I1.ok.hd hc) (Ux ..) (Xj h1 h2 h3 h4) hz hm λh' tk' acc kp hacc=>?_;have I2:Inv X pins σ H { s with heap:=h',toks:=tk' }:=I1.kept (t':=tk') kp
  have hr:=sT hacc;have I3:=I2.laid (t':=tk') (h':=h'.push { cls:=.type "tuple",data:=.seq acc }) (a:=h'.objs.size) (λb o e=>Ah _ e) (Aq _) (show qZ X.prog X.w _ _ _ (.tup _) from⟨by rw[A4,CC,Dj];omega,acc.toList,hr,by rw[Li];exact Pv _ _⟩)
  exact⟨.ref h'.objs.size,_,I3,rfl,u0 r (I2.hok.fresh (Aq _)) (sF lo _) af⟩
 |false =>
  refine call_list_range (I1.ok.hd hc) (Ux ..) (Xj h1 h2 h3 h4) hz hm λh' tk' acc c' kp hS hacc=>?_;have hr:=sT hacc;have I3:=I1.laid (t':=tk') (h':=h') kp (Aq _) (show qZ X.prog X.w _ _ _ (.lst _) from⟨by rw[A4,CC,Dj];omega,acc.toList,c',hr,by rw[Li];exact hS⟩)
  exact⟨.ref _,_,I3,rfl,wD r (I1.hok.fresh (Aq _)) (sF lo _) af⟩
theorem UB {tp:Ap}{T:As}(hc:X.calm=true)(hT:CU T=Ab (.type (rsN tp)))(hn:T≠("__name__" : As))(hd:(T == ("__debug__" : As))=false)(hg0:Gl X T)(hm0:X.mg T=none)(hg:Gl X "range")(hm:X.mg "range" = none)(ha:PA X (e::es) (tDA X f))(hs:Ay (e::es) X.env=(false,eval e X.env)::Ay es X.env:=by rfl)(hpl:(Di pos (Ay es X.env)).any (·.1)=false:=by rfl) :
  PE X (.Call (.Name T p0) [.Call (.Name "range" p) (e::es) [] pos] [] pos0) (tD X (p7 tp f)):=by
 intro pins s σ H Q I h;obtain⟨P,α,env,S,r,re,af⟩:=h;refine Vx (w4 I hg0 hm0 hT (CK ?_ rfl rfl) hn hd);refine Et ?_;refine Vx (w4 I hg hm boot_range (CK (thn (xS ha I r re af pos) λus s1 ⟨vs,H1,P1,α1,ds,S1,I1,rv,r1,re1,rp,e1,e2,af1⟩=>?_) hs hpl));cases hi:u7 ds with
 |none=>rw[hi] at af1;exact An af1
 |some its =>
  rw[hi] at af1;obtain⟨hl,af2⟩:=xZ af1;have af3:OkV X P1 α1 Q _ S1:=λv H' P' α' r' s' p' q'=>af2 v H' P' α' r' (e1.trans s') (e2.trans p') q';cases eX hi with
  |one j c =>
   obtain⟨ws,rfl,t1⟩:=vJ rp;cases t1.nil_inv;obtain⟨u,rfl,t,rfl⟩:=vI rv;rw[yR] at hl;exact call_range_1 (Fc (eW (lo:=0) hc I1 r1 om om c.1 c.2 (by rw[Tp];exact hl) (by rw[Tp];exact af3)))
  |two i j c =>
   obtain⟨ws,rfl,t1⟩:=vJ rp;obtain⟨ws2,rfl,t2⟩:=vJ t1;cases t2.nil_inv;obtain⟨u,u',rfl,⟨t,rfl⟩,t',rfl⟩:=fT rv;rw[yR] at hl;exact call_range_2 (Fc (eW hc I1 r1 c.1 c.2.1 c.2.2.1 c.2.2.2 hl af3))
theorem KM (hc:X.calm=true)(hg0:Gl X "tuple")(hm0:X.mg "tuple" = none)(hg:Gl X "range")(hm:X.mg "range" = none)(ha:QA X (e::es) f)(hs:Ay (e::es) X.env=(false,eval e X.env)::Ay es X.env:=by rfl)(hpl:(Di pos (Ay es X.env)).any (·.1)=false:=by rfl) :
  QE X (.Call (.Name "tuple" p0) [.Call (.Name "range" p) (e::es) [] pos] [] pos0) (p7 true f):=⟨UB hc ZX (by decide +kernel) (by decide +kernel) hg0 hm0 hg hm ha.1 hs hpl⟩
end
noncomputable def aQ (d:D)(S:Sto):Al (Aa D):=match d with
 |.tup _=>none
 |d=>tG d S
noncomputable def jZ (f:DE):DE:=λenv S=>(f env S).bind λd S1=>match (aQ d S1).bind zY with
 |some ns=>if ns.length<4000 then .ok (.int (cV ns)) S1 else .bad
 |none=>.bad
section
variable {X:Cx}{e:AM}{fa:DE}{p1 p2 pos1 pos2:CN}
set_option tactic.hygienic true in
theorem JO {pins:Aa (Af × AX)}{σ:_L.St}{H P:Hp}{α:Aa Af}{S:Sto}{s:Ag}{xs:Aa D}{v:V}{vv:Ac}(I:Inv X pins σ H s)(r:Rel X.K H P α S)(p:Rep X.K P α d v)(q:qK v vv)(h:aQ d S=Ab xs) :
  ∃ a vs its,vv=.ref a/\qD X.K P α xs vs/\qJ vs its/\s.heap.IsList a its.toArray:=by
 cases d with
 |lst ys =>
  cases h;obtain⟨a,vs,its,n,rfl,_,t,rv,e,l,_⟩:=yN I r p;exact⟨a,vs,its,q,t,rv,⟨_,e,rfl,n,rfl⟩⟩
 |loc n =>
  have hS:S[n]? = Ab (.lst xs):=by
   have h:(match S[n]? with|some (.lst xs)=>Ab xs|_=>none)=Ab xs:=h
   split at h
   .rename_i e;cases h;exact e
   .cases h
  simp only[Rep] at p;obtain⟨a,rfl,ha⟩:=p;cases (show vv=AU a from q)
  obtain⟨vs,z,t⟩:=r.at' n a _ ha hS;obtain⟨its,rv,p,hz⟩:=I.list (SqL.of z);exact⟨a,vs,its,rfl,t,rv,p.isList⟩
 |_=>cases h
theorem cU (hc:X.calm=true)(hg:Gl X "len")(hm:X.mg "len" = none)(hg2:Gl X "set")(hm2:X.mg "set" = none)(ha:PE X e (tD X fa))(he:Ay [e] X.env=(false,eval e X.env)::Ay [] X.env:=by rfl) :
  PE X (.Call (.Name "len" p1) [.Call (.Name "set" p2) [e] [] pos2] [] pos1) (tD X (jZ fa)):=by
 intro pins s σ H Q I h;obtain⟨P,α,env,S,r,re,af⟩:=h;refine CW (w4 I hg hm iP ?_);refine Ga ?_ rfl rfl;refine Et ?_;refine Vx (w4 I hg2 hm2 lH (CK ?_ he rfl));rw[he];refine Et (thn (zS ha I r re af) λvv s1 ⟨v,H1,P1,α1,d,S1,G1,af1⟩=>Fc ?_);cases hq:(aQ d S1).bind zY with
 |none=>simp only[hq] at af1;exact An af1
 |some ns =>
  simp only[hq] at af1;obtain⟨hlt,af2⟩:=xZ af1;obtain⟨xs,hd,hn⟩:=Cn.mp hq;obtain⟨a,vs,its,rfl,t1,rv1,e1⟩:=JO G1.inv G1.rel G1.rep G1.val hd;have:=vU hn;subst this;have:=uL t1;subst this;have hi:Nx its ns:=by simpa using bY rv1
  have hlen:its.length=ns.length:=hi.length;have hsz:its.toArray.size=ns.length:=by rw[AD];exact hlen
  refine call_set_list (ns:=ns) (G1.inv.ok.hd hc) e1 (by simpa using hi) (by rw[hsz];have:Xu=4096:=rfl;omega) λh' tk hS hk=>?_
  rw[hsz,kY] at hS;obtain⟨o,es,ep,t,ho,hex,hd,hel,hmem,hsb,hf,hes⟩:=hS;have I2:Inv X pins σ H1 { s1 with heap:=h',toks:=tk }:=G1.inv.kept λb u eq=>hk b u (Az eq) eq
  have hdl:(ns.foldl Wr []).length<=ns.length:=by rw[<- kY];exact firstMet_length_le _ _
  refine Fc (call_len_set (s:={ s1 with heap:=h',toks:=tk }) ho hex hd hf (by rw[hes];omega) ?_)
  rw[hes];exact⟨.int _,H1,I2.tok _,⟨_,rfl⟩,af2 _ H1 P1 α1 G1.rel G1.same G1.pre (by simp only[Rep];rfl)⟩
theorem i6 (hc:X.calm=true)(hg:Gl X "len")(hm:X.mg "len" = none)(hg2:Gl X "set")(hm2:X.mg "set" = none)(ha:QE X e fa)(he:Ay [e] X.env=(false,eval e X.env)::Ay [] X.env:=by rfl) :
  QE X (.Call (.Name "len" p1) [.Call (.Name "set" p2) [e] [] pos2] [] pos1) (jZ fa):=⟨cU hc hg hm hg2 hm2 ha.1 he⟩
end
end _D
section
end
section
end
section
end
namespace _D
open PySem PySem.Spec PyProof.Rows _L
variable {E Q:Ac->Ag->Prop}
inductive AccT {K:Type}(w:AL)(hash:K->Am)(enc:K->D)(Kf:Aj)(P:Hp)(α : Aa Af)(ds:Aa D)(o:AX):Prop
 |mk (es:Aw (Am × Ac)) (ep:Ai) (t:CT) (ks:Aa K) (kv:Aa (K × Ac)) (ho:o=_S.setO es ep t) (T:_S.TabT t es) (led:t.led=_S.xC w) (hds:ds=ks.map enc) (hes:es.toList=kv.map λp=>(hash p.1,p.2)) (nd:(kv.map (·.1)).Nodup) (mem:∀ k,k∈kv.map (·.1)↔k∈ks) (rp:∀ p∈kv,∃ v,qK v p.2/\Rep Kf P α (enc p.1) v):AccT w hash enc Kf P α ds o
section
variable {K:Type}{w:AL}{hash:K->Am}{enc:K->D}{Kf:Aj}{P P1:Hp}{α α1:Aa Af}{ds:Aa D}{o:AX}
theorem AccT.mono (e:qF P P1)(h:α<+:α1)(a:AccT w hash enc Kf P α ds o):AccT w hash enc Kf P1 α1 ds o:=by
 obtain⟨es,ep,t,ks,kv,h1,h2,h3,h4,h5,h6,h7,h8⟩:=a;exact⟨es,ep,t,ks,kv,h1,h2,h3,h4,h5,h6,h7,λp hp=>let ⟨v,a,b⟩:=h8 p hp;⟨v,a,Rep.mono e h _ _ b⟩⟩
theorem AccT.cell (a:AccT w hash enc Kf P α ds o):∀ v,o.data≠.cell v:=by
 obtain⟨es,ep,t,ks,kv,rfl,_⟩:=a;intro v z;cases z
end
@[reducible] def accS {K:Type}(w:AL)(hash:K->Am)(enc:K->D):Acc:=⟨true,AccT w hash enc,AccT.mono,AccT.cell⟩
noncomputable def gP (chk:Aa D->Ap)(fe:DE):DK:=λenv S acc=>(fe env S).bind λx S1=>if chk (acc++[x])=true then .ok (env,acc++[x]) S1 else .bad
structure SKd (Y:Cx){K:Type}(is:AB->K->Ac->Prop)(hash:K->Am)(enc:K->D)(lt:K->K->Ap)(d:K)(Fit:K->Prop)(chk:Aa D->Ap):Prop where
 ad:∀ h,_S.AddS Y.prog Y.w (is h) hash h
 kd:∀ h,_S.Kind Y.prog Y.w (is h) hash lt d Fit h
 up:∀ {pins:Aa (Af × AX)} {σ : _L.St} {H P:Hp} {s:Ag} {α : Aa Af} {S:Sto} {k:K} {v:V} {u:Ac},Inv Y pins σ H s->Rel Y.K H P α S->qK v u->Rep Y.K P α (enc k) v->is s.heap k u
 inj:∀ {a b:K},enc a=enc b->a=b
 ck:∀ {ds:Aa D},chk ds=true->∃ ks:Aa K,ds=ks.map enc/\(_S.srt lt ks).length<=1000/\∀ k∈ks,Fit k
section
variable {Y:Cx}{K:Type}{is:AB->K->Ac->Prop}{hash:K->Am}{enc:K->D}{lt:K->K->Ap}{d:K}{Fit:K->Prop}{chk:Aa D->Ap}{pins:Aa (Af × AX)}{σ : _L.St}{H P:Hp}{s:Ag}{α : Aa Af}{S:Sto}{acc:Af}{es:Aw (Am × Ac)}{ep:Ai}{t:CT}{ks:Aa K}{kv:Aa (K × Ac)}{V:Aa Ac}
theorem GC (Z:SKd Y is hash enc lt d Fit chk)(I:Inv Y pins σ H s)(r:Rel Y.K H P α S)(ho:s.heap.get? acc=Ab (_S.setO es ep t))(T:_S.TabT t es)(led:t.led=_S.xC Y.w)(hes:es.toList=kv.map λp=>(hash p.1,p.2))(nd:(kv.map (·.1)).Nodup)(mem:∀ k,k∈kv.map (·.1)↔k∈ks)(rp:∀ p∈kv,∃ v,qK v p.2/\Rep Y.K P α (enc p.1) v)(hV:∀ p∈kv,p.2∈V) :
  _S.SetK (is s.heap) hash acc (_S.xC Y.w) V ks.reverse s.heap:=by
 have up:∀ p∈kv,is s.heap p.1 p.2:=λp hp=>let ⟨v,a,b⟩:=rp p hp;Z.up I r a b
 have inj:=@(Z.kd s.heap).inj;refine⟨⟨es,ep,t,ho,⟨λe he=>?_,?_,λk=>?_⟩,T,led,λe he=>?_⟩⟩
 .rw[hes] at he
  obtain⟨p,hp,rfl⟩:=Bl.mp he;exact⟨p.1,rfl,up p hp⟩
 .rw[hes,Fd]
  exact(Fd.mp nd).imp_of_mem λ{a b} ha hb hne k h1 h2=>hne ((inj (up a ha) h1).trans (inj h2 (up b hb)))
 .rw[Vq,<- mem k]
  constructor
  .intro h
   obtain⟨p,hp,rfl⟩:=Bl.mp h;exact⟨(hash p.1,p.2),by rw[hes];exact Bl.mpr ⟨p,hp,rfl⟩,up p hp⟩
  .rintro⟨e,he,q⟩
   rw[hes] at he;obtain⟨p,hp,rfl⟩:=Bl.mp he;exact Bl.mpr ⟨p,hp,inj (up p hp) q⟩
 .rw[hes] at he
  obtain⟨p,hp,rfl⟩:=Bl.mp he;exact hV p hp
theorem VS {h0:AB}{seen:Aa K}(inj:∀ {k k':K} {v:Ac},is h0 k v->is h0 k' v->k=k')(Z0:_S.Set0 (is h0) hash es seen)(T:_S.TabT t es)(led:t.led=_S.xC Y.w)(hm:∀ e∈es.toList,e.2∈V)(hV:∀ u∈V,∃ k v,qK v u/\Rep Y.K P α (enc k) v/\is h0 k u)(hs:∀ k,k∈seen↔k∈ks) :
  AccT Y.w hash enc Y.K P α (ks.map enc) (_S.setO es ep t):=by
 by_cases hd:∃ d:K,Jn
 .obtain⟨d,_⟩:=hd
  have gk:∀ e∈es.toList,is h0 (_S.kOf (is h0) d e) e.2:=λe he=>_S.oO (let ⟨k,_,q⟩:=Z0.good e he;⟨k,q⟩)
  refine⟨es,ep,t,ks,es.toList.map λe=>(_S.kOf (is h0) d e,e.2),rfl,T,led,rfl,?_,?_,λk=>?_,λp hp=>?_⟩
  .rw[EQ]
   conv=>lhs;rw[<- Qn es.toList]
   refine Sg λe he=>?_;obtain⟨k,e1,q⟩:=Z0.good e he;show e=(hash (_S.kOf (is h0) d e),e.2);rw[inj (gk e he) q,<- e1]
  .rw[EQ,Ws,Fd]
   exact Z0.nd.imp_of_mem λ{a b} ha hb h z=>h _ (gk a ha) (by
    have z:_S.kOf (is h0) d a=_S.kOf (is h0) d b:=z;rw[z];exact gk b hb)
  .rw[EQ,<- hs k,Z0.mem k]
   constructor
   .intro h
    obtain⟨e,he,rfl⟩:=Bl.mp h;exact⟨e,he,gk e he⟩
   .rintro⟨e,he,q⟩
    exact Bl.mpr ⟨e,he,inj (gk e he) q⟩
  .obtain⟨e,he,rfl⟩:=Bl.mp hp
   obtain⟨k,v,a,b,c⟩:=hV e.2 (hm e he);exact⟨v,a,by dsimp only;rw[inj (gk e he) c];exact b⟩
 .have e0:es.toList=[]:=by
   cases q:es.toList with
   |nil=>rfl
   |cons e l =>
    obtain⟨k,_⟩:=Z0.good e (by rw[q];exact .head _)
    exact absurd ⟨k,trivial⟩ hd
  have k0:ks=[]:=by
   cases ks with
   |nil=>rfl
   |cons k l=>exact absurd ⟨k,trivial⟩ hd
  subst k0;exact⟨es,ep,t,[],[],rfl,T,led,rfl,e0,Ms,λk=>Iff.rfl,λp hp=>by cases hp⟩
end
theorem ZY {prog:A5}{w:AL}{A:AK}{s:Ag}{S:Af}{x:Ac}{es:Aw (Am × Ac)}{ep:Ai}{t:CT}(ho:s.heap.get? S=Ab (_S.setO es ep t))(h:Ao (Ar prog w) A.in1 (Ss S x) (λ_ s'=>Q .none s') E s):Ao (Ar prog w) A (call (.builtin "set.add") [.ref S,x]) Q E s:=by
 refine Cy F.slot_set_add ⟨_,ho,rfl⟩ F.entry_set_add ?_ (F.args_set_add_2 _ _);unfold Fq.«set.add» Xg;simp only[List.isEmpty_nil,bind_assoc];unfold Xz;refine Ad (Ak ?_)
 try dsimp only
 refine Ad (Ak ?_)
 try dsimp only
 refine Ad (thn h λb s' q=>?_);show Ao _ _ (ret Bs) _ _ _;exact Ak ⟨_,rfl,q⟩
theorem JR {prog:A5}{w:AL}{A:AK}{E:Ac->Ag->Prop}{s:Ag}(h:Q (.ref s.heap.objs.size) { s with heap:=s.heap.push (_S.set0 w) }) : Ao (Ar prog w) A (newSet (.type "set")) Q E s:=by
 unfold newSet Sc;refine Ad (Ad (Gq (Ak ?_)));dsimp only;simp only[newObj];exact Ad (Vk (Ak h))
section
variable {Y:Cx}{K:Type}{is:AB->K->Ac->Prop}{hash:K->Am}{enc:K->D}{lt:K->K->Ap}{d:K}{Fit:K->Prop}{chk:Aa D->Ap}{elt:AM}{gens:Aa Bo}{scope:Cs}{pos:CN}{k:Ai}{fe:DE}
set_option tactic.hygienic true in
theorem WX (hx:Y.xe=λ_ _=>CP)(hu:Y.A.units+64<Ee)(hlast:gens[k+1]? = none)(Z:SKd Y is hash enc lt d Fit chk)(he:PE Y elt (tD Y fe)):PK (accS Y.w hash enc) Y (λacc=>zF true elt gens scope pos k acc Y.env) (gP chk fe):=by
 intro pins P1 α1 acc env env' S S' ds ds' s hacc ⟨σ,H,P,α,o,st⟩ run;show Ao _ _ (zF true elt gens scope pos k (.ref acc) Y.env) _ _ s;unfold zF;rw[hlast];dsimp only[emX];unfold gP at run;cases q3:fe env S with
 |bad=>rw[q3] at run;cases run
 |ex c z S'=>rw[q3] at run;cases run
 |ok d5 S5 =>
  rw[q3,Res.bind_ok] at run
  split at run
  .rename_i hck
   cases run;have fA:=hacc H st.acn;have I1:=_D.Inv.pin1 st.inv fA st.at' ((accS Y.w hash enc).cell st.acc);refine Ad (jB (hx▸MQ he I1 st.rel st.env q3) λu5 s5 ⟨v5,H5,P5,α5,G5⟩=>Ad (Hw ?_));obtain⟨J4,J5⟩:=_D.Inv.pinned1 G5.inv;have J1:=G5.inv.unpinned;have sacc:AccT Y.w hash enc Y.K P5 α5 ds o:=AccT.mono G5.same G5.pre st.acc;obtain⟨es,ep,t,ks,kv,rfl,T,led,hds,hes,nd,mem,rp⟩:=sacc;obtain⟨ks',e1,e2,e3⟩:=Z.ck hck;obtain⟨l1,l2,rfl,m1,m2⟩:=List.map_eq_append_iff.mp e1.symm;obtain⟨k0,rfl,rfl⟩:∃ k0,l2=[k0]/\enc k0=d5:=by
    match l2,m2 with
    |[k0],m2=>exact⟨k0,rfl,by simpa using m2⟩
   have hks:l1=ks:=by
    have:l1.map enc=ks.map enc:=m1.trans hds;exact Tj (λa b h=>Z.inj h) |>.mp this
   subst hks;have is0:=Z.up J1 G5.rel G5.val G5.rep;have ord:=(Z.kd s5.heap).ord;have SK:=GC (V:=kv.map (·.2)++[u5]) Z J1 G5.rel J4 T led hes nd mem rp λp hp=>Bk _ (Bl.mpr ⟨p,hp,rfl⟩)
   refine Ad (ZY J4 ((Z.ad s5.heap).add (U:=_S.srt lt (l1++[k0])) (show Y.A.units+1<Ee by lia) (λ_ _ e=>e) SK is0 (AI _ (.head _)) e2 (λk' hk=>(_S.xQ ord _ _).mpr (Bk _ (Vq.mp hk))) ((_S.xQ ord _ _).mpr (by simp)) λb h' tk htk sb SK'=>?_))
   obtain⟨es',ep',t',ho',Z0',T',led',hm'⟩:=SK';have fA5:=hacc H5 J5;have keep:∀ b o,b≠acc->s5.heap.get? b=Ab o->h'.get? b=Ab o:=λb o hb e=>(sb.2 b hb).trans e;have I6:=J1.turned (t':=tk) keep J5 fA5.2.1 fA5.2.2.2.1 fA5.2.2.2.2.1 fA5.2.2.2.2.2;refine Ak ⟨σ,H5,P5,α5,_,I6,G5.rel,G5.env,st.same.trans G5.same,st.pre.trans G5.pre,λb hb=>(by simp at hb),J5,ho',?_⟩
   have fin:AccT Y.w hash enc Y.K P5 α5 ((l1++[k0]).map enc) (_S.setO es' ep' t'):=VS (h0:=s5.heap) (λa b=>(Z.kd s5.heap).inj a b) Z0' T' led' hm' (λu hu=>by
    rcases Ba.mp hu with hu|hu
    .obtain⟨p,hp,rfl⟩:=Bl.mp hu
     obtain⟨v,a,b⟩:=rp p hp;exact⟨p.1,v,a,b,Z.up J1 G5.rel a b⟩
    .rw[Bq.mp hu]
     exact⟨k0,v5,G5.val,G5.rep,is0⟩) λk=>by simp[or_comm]
   rw[Lv,<- hds] at fin;exact fin
  .cases run
end
noncomputable def lN (ds:Aa D):Ap:=match pO ds with
 |some ks=>decide ((_S.srt _H.lexLt ks).length<=1000)&&ks.all λk=>!k.isEmpty
 |none=>false
noncomputable def uW (ds:Aa D):Ap:=match zY ds with
 |some ns=>decide ((_S.srt _S.ltI ns).length<=1000)
 |none=>false
theorem skI (Y:Cx):SKd Y (λ_=>_S.isI Y.prog Y.w) (A8 Y.prog Y.w).hash D.int _S.ltI 0 (λ_=>Jn) uW where
 ad:=_S.iJ
 kd:=_S.VA _ _
 up:=λ{pins σ H P s α S k v u} I r q p=>by
  have p:v=V.int k:=by simpa only [Rep] using p
  subst p;obtain⟨t,rfl⟩:=q;exact Sb _ _ _ _
 inj:=D.int.inj
 ck:=λ{ds} h=>by
  unfold uW at h;cases q:zY ds with
  |none=>rw[q] at h;cases h
  |some ks =>
   rw[q] at h;exact⟨ks,vU q,Bd h,λ_ _=>trivial⟩
noncomputable def cX (f:Aa D->Sto->Res D)(r:Res (qE × Aa D)):Res D:=match r with
 |.ok p S2=>f p.2 S2
 |_=>.bad
def nX (f:Aa D->Sto->Res D)(cap:Aa (Al Ai))(fi:DI2)(g:DG)(t:DT)(k:DK):DE:=λenv S=>(fi env S).bind λp S1=>cX f (goL p.1 g t k p.2 (zR cap env) S1 [])
noncomputable def p8 (ds:Aa D)(S:Sto):Res D:=if uW ds=true then (match zY ds with|some ns=>.ok (.int ((_S.srt _S.ltI ns).length:Ai)) S|none=>.bad) else .bad
section
variable {X:Cx}{K:Type}{is:AB->K->Ac->Prop}{hash:K->Am}{enc:K->D}{lt:K->K->Ap}{d:K}{Fit:K->Prop}{chk:Aa D->Ap}{elt tg iter:AM}{ifs:Aa AM}{scope:Cs}{pos:CN}{N':Aa As}{cap:Aa (Al Ai)}{fi:DI2}{g:DG}{t:DT}{kk:DK}{qO:Aa Bo}
inductive SetEnd (X:Cx){K:Type}(hash:K->Am)(enc:K->D)(pins:Aa (Af × AX))(σ : _L.St)(P1:Hp)(α1:Aa Af)(ds:Aa D)(SF:Sto)(acc:Af)(s:Ag):Prop
 |mk (H' P':Hp) (α' : Aa Af) (o:AX) (I:Inv X pins σ H' s) (r:Rel X.K H' P' α' SF) (e1:qF P1 P') (e2:α1<+:α') (ho:s.heap.get? acc=Ab o) (a:AccT X.w hash enc X.K P' α' ds o):SetEnd X hash enc pins σ P1 α1 ds SF acc s
theorem GD {pins:Aa (Af × AX)}{σ σ':_L.St}{H2:Hp}{s2 s':Ag}{fp:Aa Af}{acc C:Af}{P1:Hp}{α1:Aa Af}{H' P':Hp}{α':Aa Af}{envF:qE}{SF:Sto}{ds:Aa D}{o:AX}{cl:Aa (As × Af)}(I2:Inv X pins σ H2 s2)
  (hf:∀ b∈fp,x5 X pins H2 b) (hC:s2.heap.objs.size<=C) (hne:acc≠C) (st:TurnSt (accS X.w hash enc) (qN X N' scope cl C fp s2 H2) [] P1 α1 fp acc envF SF ds s' σ' H' P' α' o)
  {h':AB} (sb:CI C s'.heap h'):SetEnd X hash enc pins σ P1 α1 ds SF acc { s' with heap:=h' }:=by
 have kC:∀ b o,b≠C->s'.heap.get? b=Ab o->h'.get? b=Ab o:=λb o hb e=>(sb.2 b hb).trans e;have nC:∀ b o,s2.heap.get? b=Ab o->b≠C:=λb o e=>AZ (Ax (Az e) hC);have base:Un (frs X.stack) fp H2 H' s2.heap s'.heap:=st.inv.base;have un:Un (frs X.stack) fp H2 H' s2.heap h':=by
  refine⟨λb ob q hn hb hx=>kC b ob (nC b ob q) (base.keep b ob q hn hb hx),λb ob q hn hb hx=>?_,base.free,λb ob q hx=>?_,base.tups,base.frzs,base.tbls⟩
  .obtain⟨sl,e⟩:=base.slot b ob q hn hb hx
   exact⟨sl,kC b _ (nC b ob q) e⟩
  .obtain⟨o',e⟩:=base.there b ob q hx
   exact⟨o',kC b o' (nC b ob q) e⟩
 have hok':HOk X.prog X.w H' h':=tY st.inv.hok st.inv.free kC;refine⟨H',P',α',o,?_,st.rel,st.same,st.pre,kC acc o hne st.at',st.acc⟩;exact I2.call' (s':={ s' with heap:=h' }) (ch:=fp) (st.inv.os) un hok' st.inv.bare λb hb=>by
  obtain⟨_,h1,h2,h3,h4,h5⟩:=hf b hb;exact⟨h3,h1,h4,h5⟩
theorem YF {f:Aa D->Sto->Res D}{pins:Aa (Af × AX)}{s:Ag}{σ:_L.St}{H P:Hp}{α:Aa Af}{env:qE}{S0:Sto}{Q:VK}{Qp:Ac->Ag->Prop}(hc:X.calm=true)(S:CompSc X.env.scope X.N scope N' cap)(hi:PI X tg iter (tDI2 X fi))
  (hg:∀ cl C ex s₀ H₀,PG (qN X N' scope cl C ex s₀ H₀) tg (tDG (qN X N' scope cl C ex s₀ H₀) g))
  (ht:∀ cl C ex s₀ H₀,PTs (qN X N' scope cl C ex s₀ H₀) ifs t) (has:∀ g',(⟨tg,iter,ifs,0⟩::qO:Aa Bo)[0+1]? = Ab g'->g'.is_async=0) (he:∀ cl C ex s₀ H₀,PK (accS X.w hash enc) (qN X N' scope cl C ex s₀ H₀) (λacc=>zF true elt (⟨tg,iter,ifs,0⟩::qO) scope pos 0 acc (qN X N' scope cl C ex s₀ H₀).env) kk)
  (I:Inv X pins σ H s) (r:Rel X.K H P α S0) (re:qY X.K P α σ env) (af:qG X P α (nX f cap fi g t kk env S0) (OkV X P α Q)) (hs:∀ x,Co iter X.env x=pure x)
  (hQ:∀ acc s' P1 α1 ds SF,qF P P1->α<+:α1->SetEnd X hash enc pins σ P1 α1 ds SF acc s'->qG X P α (f ds SF) (OkV X P α Q)->Qp (.ref acc) s') :
  Ao (Ar X.prog X.w) X.A (eval (.SetComp elt (⟨tg,iter,ifs,0⟩::qO) scope pos) X.env) Qp X.xe s:=by
 rw[arm_eval_SetComp];have af':qG X P α ((fi env S0).bind λp S1=>cX f (goL p.1 g t kk p.2 (zR cap env) S1 [])) (OkV X P α Q):=af;refine Jh (use:=none) rfl hs (m9 S I.ok) S.kind S.names ?_;refine thn (hi pins s σ H (λJ H1=>∃ (P1:Hp) (α1:Aa Af) (p:Al (Ai × MO) × Aa _D.D) (S1:Sto),Rel X.K H1 P1 α1 S1/\qF P P1/\α<+:α1/\ItD2 X.K J P1 α1 p.1 p.2/\qG X P α (cX f (goL p.1 g t kk p.2 (zR cap env) S1 [])) (OkV X P α Q)) I ⟨P,α,env,S0,r,re,?_⟩) λxv s1 h1=>thn h1 λitv s2 h2=>?_
 .cases q:fi env S0 with
  |bad=>rw[q] at af';exact af'
  |ex c x S'=>rw[q] at af';exact af'
  |ok p S1=>rw[q] at af';exact λJ H1 P1 α1 r1 e1 e2 it=>⟨P1,α1,p,S1,r1,e1,e2,it,af'⟩
 obtain⟨it,fp,tn,J,H2,rfl,I2,T,st0,hf,P1,α1,p,S1,r1,e1,e2,hit,af1⟩:=h2;cases run:goL p.1 g t kk p.2 (zR cap env) S1 [] with
 |bad=>rw[run] at af1;exact An af1
 |ex c x S'=>rw[run] at af1;exact An af1
 |ok q SF =>
  obtain⟨envF,ds⟩:=q;rw[run] at af1;refine JR (uY (B:=accS X.w hash enc) (o0:=_S.set0 X.w) (RR:=λacc C=>compPost (Ar X.prog X.w) X.A X.xe none Qp acc C) hc S has hg ht he I2 r1 (re.mono e1 e2) T st0 hf hit run ⟨_,_,_,[],[],rfl,_S.gW X.w,rfl,rfl,rfl,Ms,λ_=>Iff.rfl,λp hp=>by cases hp⟩ rfl ?_)
  intro acc C s' hA ⟨m,hm⟩ hC hne ⟨cl,σf,Hf,Pf,αf,of,stf⟩;exact⟨m,hm,λh' sb=>hQ _ _ _ _ _ _ e1 e2 (GD I2 hf hC hne stf sb) af1⟩
theorem sG {α:Type}{a b:Aa α}(ha:a.Nodup)(hb:b.Nodup)(h:∀ x,x∈a↔x∈b):a.length=b.length:=((Nl ha hb).mpr h).length_eq
set_option tactic.hygienic true in
theorem o6 {p1 pos1:CN}(hc:X.calm=true)(hg0:Gl X "len")(hm0:X.mg "len" = none)(S:CompSc X.env.scope X.N scope N' cap)(hi:PI X tg iter (tDI2 X fi))
  (hg:∀ cl C ex s₀ H₀,PG (qN X N' scope cl C ex s₀ H₀) tg (tDG (qN X N' scope cl C ex s₀ H₀) g))
  (ht:∀ cl C ex s₀ H₀,PTs (qN X N' scope cl C ex s₀ H₀) ifs t) (has:∀ g',(⟨tg,iter,ifs,0⟩::qO:Aa Bo)[0+1]? = Ab g'->g'.is_async=0) (he:∀ cl C ex s₀ H₀,PK (accS X.w (A8 X.prog X.w).hash D.int) (qN X N' scope cl C ex s₀ H₀) (λacc=>zF true elt (⟨tg,iter,ifs,0⟩::qO) scope pos 0 acc (qN X N' scope cl C ex s₀ H₀).env) kk)
  (hs:∀ x,Co iter X.env x=pure x):PE X (.Call (.Name "len" p1) [.SetComp elt (⟨tg,iter,ifs,0⟩::qO) scope pos] [] pos1) (tD X (nX p8 cap fi g t kk)):=by
 intro pins s σ H Q I h;obtain⟨P,α,env,S0,r,re,af⟩:=h;refine CW (w4 I hg0 hm0 iP ?_);refine Ga ?_ rfl rfl;refine Et ?_;refine YF (f:=p8) hc S hi hg ht has he I r re af hs λacc s' P1 α1 ds SF e1 e2 ⟨H',P',α',o,I',r',e1',e2',ho,a⟩ af1=>Fc ?_;obtain⟨es,ep,t,ks,kv,rfl,T,led,hds,hes,nd,mem,rp⟩:=a;unfold p8 at af1
 split at af1
 .rename_i hck
  obtain⟨ks',k1,k2,k3⟩:=(skI X).ck hck;have hkk:ks'=ks:=(Tj λa b h=>(skI X).inj h).mp (k1.symm.trans hds);subst hkk;rw[hds,wA] at af1;have hz:es.size=(_S.srt _S.ltI ks').length:=by
   have h1:es.size=(kv.map (·.1)).length:=by rw[<- A6,hes,A4,A4]
   rw[h1];refine sG nd ((_S.y9 _S.wZ ks').imp λ{a b} h z=>?_) λx=>by rw[mem,_S.xQ _S.wZ]
   subst z;rw[_S.wZ.irr] at h;cases h
  refine call_len_set ho ⟨rfl,rfl,rfl⟩ rfl T.fits (by rw[hz];lia) ?_
  rw[hz];exact⟨.int _,H',I'.tok _,⟨_,rfl⟩,af1 _ H' P' α' r' (e1.trans e1') (e2.trans e2') (by simp only[Rep])⟩
 .exact An af1
end
section
variable {X Y:Cx}{elt tg iter:AM}{ifs:Aa AM}{scope:Cs}{pos:CN}{cap:Aa (Al Ai)}{f2:DI2}{dg:DG}{t:DT}{kk:DK}{grest gens:Aa Bo}{k n:Ai}{fe:DE}{cm:Ap}
theorem Y4 {w:AL}{pg:A5}(hw:Y.w=w)(hp:Y.prog=pg)(hx:Y.xe=λ_ _=>CP)(hlast:gens[k+1]? = none)(hr:RoomC cm n Y.A)(he:QE Y elt fe):QK (accS w (A8 pg w).hash D.int) Y (λacc=>zF true elt gens scope pos k acc Y.env) (gP uW fe):=by
 subst hw hp;exact⟨WX hx hr.units hlast (skI Y) he.1⟩
theorem KN {p1 pos1:CN}(S:Ck (bO X.env.scope X.N scope cap))(hc:X.calm=true)(hg0:Gl X "len")(hm0:X.mg "len" = none)(hi:QI2 X tg iter f2)(hg:∀ cl C ex s₀ H₀,QG (qN X (xX scope) scope cl C ex s₀ H₀) tg dg)(ht:∀ cl C ex s₀ H₀,QTs (qN X (xX scope) scope cl C ex s₀ H₀) ifs t)
  (has:∀ g',(⟨tg,iter,ifs,0⟩::grest:Aa Bo)[0+1]? = Ab g'->g'.is_async=0)
  (he:∀ cl C ex s₀ H₀,QK (accS X.w (A8 X.prog X.w).hash D.int) (qN X (xX scope) scope cl C ex s₀ H₀) (λacc=>zF true elt (⟨tg,iter,ifs,0⟩::grest) scope pos 0 acc (qN X (xX scope) scope cl C ex s₀ H₀).env) kk) (hs:∀ x,Co iter X.env x=pure x) :
  QE X (.Call (.Name "len" p1) [.SetComp elt (⟨tg,iter,ifs,0⟩::grest) scope pos] [] pos1) (nX p8 cap f2 dg t kk):=
 ⟨o6 hc hg0 hm0 (bA S) hi.1 (λcl C ex s H=>(hg cl C ex s H).1) (λcl C ex s H=>(ht cl C ex s H).1) has (λcl C ex s H=>(he cl C ex s H).1) hs⟩
end
end _D
section
end
namespace _D
open PySem
variable {ds:Aa D}{v:Ac}{n:Ai}{lo hi:Al Am}{f1:DE}{F:DF}{S1 S':Sto}{env':qE}
def Ok {β:Type}(r:Res β)(Q:β->Sto->Prop):Prop:=∃ d S,r=.ok d S/\Q d S
theorem qT {β:Type}{r:Res β}{Q:β->Sto->Prop}{d:β}{S:Sto}(h:r=.ok d S)(q:Q d S):Ok r Q:=⟨d,S,h,q⟩
theorem bH {fe:DE}{env:qE}{S:Sto}{acc:Aa D}{x:D}(h:fe env S=.ok x S1)(hl:acc.length<lim):zK fe env S acc=.ok (env,acc++[x]) S1:=by
 unfold zK;rw[h];simp[Res.bind,hl]
theorem gK {cap:Aa (Al Ai)}{fi:DI2}{g:DG}{t:DT}{k:DK}{env:qE}{S:Sto}{o:Al (Ai × MO)}{items:Aa D}(h:fi env S=.ok (o,items) S1)(e:goL o g t k items (zR cap env) S1 [] = .ok (env',ds) S'):zE false cap fi g t k env S=.ok (.lst ds) S':=by
 unfold zE;rw[h];simp only[Res.bind,e,mkM];rfl
theorem rS {α β:Type}(sel:α->Ap)(val:α->β)(l:Aa α) : (l.flatMap λd=>if sel d then [val d] else []) = (l.filter sel).map val:=by
 induction l with
 |nil=>rfl
 |cons d l ih =>
  rw[Gc,ih];cases h:sel d <;> simp[h]
theorem goT {α:Type}{enc:α->D}{o:Al (Ai × MO)}{g:DG}{t:DT}{k:DK}(out:α->Aa D)(C:qE->Sto->Prop)(hC:∀ env S,C env S->stn o S) :
  ∀ (xs:Aa α) (env:qE) (S:Sto) (acc:Aa D),C env S->acc.length+(xs.flatMap out).length<=lim ->
  (∀ x∈xs,∀ env S acc,C env S->acc.length+(out x).length<=lim->∃ env1 S1 b S2,g (enc x) env S=.ok env1 S1/\t env1 S1=.ok b S2/\((b=false/\out x=[]/\C env1 S2)\/(b=true/\∃ env3 S3,k env1 S2 acc=.ok (env3,acc++out x) S3/\C env3 S3))) ->
  ∃ env' S',goL o g t k (xs.map enc) env S acc=.ok (env',acc++xs.flatMap out) S'/\C env' S'
 |[],env,S,acc,h,hl,_=>⟨env,S,by simp[goL,wF.mpr (hC _ _ h)],h⟩
 |x::xs,env,S,acc,h,hl,step=>by
  rw[Gc,AT] at hl;obtain⟨env1,S1,b,S2,e1,e2,r⟩:=step x (Bx ..) env S acc h om;have hst:=wF.mpr (hC _ _ h);rcases r with⟨rfl,h0,h2⟩|⟨rfl,env3,S3,e3,h3⟩
  .obtain⟨env',S',e,q⟩:=goT out C hC xs env1 S2 acc h2 om λd hd=>step d (Bb _ hd)
   refine⟨env',S',?_,q⟩;simp only[Ce,goL,hst,Ct,e1,e2,Res.bind,AR,CB,Gc,h0,Fh];exact e
  .obtain⟨env',S',e,q⟩:=goT out C hC xs env3 S3 (acc++out x) h3 (by rw[AT];omega) λd hd=>step d (Bb _ hd)
   refine⟨env',S',?_,q⟩;simp only[Ce,goL,hst,Ct,e1,e2,Res.bind,e3,Gc];rw[e,Bc]
section
variable {α β:Type}{enc:α->D}{enc2:β->D}{cap:Aa (Al Ai)}{fi:DI2}{g:DG}{t:DT}{fe:DE}{env:qE}{S S0:Sto}{o:Al (Ai × MO)}{xs:Aa α}
theorem U2 {fi2:DI2}{g2:DG}{t2:DT}{o2:Al (Ai × MO)}(h:fi env S=.ok (o,xs.map enc) S)(hst:stn o S)(hst2:stn o2 S)(ys:α->Aa β)(sel:α->β->Ap)(val:α->β->D)(C:qE->Prop)(C2:α->qE->Prop)(h0:C (zR cap env))(hC2:∀ x env,C2 x env->C env)
  (hl:(xs.flatMap λx=>((ys x).filter (sel x)).map (val x)).length<=lim)
  (step:∀ x∈xs,∀ env,C env->∃ env1,g (enc x) env S=.ok env1 S/\C2 x env1/\t env1 S=.ok true S/\fi2 env1 S=.ok (o2,(ys x).map enc2) S)
  (step2:∀ x∈xs,∀ y∈ys x,∀ env,C2 x env->∃ env1,g2 (enc2 y) env S=.ok env1 S/\C2 x env1/\t2 env1 S=.ok (sel x y) S/\(sel x y=true->fe env1 S=.ok (val x y) S)) :
  zE false cap fi g t (kIn fi2 g2 t2 (zK fe)) env S=.ok (.lst (xs.flatMap λx=>((ys x).filter (sel x)).map (val x))) S:=by
 obtain⟨env',S',e,_,q⟩:=goT (enc:=enc) (o:=o) (g:=g) (t:=t) (k:=kIn fi2 g2 t2 (zK fe)) (λx=>((ys x).filter (sel x)).map (val x)) (λenv S'=>C env/\S'=S) (λ_ _ h=>h.2▸hst) xs (zR cap env) S [] ⟨h0,rfl⟩ (by simpa using hl) (λd hd env S' acc hC hl=>by
  obtain⟨hc,rfl⟩:=hC;obtain⟨env1,e1,c1,e2,e3⟩:=step d hd env hc;obtain⟨env2,S2,e4,q,r⟩:=goT (enc:=enc2) (o:=o2) (g:=g2) (t:=t2) (k:=zK fe) (λx=>if sel d x then [val d x] else []) (λenv S''=>C2 d env/\S''=S') (λ_ _ h=>h.2▸hst2) (ys d) env1 S' acc ⟨c1,rfl⟩ (by rw[rS];exact hl) (λx hx env S'' acc hC hl=>by
   obtain⟨hc,rfl⟩:=hC;obtain⟨env3,f1,f2,f3,f4⟩:=step2 d hd x hx env hc;refine⟨env3,S'',sel d x,S'',f1,f3,?_⟩;cases hs:sel d x with
   |false=>exact .inl ⟨rfl,by simp,f2,rfl⟩
   |true =>
    refine .inr ⟨rfl,env3,S'',?_,f2,rfl⟩;simp only[Ct];exact bH (f4 hs) (by simp only[hs,Ct,Io] at hl;omega))
  subst r;refine⟨env1,S2,true,S2,e1,e2,.inr ⟨rfl,env2,S2,?_,hC2 d _ q,rfl⟩⟩;unfold kIn;rw[e3];simp only[Res.bind];rw[e4,rS])
 subst q;have:=gK (cap:=cap) h e
 rwa [Fh] at this
end
theorem nU {env:qE}{S:Sto}{a:D}(h1:f1 env S=.ok a S1):qR 1 F (qA f1 (qB)) env S=F [a] S1:=by
 simp only[qR,qA,qB,h1,Res.bind,AO,Dr,Ct]
theorem B3 {env:qE}{S:Sto}{a:D}(h1:f1 env S=.ok a S1):qA f1 (qB) env S=.ok [a] S1:=by
 simp only[qA,qB,h1,Res.bind]
theorem B4 {f2:DE}{env:qE}{S S2:Sto}{a b:D}(h1:f1 env S=.ok a S1)(h2:f2 env S1=.ok b S2):qA f1 (qA f2 (qB)) env S=.ok [a,b] S2:=by
 simp only[qA,qB,h1,h2,Res.bind]
theorem sU {env:qE}{i:Ai}{d:D}{S:Sto}(h:env[i]? = Ab (Ab d)):qC i env S=.ok d S:=by simp only[qC,h]
theorem iO {α:Type}(p:α->Ap)(l:Aa α) : x8 (l.map λx=>D.bl (p x))=Ab (l.map p):=by
 induction l with
 |nil=>rfl
 |cons x l ih =>
  show (x8 (l.map λx=>D.bl (p x))).map (p x::·)=_
  rw[ih];rfl
section
variable {β γ:Type}{env:qE}{S:Sto}
theorem qW {r:Res β}{k:β->Sto->Res γ}{Q:γ->Sto->Prop}(h:Ok r λd S1=>Ok (k d S1) Q):Ok (r.bind k) Q:=by
 obtain⟨d,S1,rfl,h⟩:=h;exact h
theorem xM {r:Res β}{d:β}(h:Ok r λd' S'=>d'=d/\S'=S):r=.ok d S:=by
 obtain⟨_,_,e,rfl,rfl⟩:=h;exact e
theorem zI {r:Res β}{Q Q':β->Sto->Prop}(h:Ok r Q)(k:∀ d S,Q d S->Q' d S):Ok r Q':=by
 obtain⟨d,S,e,q⟩:=h;exact⟨d,S,e,k d S q⟩
variable {Q:D->Sto->Prop}{f g:DE}{fa:DA}{o:G2}{i j:Ai}
theorem o_c {d:D}(h:Q d S):Ok (dC d env S) Q:=⟨_,_,rfl,h⟩
theorem o_v {d:D}(e:env[i]? = Ab (Ab d))(h:Q d S):Ok (qC i env S) Q:=⟨_,_,sU e,h⟩
theorem o_2 (h:Ok (f env S) λa S1=>Ok (g env S1) λb S2=>Ok (o a b S2) Q):Ok (d2 o f g env S) Q:=qW (zI h λ_ _=>qW)
theorem o_1 {u:D->Sto->Res D}(h:Ok (f env S) λa S1=>Ok (u a S1) Q):Ok (d1 u f env S) Q:=qW h
theorem fH {Q:Aa D->Sto->Prop}(h:Q [] S):Ok (qB env S) Q:=⟨_,_,rfl,h⟩
theorem vY {Q:Aa D->Sto->Prop}(h:Ok (f env S) λa S1=>Ok (fa env S1) λas S2=>Q (a::as) S2):Ok (qA f fa env S) Q:=qW (zI h λ_ _ k=>qW (zI k λ_ _ q=>⟨_,_,rfl,q⟩))
theorem HA (h:Ok (fa env S) λas S1=>as.length<=lim/\Q (.tup as) S1):Ok (zL fa env S) Q:=qW (zI h λ_ _ k=>⟨_,_,AF k.1,k.2⟩)
theorem D1 (h:Ok (fa env S) λas S1=>as.length<=lim/\Q (.lst as) S1):Ok (zT fa env S) Q:=qW (zI h λ_ _ k=>⟨_,_,AF k.1,k.2⟩)
theorem EL (h:Ok (fa env S) λas S1=>as.length<=lim/\Q (.loc S1.length) (S1++[.lst as])):Ok (nW fa env S) Q:=qW (zI h λ_ _ k=>⟨_,_,AF k.1,k.2⟩)
theorem EI (h:Q .dct0 S):Ok (nV env S) Q:=⟨_,_,rfl,h⟩
theorem Q9 (h:Ok (fa env S) λas S1=>as.length=n/\Ok (F as S1) Q):Ok (qR n F fa env S) Q:=qW (zI h λ_ _ k=>by rw[AF k.1];exact k.2)
theorem EZ {as:Aa D}(h:Ok (F as S) Q):Ok (okO F as S) Q:=by
 obtain⟨d,S1,e,q⟩:=h;exact⟨d,S1,ME e,q⟩
theorem HI (h:Ok (fa env S) λas S1=>Ok (F as S1) Q):Ok (qL F fa env S) Q:=qW h
theorem ET {a b:Am}(h:Q (.int (a+b)) S):Ok (zC (.int a) (.int b) S) Q:=⟨_,_,rfl,h⟩
theorem w6 {a b:Aa D}(l:a.length+b.length<=lim)(h:Q (.tup (a++b)) S):Ok (zC (.tup a) (.tup b) S) Q:=⟨_,_,AF l,h⟩
theorem w5 {a b:Aa D}(l:a.length+b.length<=lim)(h:Q (.lst (a++b)) S):Ok (zC (.lst a) (.lst b) S) Q:=⟨_,_,AF l,h⟩
theorem H9 {a b:Am}(h:Q (.int (a-b)) S):Ok (j8 (.int a) (.int b) S) Q:=⟨_,_,rfl,h⟩
theorem EY {a:Am}(h:Q (.int (-a)) S):Ok (bE (.int a) S) Q:=⟨_,_,rfl,h⟩
theorem EW {a b:Am}(l : -(2 ^ 64)<a/\a<2 ^ 64)(h:Q (.int (a*b)) S):Ok (yC (.int a) (.int b) S) Q:=by
 refine⟨_,_,?_,h⟩;unfold yC i2;rw[lK];unfold lJ;simp only[l,and_self,Hr,Yc,Ct]
theorem EV {a b:Am}(l:0<b)(h:Q (.int (a % b)) S):Ok (j7 (.int a) (.int b) S) Q:=by
 refine⟨_,_,?_,h⟩;unfold j7 i2;simp[l]
theorem EU {a b:Am}(l:0<b/\b<1073741824)(h:Q (.int (a/b)) S):Ok (mH (.int a) (.int b) S) Q:=by
 refine⟨_,_,?_,h⟩;unfold mH i2 PN;simp[l]
theorem HQ {a b:Am}(h:Q (.bl (decide (a<b))) S):Ok (gLt (.int a) (.int b) S) Q:=⟨_,_,rfl,h⟩
theorem HP {a b:Am}(h:Q (.bl (decide (a<=b))) S):Ok (gLe (.int a) (.int b) S) Q:=⟨_,_,rfl,h⟩
theorem HM {a b:Am}(h:Q (.bl (decide (b<=a))) S):Ok (gGe (.int a) (.int b) S) Q:=⟨_,_,rfl,h⟩
theorem M1 {a b:Am}(h:Q (.bl (decide (a=b))) S):Ok (gEq (.int a) (.int b) S) Q:=⟨_,_,by kernel_rfl!,h⟩
theorem HR {a b:Am}(h:Q (.bl (!decide (a=b))) S):Ok (gNe (.int a) (.int b) S) Q:=⟨_,_,by kernel_rfl!,h⟩
theorem fG {a:Aa D}{k:Am}{d:D}(e:_L.atI a k=Ab d)(h:Q d S):Ok (gIx (.tup a) (.int k) S) Q:=⟨d,S,by show _D.v7 (_L.atI a k) S=_;rw[e];rfl,h⟩
theorem aS {a:Aa D}{k:Am}{d:D}(e:_L.atI a k=Ab d)(h:Q d S):Ok (gIx (.lst a) (.int k) S) Q:=⟨d,S,by show _D.v7 (_L.atI a k) S=_;rw[e];rfl,h⟩
theorem EK {a:Aa D}(h:Q (.int a.length) S):Ok (yB [.tup a] S) Q:=⟨_,_,rfl,h⟩
theorem EJ {a:Aa D}(h:Q (.int a.length) S):Ok (yB [.lst a] S) Q:=⟨_,_,rfl,h⟩
theorem EO {a:Aa D}(h:Q (.tup a) S):Ok (vR [.lst a] S) Q:=⟨_,_,rfl,h⟩
theorem EM {a:Aa D}(h:Q (.lst a) S):Ok (pA [.tup a] S) Q:=⟨_,_,rfl,h⟩
theorem l0 (h:Ok (f env S) λd S1=>∃ b,d=.bl b/\(b=true->Ok (g env S1) Q)/\(b=false->Q (.bl false) S1)):Ok (uZ f g env S) Q:=qW (zI h λd S1 ⟨b,e,k1,k2⟩=>by
 subst e;cases b with
 |true=>exact k1 rfl
 |false=>exact⟨_,_,rfl,k2 rfl⟩)
theorem HV {fl fh:DO}(h:Ok (f env S) λd S1=>Ok (fl env S1) λlo S2=>Ok (fh env S2) λhi S3=>Ok (gSl d lo hi S3) Q):Ok (dSl f fl fh env S) Q:=qW (zI h λ_ _ k=>qW (zI k λ_ _=>qW))
theorem H8 {a:Aa D}(h:Q (.tup (zO a lo hi)) S):Ok (gSl (.tup a) lo hi S) Q:=⟨_,_,rfl,h⟩
theorem H0 {a:Aa D}(h:Q (.lst (zO a lo hi)) S):Ok (gSl (.lst a) lo hi S) Q:=⟨_,_,rfl,h⟩
theorem HJ {Q:Al Am->Sto->Prop}(h:Q none S):Ok (zH env S) Q:=⟨_,_,rfl,h⟩
theorem HK {Q:Al Am->Sto->Prop}(h:Ok (f env S) λd S1=>∃ k,d=.int k/\Q (Ab k) S1):Ok (zA f env S) Q:=qW (zI h λ_ _ ⟨_,e,q⟩=>by subst e;exact⟨_,_,rfl,q⟩)
theorem HH {T:CF}{m:D->Aa D->Sto->Res D}(h:Ok (f env S) λa S1=>tyD a S1=Ab T/\Ok (fa env S1) λas S2=>Ok (m a as S2) Q):Ok (dBm T m f fa env S) Q:=qW (zI h λ_ _ k=>by rw[k.1,AF (by simp)];exact qW k.2)
theorem LV {xs:Aa D}{d:D}(e:S[i]? = Ab (.lst xs))(l:xs.length<lim)(h:Q .non (S.set i (.lst (xs++[d])))):Ok (yZ (.loc i) [d] S) Q:=by
 refine⟨_,_,?_,h⟩;show (match S[i]? with|some (.lst xs)=>(if xs.length<lim then Res.ok D.non (S.set i (.lst (xs++[d]))) else .bad)|_=>.bad)=_
 rw[e];exact AF l
variable {Q:Ap->Sto->Prop}{t u:DT}
theorem RU (h:Ok (f env S) λd S1=>∃ b,xO d S1=Ab b/\Q b S1):Ok (dTr f env S) Q:=qW (zI h λd S1 ⟨b,e,k⟩=>by
 rw[e];exact⟨_,_,rfl,k⟩)
theorem M5 (h:Ok (t env S) λb S1=>Q (!b) S1):Ok (xK t env S) Q:=qW (zI h λ_ _ k=>⟨_,_,rfl,k⟩)
theorem HB (h:Q true S):Ok (xI env S) Q:=⟨_,_,rfl,h⟩
theorem pH (h:Ok (t env S) λb S1=>(b=true->Q true S1)/\(b=false->Ok (u env S1) Q)):Ok (k8 t u env S) Q:=qW (zI h λb S1 k=>by
 cases b with
 |true=>exact⟨_,_,rfl,k.1 rfl⟩
 |false=>exact k.2 rfl)
theorem lE {xs:Aa D}{a:Ai}(h:a<xs.length):_L.atI xs (a:Am)=Ab xs[a]:=by
 have e:_L.ixN xs.length (a:Am)=Ab a:=by simp[_L.ixN];lia
 simp[_L.atI,e,h]
theorem rG (S:Sto)(m:MO):(S++[m])[S.length]? = Ab m:=by simp
theorem YG (S:Sto)(m m':MO):(S++[m]).set S.length m'=S++[m']:=by simp
theorem SH {xs:Aa D}(h:S[j]? = Ab (.lst xs)):tyD (.loc j) S=Ab "list":=by
 show (match S[j]? with|some (.lst _)=>Ab "list" | some (.dct _)=>Ab "dict" | _=>none)=_
 rw[h]
theorem pG {Q:D->Sto->Prop}{a:Aa D}{k:Ai}(h:k<a.length)(q:∀ d∈a,Q d S):Ok (gIx (.lst a) (.int (k:Am)) S) Q:=aS (lE h) (q _ (Ks h))
theorem JW {Q:Aa D->Sto->Prop}(h:Ok (f env S) λd S1=>∃ ds,zW d=Ab ds/\Q ds S1):Ok (gL f env S) Q:=qW (zI h λd S1 ⟨ds,e,k⟩=>⟨ds,S1,by rw[e];rfl,k⟩)
theorem aW {Q:Aa D->Sto->Prop}(h:Ok (fa env S) λas S1=>∃ ds,u7 as=Ab ds/\Q ds S1):Ok (vO fa env S) Q:=qW (zI h λd S1 ⟨ds,e,k⟩=>⟨ds,S1,by rw[e];rfl,k⟩)
theorem l7 (n:Ai)(h:n<=1000000):u7 [.int (n:Am)]=Ab ((Be n).map λ(i:Ai)=>D.int (i:Am)):=by
 unfold u7;have : -(2 ^ 62)<=(n:Am)/\(n:Am)<2 ^ 62:=⟨by lia,by lia⟩
 refine(AF this).trans ?_;unfold xV;rw[Dv]
 congr 2
 funext i
 rw[Int.zero_add]
theorem EN {Q:Aa D->Sto->Prop}(h:Ok (f env S) λd S1=>∃ k:Am,d=.int k/\0<=k/\k<=1000000/\Q ((Be k.toNat).map λ(i:Ai)=>D.int (i:Am)) S1):Ok (vO (qA f qB) env S) Q:=aW (vY (zI h λ_ _ ⟨k,e,h0,h1,q⟩=>fH ⟨_,by
 have:=l7 k.toNat li;rw[Sj h0] at this;rw[e,this],q⟩))
theorem DZ {k:Am}(e:k=(n:Am))(h:n<=1000000):u7 [.int k]=Ab ((Be n).map λ(i:Ai)=>D.int (i:Am)):=e▸l7 n h
theorem kO {Q:D->Sto->Prop}{xs:Aa D}{k:Am}{d:D}(e:S[i]? = Ab (.lst xs))(e':_L.atI xs k=Ab d)(h:Q d S):Ok (gIx (.loc i) (.int k) S) Q:=by
 refine⟨d,S,?_,h⟩;show (match S[i]? with|some (.lst xs)=>_D.v7 (_L.atI xs k) S|_=>.bad)=_
 rw[e];show _D.v7 (_L.atI xs k) S=_;rw[e'];rfl
theorem QC {Q:Mx->Sto->Prop}{xs:Aa D}{d:D}{n:Am}(e:S[i]? = Ab (.lst xs))(e':_L.ixN xs.length n=Ab j)(h:Q () (S.set i (.lst (xs.set j d)))):Ok (vA (.loc i) (.int n) d S) Q:=by
 refine⟨_,_,?_,h⟩;simp[vA,mI,e,e']
theorem aG {xs:Aa D}(h:env[i]? = Ab (Ab (.tup xs))):dIt (qC i) env S=.ok (none,xs) S:=by
 unfold dIt;rw[sU h];rfl
theorem RO (h:n<=1000000):xE (vO (qA (dC (.int (n:Am))) qB)) env S=.ok (none,(Be n).map λ(i:Ai)=>D.int (i:Am)) S:=xM (qW (aW (vY (o_c (fH ⟨_,l7 n h,_,_,rfl,rfl,rfl⟩)))))
theorem bD {α:Type}(f:α->β):∀ l:Aa α,l.flatMap (λx=>[f x])=l.map f
 |[]=>rfl
 |x::l=>by rw[Gc,bD f l];rfl
theorem wO {α:Type}{enc:α->D}{o:Al (Ai × MO)}{cap:Aa (Al Ai)}{fi:DI2}{tg:DG}{fe:DE}{Q:D->Sto->Prop}(xs:Aa α)(val:α->D)(C:qE->Sto->Prop)(hi:fi env S=.ok (o,xs.map enc) S1)(h0:C (zR cap env) S1)(hl:xs.length<=lim)(hst:∀ env S,C env S->stn o S)
  (step:∀ x∈xs,∀ env S,C env S->Ok (tg (enc x) env S) λenv1 S1=>Ok (t env1 S1) λb S2=>b=true/\Ok (fe env1 S2) λd S3=>d=val x/\C env1 S3) (q:∀ env' S',C env' S'->Q (.lst (xs.map val)) S'):Ok (zE false cap fi tg t (zK fe) env S) Q:=by
 have fm:=bD val xs;obtain⟨env',S',e,c⟩:=goT (enc:=enc) (o:=o) (g:=tg) (t:=t) (k:=zK fe) (λx=>[val x]) C hst xs (zR cap env) S1 [] h0 (by rw[fm,A4];simpa using hl) (λx hx env S acc hC hl=>by
  obtain⟨env1,S1,e1,b,S2,e2,rfl,d,S3,e3,rfl,c3⟩:=step x hx env S hC;exact⟨env1,S1,true,S2,e1,e2,.inr ⟨rfl,env1,S3,bH e3 (by simp at hl;lia),c3⟩⟩)
 rw[fm,Fh] at e;exact⟨_,_,gK hi e,q env' S' c⟩
theorem F9 {α:Type}{enc:α->D}{o:Al (Ai × MO)}{tg:DG}{fe:DE}(R:D->Prop)(C:qE->Sto->Prop)(hst:∀ env S,C env S->stn o S) :
  ∀ (xs:Aa α) (env:qE) (S:Sto) (acc:Aa D),C env S->acc.length+xs.length<=lim->(∀ x∈xs,∀ env S,C env S->Ok (tg (enc x) env S) λenv1 S1=>Ok (t env1 S1) λb S2=>b=true/\Ok (fe env1 S2) λd S3=>R d/\C env1 S3) ->
  ∃ env' S' ds,goL o tg t (zK fe) (xs.map enc) env S acc=.ok (env',acc++ds) S'/\C env' S'/\ds.length=xs.length/\∀ d∈ds,R d
 |[],env,S,acc,h,_,_=>⟨env,S,[],by simp[goL,wF.mpr (hst _ _ h)],h,rfl,λ_ h=>by cases h⟩
 |x::xs,env,S,acc,h,hl,step=>by
  obtain⟨env1,S1,e1,b,S2,e2,rfl,d,S3,e3,hr,c3⟩:=step x (Bx ..) env S h;rw[AO] at hl;obtain⟨env',S',ds,e,c,l,hR⟩:=F9 R C hst xs env1 S3 (acc++[d]) c3 (by rw[AT];show _+1+_<=lim;lia) λy hy=>step y (Bb _ hy)
  refine⟨env',S',d::ds,?_,c,by rw[AO,AO,l],λz hz=>?_⟩
  .simp only[Ce,goL,wF.mpr (hst _ _ h),Ct,e1,e2,Res.bind,bH e3 (show acc.length<lim by lia)]
   rw[e,Bc];rfl
  .rcases Av.mp hz with rfl|hz
   .exact hr
   .exact hR z hz
theorem eK {α:Type}{enc:α->D}{o:Al (Ai × MO)}{cap:Aa (Al Ai)}{fi:DI2}{tg:DG}{fe:DE}{Q:D->Sto->Prop}(xs:Aa α)(R:D->Prop)(C:qE->Sto->Prop)(hi:fi env S=.ok (o,xs.map enc) S1)(h0:C (zR cap env) S1)(hl:xs.length<=lim)(hst:∀ env S,C env S->stn o S)
  (step:∀ x∈xs,∀ env S,C env S->Ok (tg (enc x) env S) λenv1 S1=>Ok (t env1 S1) λb S2=>b=true/\Ok (fe env1 S2) λd S3=>R d/\C env1 S3) (q:∀ ds env' S',ds.length=xs.length->(∀ d∈ds,R d)->C env' S'->Q (.lst ds) S'):Ok (zE false cap fi tg t (zK fe) env S) Q:=by
 obtain⟨env',S',ds,e,c,l,hR⟩:=F9 (enc:=enc) (o:=o) (tg:=tg) (t:=t) (fe:=fe) R C hst xs (zR cap env) S1 [] h0 (by simpa using hl) step
 exact⟨_,_,gK hi e,q ds env' S' l hR c⟩
theorem pF {α:Type}{Q:D->Sto->Prop}{l:Aa α}{p:α->Ap}(h:Q (.bl (l.all p)) S):Ok (j6 false [.lst (l.map λx=>.bl (p x))] S) Q:=by
 refine⟨_,_,?_,h⟩;show (match (zW (.lst (l.map λx=>D.bl (p x)))).bind x8 with|some bs=>Res.ok (D.bl (bs.all id)) S|none=>.bad)=_
 rw[show (zW (.lst (l.map λx=>D.bl (p x)))).bind x8=Ab (l.map p) from iO p l]
 simp only[Jr];rfl
theorem eJ {f:D->Al D}{xs:Aa D}(h:∀ x∈xs,f x=Ab x):mapO f xs=Ab xs:=by
 induction xs with
 |nil=>rfl
 |cons x xs ih=>simp[mapO,h x (Bx ..),ih λy hy=>h y (Bb _ hy)]
theorem YC {xs:Aa D}(e:S[i]? = Ab (.lst xs))(h:∀ x∈xs,yT 19 S x=Ab x):yT lV S (.loc i)=Ab (.lst xs):=by
 show (match S[i]? with|some (.lst xs)=>(mapO (yT 19 S) xs).map D.lst|_=>none)=_
 rw[e];show (mapO (yT 19 S) xs).map D.lst=_;rw[eJ h];rfl
theorem HU {Q:qE->Sto->Prop}{h:G3}{d:D}(k:Ok (f env S) λa S1=>Ok (g env S1) λb S2=>Ok (h a b d S2) λ_ S3=>Q env S3):Ok (gSb f g h d env S) Q:=qW (zI k λ_ _ k=>qW (zI k λ_ _ k=>qW (zI k λ_ _ q=>⟨_,_,rfl,q⟩)))
variable {Q:qE->Sto->Prop}
theorem HS {d:D}(h:Q (env.set i (Ab d)) S):Ok (gNm i d env S) Q:=⟨_,_,rfl,h⟩
theorem HW {gs:DGs}{xs:Aa D}(h:xs.length=n/\Ok (gs xs env S) Q):Ok (gTp n gs (.tup xs) env S) Q:=by
 obtain⟨d,S1,e,q⟩:=h.2;exact⟨d,S1,by show (if xs.length=n then gs xs env S else .bad)=_;rw[AF h.1];exact e,q⟩
theorem HN (h:Q env S):Ok (yM [] env S) Q:=⟨_,_,rfl,h⟩
theorem HL {t:DG}{gs:DGs}{x:D}{xs:Aa D}(h:Ok (t x env S) λenv1 S1=>Ok (gs xs env1 S1) Q):Ok (zU t gs (x::xs) env S) Q:=qW h
def Wo (P:Out->Prop)(o:Out):Prop:=P o
def YE (g:DS)(P:Out->Prop):Out->Prop
 |.nx env S=>P (g env S)
 |o=>P o
noncomputable def cD (b:Ap)(f g:DS):DS:=match b with
 |true=>f
 |false=>g
def RG (Q:D->Sto->Prop):Out->Prop
 |.rt d S=>Q d S
 |.nx _ S=>Q .non S
 |_=>CP
def VB {α:Type}(I:Aa α -> qE->Sto->Prop)(xs:Aa α)(P:Out->Prop):Out->Prop
 |.nx env S=>I xs env S
 |.ct env S=>I xs env S
 |.bk env S=>P (.nx env S)
 |o=>P o
variable {P:Out->Prop}{sf sg:DS}{fi:DI}{tg:DG}{d:D}
theorem SI (h:Wo (YE sg P) (sf env S)):Wo P (qQ sf sg env S):=by
 unfold qQ;unfold Wo at h ⊢;cases e:sf env S <;> rw[e] at h <;> exact h
theorem HZ (h:Wo P (sg env S)):Wo (YE sg P) (.nx env S):=h
theorem CA (h:Wo P (.rt d S)):Wo (YE sg P) (.rt d S):=h
theorem ES (h:Wo P (.nx env S)):Wo P (zN env S):=h
theorem kS {r:Res β}{k:β->Sto->Out}(h:Ok r λd S1=>Wo P (k d S1)):Wo P (r.toS env k):=by
 obtain⟨d,S1,rfl,h⟩:=h;exact h
theorem HC (h:Ok (f env S) λd S1=>Ok (tg d env S1) λenv' S2=>Wo P (.nx env' S2)):Wo P (zG f tg env S):=kS (zI h λ_ _=>kS)
theorem ER (h:Ok (f env S) λ_ S1=>Wo P (.nx env S1)):Wo P (yD f env S):=kS h
theorem HF (h:Ok (f env S) λd S1=>Wo P (.rt d S1)):Wo P (z0 f env S):=kS h
theorem HE (h:Ok (fa env S) λds S1=>∃ a b,ds=[a,b]/\Wo P (.nx ((env.set i (Ab a)).set j (Ab b)) S1)):Wo P (gV i j fa env S):=kS (zI h λ_ _ ⟨_,_,e,q⟩=>by subst e;exact q)
theorem HY (h:Ok (t env S) λb S1=>Wo P (cD b sf sg env S1)):Wo P (sIf t sf sg env S):=kS (zI h λb S1 q=>by cases b <;> exact q)
theorem w_t (h:Wo P (sf env S)):Wo P (cD true sf sg env S):=h
theorem w_f (h:Wo P (sg env S)):Wo P (cD false sf sg env S):=h
theorem HD {b:Ap}(h:Wo P (cD b sg sf env S)):Wo P (cD (!b) sf sg env S):=by cases b <;> exact h
theorem uU {p:Prop}[He p](h1:p->Wo P (sf env S))(h2:¬ p->Wo P (sg env S)):Wo P (cD (decide p) sf sg env S):=by
 by_cases h:p
 .rw[Bm h];exact h1 h
 .rw[Cc h];exact h2 h
theorem VO (h:Ok (fi env S) λds S1=>Wo P (uO tg sf ds env S1)):Wo P (tF fi tg sf env S):=kS h
theorem gY {α:Type}{enc:α->D}(I:Aa α -> qE->Sto->Prop)(turn:∀ x xs env S,I (x::xs) env S->Ok (tg (enc x) env S) λenv1 S1=>Wo (VB I xs P) (sf env1 S1))(last:∀ env S,I [] env S->Wo P (.nx env S)) :
  ∀ {xs:Aa α} {env:qE} {S:Sto},I xs env S->Wo P (uO tg sf (xs.map enc) env S)
 |[],env,S,h=>last env S h
 |x::xs,env,S,h=>by
  obtain⟨env1,S1,e1,h1⟩:=turn x xs env S h;rw[Ce,uO];unfold Wo at h1 ⊢;simp only[e1,Res.toS];cases e2:sf env1 S1 with
  |nx env2 S2=>rw[e2] at h1;exact gY I turn last h1
  |ct env2 S2=>rw[e2] at h1;exact gY I turn last h1
  |bk env2 S2=>rw[e2] at h1;exact h1
  |rt d2 S2=>rw[e2] at h1;exact h1
  |ex c2 x2 env2 S2=>rw[e2] at h1;exact h1
  |bad=>rw[e2] at h1;exact h1
theorem fP {x:D}(hs:yV n ds=env)(h:sf env S=.ex v x env' S'):qX n sf ds S=.ex v x S':=by
 subst hs;unfold qX;rw[h];rfl
theorem lZ {x:D}(h:f env S=.ex v x S'):qQ (yD f) sg env S=.ex v x env S':=by
 simp only[qQ,yD,h,Res.toS]
theorem LH {x:D}(h:t env S=.ok true S1)(k:sf env S1=.ex v x env' S'):sIf t sf sg env S=.ex v x env' S':=by
 simp only[sIf,h,Res.toS,Ct];exact k
theorem YA (v:Ac)(x:As)(env:qE)(S:Sto):jQ v (qA (dC (.str x)) (qB)) env S=.ex v .non env S:=by
 unfold jQ;rw[B3 (show dC (.str x) env S=.ok (.str x) S from rfl)]
 show (if ([D.str x]:Aa D).length<=lim then Out.ex v D.non env S else Out.bad)=_
 exact AF (AN rfl)
theorem iF {α:Type}{I:Aa α -> qE->Sto->Prop}{xs:Aa α}(h:I xs env S):Wo (VB I xs P) (.nx env S):=h
theorem zP {Q:D->Sto->Prop}(hs:yV n ds=env)(h:Wo (RG Q) (sf env S)):Ok (qX n sf ds S) Q:=by
 subst hs;unfold qX;unfold Wo at h;cases e:sf (yV n ds) S <;> rw[e] at h <;> first|exact⟨_,_,rfl,h⟩|exact An h
end
abbrev Pt:=Am × Am
noncomputable def ptD (p:Pt):D:=.tup [.int p.1,.int p.2]
noncomputable def dJ (l:Aa Pt):D:=.tup (l.map ptD)
theorem dA {K:Type}(lt':K->K->Ap)(x:K):∀ l:Aa K,(_S.vT lt' x l).length<=l.length+1
 |[]=>by simp[_S.vT]
 |y::l=>by
  have:=dA lt' x l;unfold _S.vT
  split
  .simp
  .split <;> simp <;> omega
theorem tH {K:Type}(lt':K->K->Ap):∀ l:Aa K,(_S.srt lt' l).length<=l.length
 |[]=>by simp[_S.srt]
 |x::l=>by
  have h1:=dA lt' x (_S.srt lt' l);have h2:=tH lt' l;rw[_S.srt,AO];omega
def InB (B:Am)(q:Pt):Prop:=-B<=q.1/\q.1<=B /\ -B<=q.2/\q.2<=B
instance (B:Am)(q:Pt):He (InB B q):=by unfold InB;exact inferInstance
def jV (S:Sto)(p:Ai):Prop:=∃ v f:Am,S[p]? = Ab (.lst [.int v,.int f])
structure Kp (p:Ai)(S S':Sto):Prop where
 pen:jV S' p
 len:S.length<=S'.length
 same:∀ m,m<S.length->m≠p->S'[m]? = S[m]?
theorem Kp.trans {p:Ai}{S S2:Sto}(a:Kp p S S1)(b:Kp p S1 S2):Kp p S S2:=⟨b.pen,Bp a.len b.len,λm hm hp=>(b.same m (Ax hm a.len) hp).trans (a.same m hm hp)⟩
theorem Kp.set {p j:Ai}{S:Sto}(h:Kp p S S')(hj:S.length<=j)(m:MO)(hp:p≠j):Kp p S (S'.set j m):=by
 obtain⟨v,f,e⟩:=h.pen;exact⟨⟨v,f,by rw[CQ (Ed hp)];exact e⟩,by rw[Vw];exact h.len,λi hi hn=>by rw[CQ om];exact h.same i hi hn⟩
end _D
local macro_rules|`(tactic|array_get_dec)=>`(tactic| first | (with_reducible first | apply _D.SI | apply _D.HZ | apply _D.HC | apply _D.o_2 | apply _D.o_c | apply _D.vY | apply _D.fH | apply _D.ET | apply _D.H9 | apply _D.HA | apply _D.D1 | apply _D.Q9 | apply _D.HI | apply _D.EZ | apply _D.RU | apply _D.M5 | apply _D.HY | apply _D.w_t | apply _D.w_f | apply _D.HD | apply _D.ES | apply _D.ER | apply _D.HF | apply _D.CA | apply _D.HE | apply _D.VO | apply _D.HQ | apply _D.HP | apply _D.HM | apply _D.M1 | apply _D.HR | apply _D.o_1 | apply _D.EY | apply _D.EK | apply _D.EJ | apply _D.EO | apply _D.EM | apply _D.EL | apply _D.HV | apply _D.H8 | apply _D.H0 | apply _D.HJ | apply _D.HK | apply _D.HH | apply _D.HW | apply _D.HL | apply _D.HN | apply _D.HB | apply _D.EI | apply _D.HU | apply _D.JW | apply _D.EN) | ((with_reducible apply _D.o_v); exact rfl) | ((with_reducible apply _D.HS); dsimp only [List.set_cons_succ, List.set_cons_zero]) | ((with_reducible (first | apply _D.EW | apply _D.EV | apply _D.EU)); omega) | ((with_reducible apply And.intro); (first | exact rfl | exact Nat.le_of_ble_eq_true rfl)) | ((with_reducible apply Exists.intro); (with_reducible apply And.intro); exact rfl) | ((with_reducible apply Exists.intro); (with_reducible apply Exists.intro); (with_reducible apply And.intro); exact rfl; dsimp only [List.set_cons_succ, List.set_cons_zero]) | ((with_reducible apply Exists.intro); (with_reducible apply Exists.intro); (with_reducible apply Exists.intro); (with_reducible apply And.intro); exact rfl; dsimp only [List.set_cons_succ, List.set_cons_zero]))
local macro_rules|`(tactic|rfl')=>`(tactic| repeat array_get_dec)
namespace _D
open PySem
variable {xs:Aa D}{Q:D->Sto->Prop}{S:Sto}
def Pn (d:D):Prop:=∃ p,pyD d=Ab p
theorem pns:∀ {ps:Aa Su},u3 xs=Ab ps->∀ x∈xs,Pn x:=by
 induction xs with
 |nil=>intro ps _ x hx;cases hx
 |cons d ds ih =>
  intro ps h x hx;simp only[u3] at h;obtain⟨p,h1,h2⟩:=Cn.mp h;obtain⟨ps',h3,_⟩:=Bn.mp h2;rcases Av.mp hx with rfl|hx
  .exact⟨p,h1⟩
  .exact ih h3 x hx
theorem QJ (h:Pn (.tup xs)):∀ x∈xs,Pn x:=by
 obtain⟨p,h⟩:=h;simp only[pyD] at h;obtain⟨ps,h1,_⟩:=Bn.mp h;exact pns h1
theorem QL:∀ {xs:Aa D},(∀ x∈xs,Pn x)->∃ l,u3 xs=Ab l
 |[],_=>⟨[],rfl⟩
 |x::xs,h=>by
  obtain⟨l,e⟩:=QL (xs:=xs) λy hy=>h y (Bb _ hy);obtain⟨q,e'⟩:=h x (Bx ..);refine⟨q::l,?_⟩;show (pyD x).bind (λx=>(u3 xs).map (x::·))=_
  rw[e,e'];rfl
theorem RY (h:∀ x∈xs,Pn x):Pn (.tup xs):=by
 obtain⟨l,e⟩:=QL h;exact⟨.tuple l,by simp only[pyD,e,Ic]⟩
noncomputable def inR (a b:Am):D->Ap
 |.int i=>decide (a<=i/\i<=b)
 |_=>false
noncomputable def isW:D->Ap
 |.int _=>true
 |_=>false
noncomputable def isT:D->Ap
 |.tup _=>true
 |_=>false
theorem V6 {d:D}(h:Pn d)(S:Sto):zV [d,.ty "tuple"] S=.ok (.bl (isT d)) S:=by
 obtain⟨p,h⟩:=h;cases d <;> first|kernel_rfl!|simp[pyD] at h
theorem mU {fa fb fc:DE}{env:qE}{a b c:Am}(h1:fa env S=.ok (.int a) S)(h2:fb env S=.ok (.int b) S)(h3:fc env S=.ok (.int c) S)(q:Q (.bl (decide (a<=b/\b<=c))) S):Ok (wG gLe gLe fa fb fc env S) Q:=by
 refine⟨_,_,?_,q⟩;unfold wG;rw[h1,Res.bind_ok,h2,Res.bind_ok];show (match xO (.bl (decide (a<=b))) S with|some true=>(fc env S).bind λw S4=>gLe (.int b) w S4|some false=>Res.ok (.bl (decide (a<=b))) S|none=>.bad)=_
 by_cases h:a<=b
 .rw[Bm h]
  show (fc env S).bind _=_;rw[h3];simp only[h,true_and];rfl
 .rw[Cc h,Cc λz=>h z.1]
  rfl
theorem YZ (xs:Aa D):zO xs (Ab 1) none=xs.drop 1:=by
 unfold zO;have h1:_H.sIx xs.length 0 (Ab 1)=min 1 xs.length:=rfl;have h2:_H.sIx xs.length xs.length none=xs.length:=rfl;rw[h1,h2];cases xs with
 |nil=>rfl
 |cons x r=>simp
theorem fS (n:Ai):_H.stepN n (-1)=n:=by
 unfold _H.stepN _H.stepLo _H.stepHi Ef Eg;simp
 split <;> lia
theorem ZK {k:Am}{x:D}(h:x∈_H.stepL xs k):x∈xs:=by
 unfold _H.stepL at h;obtain⟨m,_,e⟩:=Fv.mp h;exact AQ e
theorem M4 {a:Aa D}{k:Ai}(l:a.length*k<=lim/\k<1000)(h:Q (.lst (Br k a).flatten) S):Ok (uK (.lst a) (.int (k:Am)) S) Q:=by
 refine⟨_,_,?_,h⟩;unfold uK;have c:0<=(k:Am)/\(k:Am)<2 ^ 62/\a.length*(k:Am).toNat<=lim:=⟨by lia,by lia,by rw[Dv];exact l.1⟩
 refine(AF c).trans ?_;rw[Dv]
theorem M7 {a:Aa D}(l:a.length<=1000)(h:Q (.tup (_H.stepL a (-1))) S):Ok (nY (.tup a) (.int (-1)) S) Q:=⟨_,_,AF ⟨by lia,by lia,by rw[fS];unfold lim;lia⟩,h⟩
theorem lQ (xs:Aa D)(i:Ai):zO xs (Ab ((i:Am)+1)) none=xs.drop (i+1):=by
 unfold zO;have e1:_H.sIx xs.length 0 (Ab ((i:Am)+1))=min (i+1) xs.length:=by
  have:((i:Am)+1)=((i+1:Ai):Am):=by lia
  rw[this,_H.sIx_nat]
 rw[e1,_H.sIx_none];by_cases h:i+1<=xs.length
 .rw[Wh h,Fj (by simp)]
 .have:xs.drop (i+1)=[]:=Kg li
  rw[this,Vr li];simp
noncomputable def eL:Ai->Aa D->Aa D
 |_,[]=>[]
 |k,x::xs=>D.tup [.int (k:Am),x]::eL (k+1) xs
theorem lX (xs:Aa D):yA xs=eL 0 xs:=by
 have key:∀ (xs:Aa D) (k:Ai),(xs.mapIdx λi x=>D.tup [.int ((i+k:Ai):Am),x])=eL k xs:=by
  intro xs
  induction xs with
  |nil=>intro k;rfl
  |cons x xs ih =>
   intro k;rw[List.mapIdx_cons];show _::_=D.tup [.int (k:Am),x]::eL (k+1) xs
   congr 1
   .simp
   .rw[<- ih (k+1)]
    congr 1
    funext i y
    congr 4
    lia
 have:=key xs 0;simpa [yA] using this
set_option tactic.hygienic true in
theorem YJ {l:Aa Am}{k x:Am}:x∈Gh l k↔x∈l\/x=k:=by
 unfold Gh
 split
 .rename_i h
  simp at h;constructor
  .exact λz=>.inl z
  .rintro (z|rfl)
   .exact z
   .exact h
 .simp
theorem XU {ks:Aa Am}:∀ {l:Aa Am} {x:Am},x∈ks.foldl Gh l↔x∈l\/x∈ks:=by
 induction ks with
 |nil=>intro l x;simp
 |cons k ks ih =>
  intro l x;rw[IY,ih,YJ,Av];constructor
  .rintro ((h|h)|h)
   .exact .inl h
   .exact .inr (.inl h)
   .exact .inr (.inr h)
  .rintro (h|h|h)
   .exact .inl (.inl h)
   .exact .inl (.inr h)
   .exact .inr h
set_option tactic.hygienic true in
theorem UX:∀ (ks l:Aa Am),l.Nodup->(ks.foldl Gh l).Nodup:=by
 intro ks
 induction ks with
 |nil=>exact λl h=>h
 |cons k ks ih =>
  intro l h;rw[IY];apply ih;unfold Gh
  split
  .exact h
  .rename_i hn
   rw[Nz];refine⟨h,by simp,?_⟩
   intro a ha b hb hab;simp at hb hn;subst hb;subst hab;exact hn ha
end _D
namespace _K
open PySem PySem.Spec PyProof.Rows _L _D
noncomputable def top (i:Ai):Dd:=Np.main.body.getD i (.Pass ⟨0,0,0,0⟩)
structure Cl where
 (FarError NoPoint NoLot NoNumber NoCircle NoMarks NoFars NoText NoLine NoDeed Alike TooMany gaps is_even as_lot:Af)
noncomputable def xH (c:Cl):Aa Af:=[c.NoPoint,c.NoLot,c.NoNumber,c.NoCircle,c.NoMarks,c.NoFars,c.NoText,c.NoLine,c.NoDeed,c.Alike,c.TooMany]
noncomputable def gE (c:Cl):Aa Ac:=[.ref c.NoPoint,.ref c.NoLot,.ref c.NoNumber,.ref c.NoCircle,.ref c.NoMarks,.ref c.NoFars,.ref c.NoText,.ref c.NoLine,.ref c.NoDeed]
noncomputable abbrev clt (c:Cl):Aa (As × Af):=[("FarError",c.FarError),("NoPoint",c.NoPoint),("NoLot",c.NoLot),("NoNumber",c.NoNumber),("NoCircle",c.NoCircle),("NoMarks",c.NoMarks),("NoFars",c.NoFars),("NoText",c.NoText),("NoLine",c.NoLine),("NoDeed",c.NoDeed),("Alike",c.Alike),("TooMany",c.TooMany),("gaps",c.gaps),("is_even",c.is_even),("as_lot",c.as_lot)]
noncomputable abbrev plt (c:Cl):Aa (As × Af):=[("NoPoint",c.NoPoint),("NoLot",c.NoLot),("NoNumber",c.NoNumber),("NoCircle",c.NoCircle),("NoMarks",c.NoMarks),("NoFars",c.NoFars),("NoText",c.NoText),("NoLine",c.NoLine),("NoDeed",c.NoDeed)]
noncomputable abbrev cst:Aa (As × Am):=[("MOST_MARKS",20),("MOST_MARK",1000)]
noncomputable abbrev bl:Aa As:=["ValueError","all","bool","enumerate","int","isinstance","len","list","range","repr","set","sorted","str","tuple","zip"]
noncomputable abbrev tab:Aa (As × Ai × Aa As):=[("is_whole",14,["thing"]),("is_rising",15,["some"]),("are_marks",19,["thing"]),("need_marks",20,["thing"]),("differences",21,["marks"]),("gaps",22,["marks"]),("is_even",23,["marks"]),("as_lot",24,["marks"]),("_law_kinds",26,["_law_e"]),("_law_refused",27,["_law_call"]),("_law_same",28,["_law_found","_law_due"]),("_law_whole",29,["_law_found"]),("_law_cell",30,["_law_script","_law_k"]),("_law_pen",31,["_law_cell_here"]),("_law_draw",32,["_law_pen_here","_law_many"]),("_law_marks",33,["_law_pen_here","_law_most"]),("_law_no_marks",34,["_law_pen_here","_law_marks_here"]),("_law_are_marks",35,["_law_thing"]),("_law_bent",36,["_law_pen_here","_law_marks_here"]),("_law_right",37,["_law_thing"]),("law",38,["_law_script"])]
abbrev Txt (K:Aj)(mg:As->Al Ac)(c:Cl):Prop:=TxS K mg top tab bl (clt c) (plt c) (gE c) (xH c) cst
noncomputable abbrev FL:Aa As:=["_law_right"]
noncomputable def fnL (c:Cl):Aa Af:=[c.gaps,c.is_even,c.as_lot]
@[reducible] def b_is_whole:DS:=z0 (uZ (qL zV (qA (qC 0) (qA (dC (.ty "int")) (qB)))) (cS (qL zV (qA (qC 0) (qA (dC (.ty "bool")) (qB))))))
@[irreducible] def S_is_whole:DF:=sh (qX 1 b_is_whole)
theorem kU:S_is_whole=qX 1 b_is_whole:=by delta S_is_whole;exact xF _
@[reducible] def b_is_rising:DS:=z0 (qL (j6 false) (qA (zE false [none,none] (xE (j3 (qA (qC 0) (qA (dSl (qC 0) (zA (dC (.int 1))) (zH)) (qB))))) (gTp 2 (zU (gNm 0) (zU (gNm 1) (yM)))) (xI) (zK (d2 gLt (qC 0) (qC 1)))) (qB)))
@[irreducible] def S_is_rising:DF:=sh (qX 1 b_is_rising)
theorem jI:S_is_rising=qX 1 b_is_rising:=by delta S_is_rising;exact xF _
@[reducible] def b_are_marks:DS:=qQ (sIf (k8 (xK (dTr (qL zV (qA (qC 0) (qA (dC (.ty "tuple")) (qB)))))) (xK (dTr (wG gLe gLe (dC (.int 1)) (qL yB (qA (qC 0) (qB))) (dC (.int (20))))))) (z0 (dC (.bl false))) (zN)) (qQ (sIf (k8 (xK (dTr (qL (j6 false) (qA (zE false [none] (dIt (qC 0)) (gNm 0) (xI) (zK (qR 1 (okO S_is_whole) (qA (qC 0) (qB))))) (qB))))) (xK (dTr (qR 1 S_is_rising (qA (qC 0) (qB)))))) (z0 (dC (.bl false))) (zN)) (z0 (uZ (d2 gEq (d2 gIx (qC 0) (dC (.int 0))) (dC (.int 0))) (d2 gLe (d2 gIx (qC 0) (d1 bE (dC (.int 1)))) (dC (.int (1000)))))))
@[irreducible] def S_are_marks:DF:=sh (qX 1 b_are_marks)
theorem jH:S_are_marks=qX 1 b_are_marks:=by delta S_are_marks;exact xF _
@[reducible] def b_need_marks (c:Cl):DS:=sIf (xK (dTr (qR 1 S_are_marks (qA (qC 0) (qB))))) (jQ (.ref c.NoMarks) (qA (dC (.str "marks are needed")) (qB))) (zN)
@[irreducible] def S_need_marks (c:Cl):DF:=sh (qX 1 (b_need_marks c))
theorem yK (c:Cl):S_need_marks c=qX 1 (b_need_marks c):=by delta S_need_marks;exact xF _
@[reducible] def b_differences:DS:=z0 (zE false [none,none,none,Ab 0] (xE (bQ (qA (qC 0) (qB)))) (gTp 2 (zU (gNm 0) (zU (gNm 1) (yM)))) (xI) (kIn (dIt (dSl (qC 3) (zA (d2 zC (qC 0) (dC (.int 1)))) (zH))) (gNm 2) (xI) (zK (d2 j8 (qC 2) (qC 1)))))
@[irreducible] def S_differences:DF:=sh (qX 1 b_differences)
theorem vL:S_differences=qX 1 b_differences:=by delta S_differences;exact xF _
@[reducible] def b_gaps (c:Cl):DS:=qQ (yD (qR 1 (S_need_marks c) (qA (qC 0) (qB)))) (z0 (w9 true (qR 1 S_differences (qA (qC 0) (qB)))))
@[irreducible] def S_gaps (c:Cl):DF:=sh (qX 1 (b_gaps c))
theorem gC (c:Cl):S_gaps c=qX 1 (b_gaps c):=by delta S_gaps;exact xF _
@[reducible] def b_is_even (c:Cl):DS:=qQ (yD (qR 1 (S_need_marks c) (qA (qC 0) (qB)))) (z0 (d2 gLe (nX p8 [none,none] (xE (j3 (qA (qC 0) (qA (dSl (qC 0) (zA (dC (.int 1))) (zH)) (qB))))) (gTp 2 (zU (gNm 0) (zU (gNm 1) (yM)))) (xI) (gP uW (d2 j8 (qC 1) (qC 0)))) (dC (.int 1))))
@[irreducible] def S_is_even (c:Cl):DF:=sh (qX 1 (b_is_even c))
theorem vM (c:Cl):S_is_even c=qX 1 (b_is_even c):=by delta S_is_even;exact xF _
@[reducible] def b_as_lot (c:Cl):DS:=qQ (yD (qR 1 (S_need_marks c) (qA (qC 0) (qB)))) (z0 (qL vR (qA (zE false [none] (dIt (qC 0)) (gNm 0) (xI) (zK (zL (qA (qC 0) (qA (dC (.int 0)) (qB)))))) (qB))))
@[irreducible] def S_as_lot (c:Cl):DF:=sh (qX 1 (b_as_lot c))
theorem uV (c:Cl):S_as_lot c=qX 1 (b_as_lot c):=by delta S_as_lot;exact xF _
@[reducible] def b__law_kinds (c:Cl):DS:=qQ (zG (zT (qA (qL (zQ (xH c)) (qA (qC 0) (qA (dC (.obj c.NoPoint)) (qB)))) (qA (qL (zQ (xH c)) (qA (qC 0) (qA (dC (.obj c.NoLot)) (qB)))) (qA (qL (zQ (xH c)) (qA (qC 0) (qA (dC (.obj c.NoNumber)) (qB)))) (qB))))) (gNm 1)) (qQ (zG (d2 zC (qC 1) (zT (qA (qL (zQ (xH c)) (qA (qC 0) (qA (dC (.obj c.NoCircle)) (qB)))) (qA (qL (zQ (xH c)) (qA (qC 0) (qA (dC (.obj c.NoMarks)) (qB)))) (qA (qL (zQ (xH c)) (qA (qC 0) (qA (dC (.obj c.NoFars)) (qB)))) (qB)))))) (gNm 1)) (qQ (zG (d2 zC (qC 1) (zT (qA (qL (zQ (xH c)) (qA (qC 0) (qA (dC (.obj c.NoText)) (qB)))) (qA (qL (zQ (xH c)) (qA (qC 0) (qA (dC (.obj c.NoLine)) (qB)))) (qA (qL (zQ (xH c)) (qA (qC 0) (qA (dC (.obj c.NoDeed)) (qB)))) (qB)))))) (gNm 1)) (qQ (zG (d2 zC (qC 1) (zT (qA (qL (zQ (xH c)) (qA (qC 0) (qA (dC (.obj c.Alike)) (qB)))) (qA (qL (zQ (xH c)) (qA (qC 0) (qA (dC (.obj c.TooMany)) (qB)))) (qB))))) (gNm 1)) (qQ (sIf (k8 (xK (dTr (qL (zQ (xH c)) (qA (qC 0) (qA (dC (.ty "ValueError")) (qB)))))) (dTr (d2 gNe (dBm "list" bV (qC 1) (qA (dC (.bl true)) (qB))) (dC (.int 1))))) (z0 (dC (.str "other"))) (zN)) (qQ (sIf (dTr (qL (zQ (xH c)) (qA (qC 0) (qA (dC (.obj c.Alike)) (qB))))) (z0 (zL (qA (dC (.str "alike")) (qA (gI) (qA (gI) (qA (gI) (qA (gI) (qB)))))))) (zN)) (qQ (sIf (dTr (qL (zQ (xH c)) (qA (qC 0) (qA (dC (.obj c.TooMany)) (qB))))) (z0 (zL (qA (dC (.str "many")) (qA (gI) (qA (gI) (qB)))))) (zN)) (qQ (zG (zT (qA (dC (.str "point")) (qA (dC (.str "lot")) (qA (dC (.str "number")) (qA (dC (.str "circle")) (qA (dC (.str "marks")) (qA (dC (.str "fars")) (qA (dC (.str "text")) (qA (dC (.str "line")) (qA (dC (.str "deed")) (qB))))))))))) (gNm 2)) (z0 (d2 gIx (qC 2) (dBm "list" bW (qC 1) (qA (dC (.bl true)) (qB))))))))))))
@[irreducible] def S__law_kinds (c:Cl):DF:=sh (qX 3 (b__law_kinds c))
theorem uF (c:Cl):S__law_kinds c=qX 3 (b__law_kinds c):=by delta S__law_kinds;exact xF _
@[reducible] def b__law_refused (c:Cl)(G:Aa D->DF)(a:Af)(cv:Aa V):DS:=qQ (bL 2 1 (gE c) (yD (jY 0 (qB) a cv 0 G)) (z0 (qR 1 (S__law_kinds c) (qA (qC 1) (qB))))) (z0 (dC (.str "told")))
@[reducible] def b__law_same (S__law_same:DF):DS:=qQ (sIf (dTr (d2 gIs (qC 1) (dC .non))) (z0 (d2 gIs (qC 0) (dC .non))) (zN)) (qQ (sIf (dTr (qL kD (qA (qC 1) (qA (zL (qA (dC (.ty "list")) (qA (dC (.ty "tuple")) (qB)))) (qB))))) (qQ (sIf (dTr (d2 gNe (qL zV (qA (qC 1) (qA (dC (.ty "list")) (qB)))) (qL zV (qA (qC 0) (qA (dC (.ty "list")) (qB)))))) (z0 (dC (.bl false))) (zN)) (qQ (sIf (k8 (dTr (d2 gNe (qL zV (qA (qC 1) (qA (dC (.ty "tuple")) (qB)))) (qL zV (qA (qC 0) (qA (dC (.ty "tuple")) (qB)))))) (dTr (d2 gNe (qL yB (qA (qC 0) (qB))) (qL yB (qA (qC 1) (qB)))))) (z0 (dC (.bl false))) (zN)) (z0 (qL (j6 false) (qA (zE false [none,none] (xE (j3 (qA (qC 0) (qA (qC 1) (qB))))) (gTp 2 (zU (gNm 0) (zU (gNm 1) (yM)))) (xI) (zK (qR 2 (okO S__law_same) (qA (qC 0) (qA (qC 1) (qB)))))) (qB)))))) (zN)) (qQ (sIf (dTr (qL zV (qA (qC 1) (qA (dC (.ty "str")) (qB))))) (z0 (uZ (qL zV (qA (qC 0) (qA (dC (.ty "str")) (qB)))) (d2 gEq (qC 0) (qC 1)))) (zN)) (qQ (sIf (dTr (d2 gNe (qL zV (qA (qC 0) (qA (dC (.ty "bool")) (qB)))) (qL zV (qA (qC 1) (qA (dC (.ty "bool")) (qB)))))) (z0 (dC (.bl false))) (zN)) (z0 (uZ (qL zV (qA (qC 0) (qA (dC (.ty "int")) (qB)))) (d2 gEq (qC 0) (qC 1)))))))
def fQ:Ai->DF
 |0=>λ_ _=>.bad
 |n+1=>qX 2 (b__law_same (fQ n))
@[irreducible] def S__law_same:DF:=sh (fQ 4)
theorem jG:S__law_same=fQ 4:=by delta S__law_same;exact xF _
@[reducible] def b__law_whole:DS:=z0 (uZ (qL zV (qA (qC 0) (qA (dC (.ty "int")) (qB)))) (cS (qL zV (qA (qC 0) (qA (dC (.ty "bool")) (qB))))))
@[irreducible] def S__law_whole:DF:=sh (qX 1 b__law_whole)
theorem uI:S__law_whole=qX 1 b__law_whole:=by delta S__law_whole;exact xF _
@[reducible] def b__law_cell:DS:=qQ (sIf (dTr (d2 gLt (qC 1) (qL yB (qA (qC 0) (qB))))) (z0 (d2 gIx (qC 0) (qC 1))) (zN)) (z0 (dC (.int 0)))
@[irreducible] def S__law_cell:DF:=sh (qX 2 b__law_cell)
theorem jE:S__law_cell=qX 2 b__law_cell:=by delta S__law_cell;exact xF _
@[reducible] def b__law_pen:DS:=z0 (nW (qA (qC 0) (qA (qL a8 (qA (d2 gGe (qC 0) (d2 aA (dC (.int 10)) (dC (.int 18)))) (qB))) (qB))))
@[irreducible] def S__law_pen:DF:=sh (qX 1 b__law_pen)
theorem kT:S__law_pen=qX 1 b__law_pen:=by delta S__law_pen;exact xF _
@[reducible] def b__law_draw:DS:=qQ (sIf (dTr (d2 gEq (d2 gIx (qC 0) (dC (.int 1))) (dC (.int 1)))) (qQ (zG (d2 j7 (d2 gIx (qC 0) (dC (.int 0))) (qC 1)) (gNm 2)) (qQ (zG (d2 mH (d2 gIx (qC 0) (dC (.int 0))) (qC 1)) (gSb (qC 0) (dC (.int 0)) vA)) (z0 (qC 2)))) (zN)) (qQ (zG (d2 j7 (d2 zC (d2 yC (d2 j7 (d2 gIx (qC 0) (dC (.int 0))) (dC (.int 2147483629))) (dC (.int 48271))) (dC (.int 11))) (dC (.int 2147483629))) (gSb (qC 0) (dC (.int 0)) vA)) (z0 (d2 j7 (d2 mH (d2 j7 (d2 zC (d2 yC (d2 gIx (qC 0) (dC (.int 0))) (d2 gIx (qC 0) (dC (.int 0)))) (d2 yC (dC (.int 40692)) (d2 gIx (qC 0) (dC (.int 0))))) (dC (.int 2147483647))) (dC (.int 8))) (qC 1))))
@[irreducible] def S__law_draw:DF:=sh (qX 3 b__law_draw)
theorem jF:S__law_draw=qX 3 b__law_draw:=by delta S__law_draw;exact xF _
@[reducible] def b__law_marks:DS:=qQ (gV 2 3 (qA (qR 2 S__law_draw (qA (qC 0) (qA (dC (.int 5)) (qB)))) (qA (d2 zC (dC (.int 1)) (qR 2 S__law_draw (qA (qC 0) (qA (qC 1) (qB))))) (qB)))) (qQ (zG (zL (qA (d2 zC (dC (.int 1)) (qR 2 S__law_draw (qA (qC 0) (qA (dC (.int 50)) (qB))))) (qA (d2 gIx (zT (qA (d2 zC (qC 3) (dC (.int 2))) (qA (d2 yC (dC (.int 3)) (qC 3)) (qA (dC (.int 1000)) (qB))))) (qR 2 S__law_draw (qA (qC 0) (qA (dC (.int 3)) (qB))))) (qB)))) (gTp 2 (zU (gNm 4) (zU (gNm 5) (yM))))) (qQ (sIf (dTr (d2 gEq (qC 2) (dC (.int 0)))) (z0 (qL vR (qA (zE false [none,Ab 4] (xE (vO (qA (qC 3) (qB)))) (gNm 0) (xI) (zK (d2 yC (qC 0) (qC 1)))) (qB)))) (zN)) (qQ (sIf (dTr (d2 gEq (qC 2) (dC (.int 1)))) (qQ (zG (zT (qA (zL (qA (dC (.int 0)) (qA (dC (.int 1)) (qA (dC (.int 4)) (qA (dC (.int 6)) (qB)))))) (qA (zL (qA (dC (.int 0)) (qA (dC (.int 1)) (qA (dC (.int 4)) (qA (dC (.int 9)) (qA (dC (.int 11)) (qB))))))) (qA (zL (qA (dC (.int 0)) (qA (dC (.int 2)) (qA (dC (.int 5)) (qA (dC (.int 6)) (qB)))))) (qA (zL (qA (dC (.int 0)) (qA (dC (.int 1)) (qA (dC (.int 3)) (qA (dC (.int 9)) (qB)))))) (qA (zL (qA (dC (.int 0)) (qA (dC (.int 1)) (qA (dC (.int 4)) (qA (dC (.int 14)) (qA (dC (.int 16)) (qB))))))) (qB))))))) (gNm 6)) (z0 (dSl (d2 gIx (qC 6) (d2 j7 (qC 4) (dC (.int 5)))) (zH) (zA (qC 3))))) (zN)) (qQ (zG (w9 false (zE false [none,Ab 0,Ab 5] (xE (vO (qA (qC 3) (qB)))) (gNm 0) (xI) (zK (d2 zC (dC (.int 1)) (qR 2 (okO S__law_draw) (qA (qC 1) (qA (qC 2) (qB)))))))) (gNm 7)) (z0 (d2 zC (zL (qA (dC (.int 0)) (qB))) (dSl (qL vR (qA (qC 7) (qB))) (zH) (zA (d2 j8 (qC 1) (dC (.int 1)))))))))))
@[irreducible] def S__law_marks:DF:=sh (qX 8 b__law_marks)
theorem uG:S__law_marks=qX 8 b__law_marks:=by delta S__law_marks;exact xF _
@[reducible] def b__law_no_marks:DS:=qQ (gV 2 3 (qA (qR 2 S__law_draw (qA (qC 0) (qA (dC (.int 15)) (qB)))) (qA (qR 2 S__law_draw (qA (qC 0) (qA (qL yB (qA (qC 1) (qB))) (qB)))) (qB)))) (qQ (zG (d2 gIx (zT (qA (d1 bE (dC (.int 1))) (qA (dC (.int 1001)) (qA (dC (.bl true)) (qA (dC .non) (qA (dC (.str "1")) (qA (zL (qA (dC (.int 1)) (qB))) (qA (dC (.bl false)) (qA (d2 aA (dC (.int 10)) (dC (.int 29))) (qB)))))))))) (qR 2 S__law_draw (qA (qC 0) (qA (dC (.int 8)) (qB))))) (gNm 4)) (qQ (zG (d2 zC (d2 zC (dSl (qC 1) (zH) (zA (qC 3))) (zL (qA (qC 4) (qB)))) (dSl (qC 1) (zA (d2 zC (qC 3) (dC (.int 1)))) (zH))) (gNm 5)) (qQ (zG (d2 zC (d2 uK (zT (qA (qC 5) (qB))) (dC (.int 4))) (zT (qA (dC .non) (qA (zL (qB)) (qA (qL pA (qA (qC 1) (qB))) (qA (d2 zC (zL (qA (dC (.int 1)) (qB))) (dSl (qC 1) (zA (dC (.int 1))) (zH))) (qA (dC (.str "0 1")) (qA (dC (.int 7)) (qA (nV) (qB)))))))))) (gNm 6)) (qQ (zG (d2 zC (qC 6) (zT (qA (d2 zC (qC 1) (dSl (qC 1) (zA (d1 bE (dC (.int 1)))) (zH))) (qA (p7 true (qA (dC (.int 21)) (qB))) (qA (d2 zC (qC 1) (zL (qA (dC (.int 0)) (qB)))) (qB)))))) (gNm 6)) (z0 (d2 gIx (d2 zC (qC 6) (zT (qA (zL (qA (qC 1) (qB))) (qB)))) (qC 2)))))))
@[irreducible] def S__law_no_marks:DF:=sh (qX 7 b__law_no_marks)
theorem vD:S__law_no_marks=qX 7 b__law_no_marks:=by delta S__law_no_marks;exact xF _
@[reducible] def b__law_are_marks:DS:=qQ (sIf (k8 (xK (dTr (qL zV (qA (qC 0) (qA (dC (.ty "tuple")) (qB)))))) (xK (dTr (wG gLe gLe (dC (.int 1)) (qL yB (qA (qC 0) (qB))) (dC (.int 20)))))) (z0 (dC (.bl false))) (zN)) (qQ (sIf (xK (dTr (qL (j6 false) (qA (zE false [none] (dIt (qC 0)) (gNm 0) (xI) (zK (uZ (qR 1 (okO S__law_whole) (qA (qC 0) (qB))) (wG gLe gLe (dC (.int 0)) (qC 0) (dC (.int 1000)))))) (qB))))) (z0 (dC (.bl false))) (zN)) (z0 (uZ (d2 gEq (d2 gIx (qC 0) (dC (.int 0))) (dC (.int 0))) (d2 gEq (qL pA (qA (qC 0) (qB))) (w9 false (qC 0))))))
@[irreducible] def S__law_are_marks:DF:=sh (qX 1 b__law_are_marks)
theorem yX:S__law_are_marks=qX 1 b__law_are_marks:=by delta S__law_are_marks;exact xF _
@[reducible] def b__law_bent:DS:=qQ (gV 2 3 (qA (qR 2 S__law_draw (qA (qC 0) (qA (dC (.int 9)) (qB)))) (qA (qR 2 S__law_draw (qA (qC 0) (qA (qL yB (qA (qC 1) (qB))) (qB)))) (qB)))) (qQ (zG (zT (qA (d2 zC (d2 gIx (qC 1) (qC 3)) (dC (.int 1))) (qA (d2 j8 (d2 gIx (qC 1) (qC 3)) (dC (.int 1))) (qA (dC (.int 0)) (qA (dC (.int 1000)) (qA (dC (.int 1001)) (qA (dC (.bl true)) (qA (dC (.bl false)) (qA (dC .non) (qA (zL (qA (dC (.int 1)) (qB))) (qB))))))))))) (gNm 4)) (qQ (zG (d2 gIx (qC 4) (qR 2 S__law_draw (qA (qC 0) (qA (dC (.int 9)) (qB))))) (gNm 4)) (qQ (zG (d2 zC (d2 zC (dSl (qC 1) (zH) (zA (qC 3))) (zL (qA (qC 4) (qB)))) (dSl (qC 1) (zA (d2 zC (qC 3) (dC (.int 1)))) (zH))) (gNm 5)) (qQ (zG (zT (qA (qC 5) (qA (qC 5) (qA (qC 5) (qA (d2 zC (qC 1) (zL (qA (qC 4) (qB)))) (qB)))))) (gNm 6)) (qQ (zG (d2 zC (qC 6) (zT (qA (d2 zC (dSl (qC 1) (zH) (zA (qC 3))) (dSl (qC 1) (zA (d2 zC (qC 3) (dC (.int 1)))) (zH))) (qA (cT (qC 1) (d1 bE (dC (.int 1)))) (qA (qL pA (qA (qC 1) (qB))) (qB)))))) (gNm 6)) (qQ (zG (d2 zC (d2 zC (dSl (qC 1) (zH) (zA (qC 3))) (dSl (qC 1) (zA (qC 3)) (zA (d2 zC (qC 3) (dC (.int 1)))))) (dSl (qC 1) (zA (qC 3)) (zH))) (gNm 7)) (z0 (d2 gIx (d2 zC (qC 6) (zT (qA (qC 7) (qA (d2 zC (dSl (qC 1) (zA (qC 3)) (zH)) (dSl (qC 1) (zH) (zA (qC 3)))) (qB))))) (qC 2)))))))))
@[irreducible] def S__law_bent:DF:=sh (qX 8 b__law_bent)
theorem jD:S__law_bent=qX 8 b__law_bent:=by delta S__law_bent;exact xF _
@[reducible] def b__law_right (c:Cl):DS:=qQ (gV 1 2 (qA (qL pB (qA (qC 0) (qB))) (qA (qR 1 S__law_are_marks (qA (qC 0) (qB))) (qB)))) (qQ (sIf (k8 (xK (dTr (qR 2 S__law_same (qA (qR 1 S_are_marks (qA (qC 0) (qB))) (qA (qC 2) (qB)))))) (dTr (d2 gNe (qL pB (qA (qC 0) (qB))) (qC 1)))) (z0 (dC (.bl false))) (zN)) (qQ (sIf (xK (dTr (qC 2))) (z0 (d2 gEq (zE false [none,Ab 0] (dIt (zL (qA (dC (.obj c.gaps)) (qA (dC (.obj c.is_even)) (qA (dC (.obj c.as_lot)) (qB)))))) (gNm 0) (xI) (zK (gJ true [0,1] 1 2 (qB) (b__law_refused c (bI (bB 0 [(c.gaps,1,S_gaps c),(c.is_even,1,S_is_even c),(c.as_lot,1,S_as_lot c)] (qA (qC 1) (qB)))))))) (d2 uK (zT (qA (dC (.str "marks")) (qB))) (dC (.int 3))))) (zN)) (qQ (zG (zT (qB)) (gNm 3)) (qQ (tF (bQ (qA (qC 0) (qB))) (gTp 2 (zU (gNm 4) (zU (gNm 5) (yM)))) (zG (d2 zC (qC 3) (zE false [none,Ab 5] (dIt (dSl (qC 0) (zA (d2 zC (qC 4) (dC (.int 1)))) (zH))) (gNm 0) (xI) (zK (d2 j8 (qC 0) (qC 1))))) (gNm 3))) (qQ (tF (vO (qA (dC (.int 2)) (qB))) (gNm 6) (qQ (zG (qR 1 (S_gaps c) (qA (qC 0) (qB))) (gNm 7)) (qQ (sIf (xK (dTr (qR 2 (uN S__law_same) (qA (qC 7) (qA (w9 false (qC 3)) (qB)))))) (z0 (dC (.bl false))) (zN)) (yD (dBm "list" yZ (qC 7) (qA (dC (.int 0)) (qB))))))) (qQ (zG (zE false [none,none] (xE (j3 (qA (qC 0) (qA (dSl (qC 0) (zA (dC (.int 1))) (zH)) (qB))))) (gTp 2 (zU (gNm 0) (zU (gNm 1) (yM)))) (xI) (zK (d2 j8 (qC 1) (qC 0)))) (gNm 8)) (qQ (sIf (xK (dTr (qR 2 S__law_same (qA (qR 1 (S_is_even c) (qA (qC 0) (qB))) (qA (d2 gLt (jZ (qC 8)) (dC (.int 2))) (qB)))))) (z0 (dC (.bl false))) (zN)) (z0 (qR 2 S__law_same (qA (qR 1 (S_as_lot c) (qA (qC 0) (qB))) (qA (qL vR (qA (zE false [none] (dIt (qC 0)) (gNm 0) (xI) (zK (zL (qA (qC 0) (qA (dC (.int 0)) (qB)))))) (qB))) (qB))))))))))))
@[irreducible] def S__law_right (c:Cl):DF:=sh (qX 9 (b__law_right c))
theorem uH (c:Cl):S__law_right c=qX 9 (b__law_right c):=by delta S__law_right;exact xF _
@[reducible] def b_law (c:Cl):DS:=qQ (zG (zT (qA (zL (qA (dC (.int 0)) (qB))) (qA (zL (qA (dC (.int 0)) (qA (dC (.int 1)) (qB)))) (qA (zL (qA (dC (.int 0)) (qA (dC (.int 1000)) (qB)))) (qA (zL (qA (dC (.int 0)) (qA (dC (.int 1001)) (qB)))) (qA (zL (qA (dC (.int 1)) (qB))) (qA (zL (qA (dC (.int 0)) (qA (dC (.int 2)) (qA (dC (.int 1)) (qB))))) (qA (zL (qA (dC (.int 0)) (qA (dC (.int 0)) (qB)))) (qA (zL (qA (dC (.bl false)) (qA (dC (.int 1)) (qB)))) (qA (zL (qA (dC (.int 0)) (qA (dC (.bl true)) (qB)))) (qA (zL (qB)) (qA (dC .non) (qA (zT (qA (dC (.int 0)) (qB))) (qA (dC (.int 0)) (qB))))))))))))))) (gNm 1)) (qQ (zG (d2 zC (qC 1) (zT (qA (dC (.str "0")) (qB)))) (gNm 1)) (qQ (sIf (xK (dTr (qL (j6 false) (qA (zE false [none] (dIt (d2 zC (qC 1) (zT (qA (p7 true (qA (dC (.int 20)) (qB))) (qA (p7 true (qA (dC (.int 21)) (qB))) (qB)))))) (gNm 0) (xI) (zK (qR 1 (okO (S__law_right c)) (qA (qC 0) (qB))))) (qB))))) (z0 (dC (.bl false))) (zN)) (qQ (tF (gL (d2 zC (zT (qA (qR 2 S__law_cell (qA (qC 0) (qA (dC (.int 0)) (qB)))) (qB))) (dSl (qC 0) (zA (dC (.int 1))) (zA (dC (.int 10)))))) (gNm 2) (qQ (zG (qR 1 S__law_pen (qA (qC 2) (qB))) (gNm 3)) (qQ (zG (qR 2 S__law_marks (qA (qC 3) (qA (dC (.int 20)) (qB)))) (gNm 4)) (qQ (zG (zT (qA (qC 4) (qA (qR 2 S__law_no_marks (qA (qC 3) (qA (qC 4) (qB)))) (qB)))) (gNm 5)) (qQ (zG (d2 zC (qC 5) (zE false [none,Ab 4,Ab 3] (xE (vO (qA (dC (.int 5)) (qB)))) (gNm 0) (xI) (zK (qR 2 (okO S__law_bent) (qA (qC 2) (qA (qC 1) (qB))))))) (gNm 5)) (sIf (xK (dTr (qL (j6 false) (qA (zE false [none] (dIt (qC 5)) (gNm 0) (xI) (zK (qR 1 (okO (S__law_right c)) (qA (qC 0) (qB))))) (qB))))) (z0 (dC (.bl false))) (zN))))))) (z0 (dC (.bl true))))))
end _K
namespace _K
open PySem _D
variable {cl:Aa Af}{ms ns:Aa Am}{xs:Aa D}{C:Af}{p i M:Ai}{f:DE}{Q:D->Sto->Prop}{S:Sto}{env:qE}
theorem G7 {d:D}(h:Pn d)(S:Sto):S_is_whole [d] S=.ok (.bl (isW d)) S:=by
 rw[kU];obtain⟨p,h⟩:=h;cases d <;> first|kernel_rfl!|simp[pyD] at h
theorem wQ {m:Am}(h:jV S p)(hm:0<m/\m<1073741824)(q:∀ (r:Ai) S1,Kp p S S1->(r:Am)<m->Q (.int r) S1):Ok (S__law_draw [.loc p,.int m] S) Q:=by
 have fin:∀ r v f:Am,0<=r->r<m->Q (.int r) (S.set p (.lst [.int v,.int f])):=λr v f h0 h1=>by
  obtain⟨r,rfl⟩:=OP h0;obtain⟨v0,f0,e⟩:=h;have hpl:=(Bg.mp e).1;exact q r _ ⟨⟨v,f,by simp[hpl]⟩,by simp,λi hi hn=>CQ (Ed hn)⟩ h1
 obtain⟨v,f,e⟩:=h;have hpl:=(Bg.mp e).1;rw[jF];refine zP (env:=[Ab (.loc p),Ab (.int m),none]) rfl ?_;rfl';refine kO e (d:=.int f) rfl ?_;rfl';refine uU (λz=>?_) λz=>?_
 .rfl'
  refine kO e (d:=.int v) rfl ?_;rfl';refine kO e (d:=.int v) rfl ?_;rfl';refine QC e rfl ?_;rfl';exact fin _ _ _ (Ib _ om) (Gu _ hm.1)
 .rfl'
  refine kO e (d:=.int v) rfl ?_;have hv:=Ib v (show (2147483629:Am)≠0 by omega)
  have hv':=Gu v (show (0:Am)<2147483629 by omega)
  rfl';have hw:=Ib (v % 2147483629*48271+11) (show (2147483629:Am)≠0 by omega)
  have hw':=Gu (v % 2147483629*48271+11) (show (0:Am)<2147483629 by omega)
  generalize (v % 2147483629*48271+11) % 2147483629=w at hw hw';refine QC e rfl ?_;have e2:(S.set p (MO.lst [.int w,.int f]))[p]? = Ab (.lst [.int w,.int f]):=by simp[hpl]
  rfl';refine kO e2 (d:=.int w) rfl ?_;rfl';refine kO e2 (d:=.int w) rfl ?_;rfl';refine kO e2 (d:=.int w) rfl ?_;rfl';exact fin _ _ _ (Ib _ om) (Gu _ hm.1)
theorem D2 {x:Am}(q:∀ p S1,jV S1 p->Q (.loc p) S1):Ok (S__law_pen [.int x] S) Q:=by
 rw[kT];refine zP (env:=[Ab (.int x)]) rfl ?_;rfl';refine qT (d:=.int 1000000000000000000) rfl ?_;rfl';refine qT (d:=.int (b01 (decide (1000000000000000000<=x)))) rfl ?_;rfl';exact q _ _ ⟨_,_,rG _ _⟩
theorem LS (nd:cl.Nodup){i j:Ai}{a b:Af}(ha:cl[i]? = Ab a)(hb:cl[j]? = Ab b)(h:i≠j):(a == b)=false:=by
 rw[Fe];rintro rfl;obtain⟨h1,e1⟩:=Bg.mp ha;obtain⟨h2,e2⟩:=Bg.mp hb;exact h ((O6 nd).mp (e1.trans e2.symm))
theorem LY {B:Af}(hC:C∈cl)(hB:B∈cl)(q:Q (.bl (C == B)) S):Ok (zQ cl [.exn (.ref C),.obj B] S) Q:=by
 refine⟨_,_,?_,q⟩;show (if (cl.contains C&&cl.contains B)=true then Res.ok (D.bl (C == B)) S else .bad)=_
 rw[Dx.mpr hC,Dx.mpr hB];rfl
theorem LZ (hC:C∈cl)(q:Q (.bl true) S):Ok (zQ cl [.exn (.ref C),.ty "ValueError"] S) Q:=by
 refine⟨_,_,?_,q⟩;show (if (cl.contains C&&(("ValueError" : CF) == "ValueError"))=true then Res.ok (D.bl true) S else .bad)=_
 rw[Dx.mpr hC];rfl
theorem LR (nd:cl.Nodup){i j:Ai}{a b:Af}(ha:cl[i]? = Ab a)(hb:cl[j]? = Ab b):decide (i=j)=(a == b):=by
 by_cases h:i=j
 .subst h
  cases ha.symm.trans hb;rw[Bm rfl,CH]
 .rw[Cc h,LS nd ha hb h]
theorem nN (c:Cl)(nd:(xH c).Nodup)(S:Sto):S__law_kinds c [.exn (.ref c.NoMarks)] S=.ok (.str "marks") S:=by
 have s:∀ {Q:D->Sto->Prop} (j:Ai) {B:Af},(xH c)[j]? = Ab B->Q (.bl (decide (4=j))) S->Ok (zQ (xH c) [.exn (.ref c.NoMarks),.obj B] S) Q:=λj B h q=>LY (AQ (i:=4) rfl) (AQ h) (LR nd (i:=4) rfl h▸q);rw[uF];refine xM (zP (env:=[Ab (.exn (.ref c.NoMarks)),none,none]) rfl ?_);rfl';refine s 0 rfl ?_;rfl';refine s 1 rfl ?_;rfl';refine s 2 rfl ?_;rfl';refine s 3 rfl ?_;rfl';refine s 4 rfl ?_;rfl';refine s 5 rfl ?_;rfl';refine w5 (AN rfl) ?_;rfl';refine s 6 rfl ?_;rfl';refine s 7 rfl ?_;rfl';refine s 8 rfl ?_;rfl';refine w5 (AN rfl) ?_;rfl';refine s 9 rfl ?_;rfl';refine s 10 rfl ?_;rfl';refine w5 (AN rfl) ?_;rfl';refine pH ?_;rfl';refine LZ (AQ (i:=4) rfl) ?_;rfl';refine⟨(λe=>by cases e),λ_=>?_⟩
 rfl';refine qT (d:=.int 1) (S:=S) (by kernel_rfl!) ?_
 rfl';refine uU (λ_=>?_) λe=>absurd rfl e;rfl';refine s 9 rfl ?_;rfl';refine uU (λe=>absurd e (by decide)) λ_=>?_
 rfl';refine s 10 rfl ?_;rfl';refine uU (λe=>absurd e (by decide)) λ_=>?_
 rfl';refine qT (d:=.int 4) (S:=S) (by kernel_rfl!) ?_
 exact aS (d:=.str "marks") rfl ⟨rfl,rfl⟩
noncomputable def sq (b:Ap)(ws:Aa D):D:=match b with
 |true=>.tup ws
 |false=>.lst ws
theorem YS (ws:Aa D):yF ws ws=ws.map λx=>D.tup [x,x]:=by
 induction ws with
 |nil=>rfl
 |cons w ws ih=>exact congrArg (D.tup [w,w]::·) ih
theorem sH (F:DF)(b:Ap)(ws:Aa D)(S:Sto)(hw:ws.length<=lim)(ih:∀ x∈ws,F [x,x] S=.ok (.bl true) S):qX 2 (b__law_same F) [sq b ws,sq b ws] S=.ok (.bl true) S:=by
 have t1:zV [sq b ws,.ty "list"] S=.ok (.bl (!b)) S:=by cases b <;> kernel_rfl!
 have t2:zV [sq b ws,.ty "tuple"] S=.ok (.bl b) S:=by cases b <;> kernel_rfl!
 have t3:kD [sq b ws,.tup [.ty "list",.ty "tuple"]] S=.ok (.bl true) S:=by cases b <;> kernel_rfl!
 have l:yB [sq b ws] S=.ok (.int ws.length) S:=by cases b <;> rfl
 have n:∀ x:Ap,gNe (.bl x) (.bl x) S=.ok (.bl false) S:=λx=>by cases x <;> rfl
 have hz:xE (j3 (qA (qC 0) (qA (qC 1) (qB)))) [Ab (sq b ws),Ab (sq b ws)] S=.ok (none,ws.map λx=>D.tup [x,x]) S:=by
  rw[<- YS];cases b <;> rfl
 refine xM (zP (env:=[Ab (sq b ws),Ab (sq b ws)]) rfl ?_);rfl';refine qT (d:=.bl false) (S:=S) (by cases b <;> rfl) ?_
 rfl';refine qT t3 ?_;rfl';refine qT t1 ?_;rfl';refine qT t1 ?_;rfl';refine qT (n _) ?_;rfl';refine pH ?_;rfl';refine qT t2 ?_;rfl';refine qT t2 ?_;rfl';refine qT (n _) ?_;rfl';refine⟨(λe=>by cases e),λ_=>?_⟩
 rfl';refine qT l ?_;rfl';refine qT l ?_;rfl';refine uU (λ_=>?_) λe=>absurd rfl e;rfl';refine wO ws (λ_=>.bl true) (λenv S'=>S'=S/\∃ a b,env=[a,b]) hz ⟨rfl,none,none,rfl⟩ hw (λ_ _ _=>trivial) (λx hx env S' ⟨e1,a,b,e2⟩=>?_) λenv S' ⟨e1,_⟩=>?_
 .subst e1 e2
  rfl';exact qT (ih x hx) ⟨rfl,rfl,_,_,rfl⟩
 .subst e1
  rfl';exact pF (p:=λ_=>true) ⟨by simp,rfl⟩
theorem pN (F:DF){d:D}(S:Sto)(h1:gIs d .non S=.ok (.bl false) S)(h2:kD [d,.tup [.ty "list",.ty "tuple"]] S=.ok (.bl false) S)(h3:zV [d,.ty "str"] S=.ok (.bl false) S){b:Ap}(h4:zV [d,.ty "bool"] S=.ok (.bl b) S)(h5:zV [d,.ty "int"] S=.ok (.bl true) S)(h6:gEq d d S=.ok (.bl true) S):qX 2 (b__law_same F) [d,d] S=.ok (.bl true) S:=by
 refine xM (zP (env:=[Ab d,Ab d]) rfl ?_);rfl';refine qT h1 ?_;rfl';refine qT h2 ?_;rfl';refine qT h3 ?_;rfl';refine qT h4 ?_;rfl';refine qT h4 ?_;rfl';refine qT (d:=.bl false) (S:=S) (by cases b <;> rfl) ?_
 rfl';refine l0 ?_;rfl';refine qT h5 ⟨_,rfl,λ_=>?_,λe=>by cases e⟩
 rfl';exact qT h6 ⟨rfl,rfl⟩
def okD:Ai->D->Prop
 |n+1,.tup xs=>xs.length<=lim/\∀ x∈xs,okD n x
 |n+1,.lst xs=>xs.length<=lim/\∀ x∈xs,okD n x
 |_,.int _=>Jn
 |_,.bl _=>Jn
 |_,_=>CP
theorem ZH:∀ (n:Ai) (d:D) (S:Sto),okD n d->fQ (n+1) [d,d] S=.ok (.bl true) S:=by
 intro n
 induction n with
 |zero =>
  intro d S h;cases d with
  |int i=>exact pN _ S rfl (by kernel_rfl!) (by kernel_rfl!) (b:=false) (by kernel_rfl!) (by kernel_rfl!) (xM (M1 ⟨by rw[Bm rfl],rfl⟩))
  |bl b=>exact pN _ S rfl (by kernel_rfl!) (by kernel_rfl!) (b:=true) (by kernel_rfl!) (by kernel_rfl!) (by cases b <;> rfl)
  |_=>exact An h
 |succ n ih =>
  intro d S h;cases d with
  |tup ws=>exact sH _ true ws S h.1 λx hx=>ih x S (h.2 x hx)
  |lst ws=>exact sH _ false ws S h.1 λx hx=>ih x S (h.2 x hx)
  |int i=>exact pN _ S rfl (by kernel_rfl!) (by kernel_rfl!) (b:=false) (by kernel_rfl!) (by kernel_rfl!) (xM (M1 ⟨by rw[Bm rfl],rfl⟩))
  |bl b=>exact pN _ S rfl (by kernel_rfl!) (by kernel_rfl!) (b:=true) (by kernel_rfl!) (by kernel_rfl!) (by cases b <;> rfl)
  |_=>exact An h
theorem fO {d:D}(S:Sto)(h:okD 3 d):S__law_same [d,d] S=.ok (.bl true) S:=by
 rw[jG];exact ZH 3 d S h
theorem RE {a:Af}{cv:Aa _L.V}{G:Aa D->DF}{caps:Aa D}(h:env[i]? = Ab (Ab (.clo a cv caps))):jY i (qB) a cv 0 G env S=G caps [] S:=by
 unfold jY;rw[h];show (if a=a/\cv=cv then _ else _)=_
 rw[AF ⟨rfl,rfl⟩];rfl
theorem D3 {c:Cl}{wd:As}{b:Ap}{cap:Aa Ai}{fe:DE}(hC:(gE c).contains (.ref C)=true)(hk:∀ S,S__law_kinds c [.exn (.ref C)] S=.ok (.str wd) S){caps:Aa D}(h:b8 cap env=Ab caps){x:D}(e:fe (caps.map Ab) S=.ex (.ref C) x S)(q:Q (.str wd) S):Ok (gJ b cap 1 2 (qB) (b__law_refused c (bI fe)) env S) Q:=by
 refine⟨_,_,?_,q⟩;unfold gJ;rw[h];show (if 0+1=1 then exO b (uni λa cv=>qX 2 (b__law_refused c (bI fe) a cv) [.clo a cv caps] S) else .bad)=_
 rw[AF rfl,ND (R:=.ok (.str wd) S) λa cv=>?_]
 .cases b <;> rfl
 .have e':jY 0 (qB) a cv 0 (bI fe) [Ab (.clo a cv caps),none] S=.ex (.ref C) x S:=(RE rfl).trans (by unfold bI;exact e)
  refine xM (zP (env:=[Ab (.clo a cv caps),none]) rfl ?_);refine SI ?_;have k:bL 2 1 (gE c) (yD (jY 0 (qB) a cv 0 (bI fe))) (z0 (qR 1 (S__law_kinds c) (qA (qC 1) (qB)))) [Ab (.clo a cv caps),none] S=.rt (.str wd) S:=by
   unfold bL yD;rw[e'];simp only[Res.toS,hC,Ct];have z:qR 1 (S__law_kinds c) (qA (qC 1) (qB)) ((Br 2 none).set 1 (Ab (.exn (.ref C)))) S=.ok (.str wd) S:=(nU rfl).trans (hk S);simp only[z0,z,Res.toS]
  rw[k];exact⟨rfl,rfl⟩
theorem KZ (ns:Aa Am)(hl:ns.length<=63)(k:Am){Q:Aa D->Sto->Prop}{env:qE}{S:Sto}(h0:env[0]? = Ab (Ab (.lst (ns.map D.int))))(q:∀ ms:Aa Am,Q (ms.map D.int) S):Ok (gL (d2 zC (zT (qA (qR 2 S__law_cell (qA (qC 0) (qA (dC (.int 0)) (qB)))) (qB))) (dSl (qC 0) (zA (dC (.int 1))) (zA (dC (.int k))))) env S) Q:=by
 have hc:∃ x:Am,S__law_cell [.lst (ns.map D.int),.int 0] S=.ok (.int x) S:=by
  rw[jE];cases ns with
  |nil=>exact⟨0,xM (zP (env:=[Ab (.lst []),Ab (.int 0)]) rfl (by rfl';exact⟨rfl,rfl⟩))⟩
  |cons n ns =>
   refine⟨n,xM (zP (env:=[Ab (.lst ((n::ns).map D.int)),Ab (.int 0)]) rfl ?_)⟩;rfl';refine uU (λ_=>?_) λe=>absurd (by rw[A4,AO];omega) e
   rfl';exact aS (lE (a:=0) (by simp)) ⟨rfl,rfl⟩
 obtain⟨x,hx⟩:=hc;refine JW (o_2 (D1 (vY (Q9 (vY (o_v h0 ?_))))));rfl';refine qT hx ?_;rfl';refine o_v h0 ?_;rfl';have hm:zO (ns.map D.int) (Ab 1) (Ab k)=((ns.drop (_H.sIx (ns.map D.int).length 0 (Ab 1))).take (_H.sIx (ns.map D.int).length (ns.map D.int).length (Ab k)-_H.sIx (ns.map D.int).length 0 (Ab 1))).map D.int:=by
  unfold zO;rw[Sk,Kz]
 rw[hm];refine w5 ?_ ⟨_,rfl,q (x::_)⟩;rw[A4,CO,Ho];show 1+_<=lim;unfold lim;omega
noncomputable def mkD (ms:Aa Am):D:=.tup (ms.map D.int)
noncomputable def upI (ns:Aa Am):Ap:=(ns.zip (ns.drop 1)).all λp=>decide (p.1<p.2)
theorem jS:∀ (ks:Aa Am),upI ks=true↔ks.Pairwise (· < ·)
 |[]=>by simp[upI]
 |[a]=>by simp[upI]
 |a::b::r=>by
  have ih:=jS (b::r);have e:upI (a::b::r)=(decide (a<b)&&upI (b::r)):=by simp[upI]
  rw[e,A0,ih,CD (a:=a),AG];constructor
  .rintro⟨h1,h2⟩
   refine⟨λx hx=>?_,h2⟩;rcases Av.mp hx with rfl|hx
   .exact h1
   .exact Int.lt_trans h1 ((CD.mp h2).1 x hx)
  .rintro⟨h1,h2⟩
   exact⟨h1 b (by simp),h2⟩
theorem cB (ks ms:Aa Am):yF (ks.map D.int) (ms.map D.int)=(ks.zip ms).map λp=>D.tup [.int p.1,.int p.2]:=by
 unfold yF
 induction ks generalizing ms with
 |nil=>rfl
 |cons k ks ih =>
  cases ms with
  |nil=>rfl
  |cons m ms=>exact congrArg (_::·) (ih ms)
theorem TX (ns:Aa Am)(hl:ns.length<=1000)(S:Sto):S_is_rising [mkD ns] S=.ok (.bl (upI ns)) S:=by
 rw[jI];refine xM (zP (env:=[Ab (.tup (ns.map D.int))]) rfl ?_);rfl';have hz:xE (j3 (qA (qC 0) (qA (dSl (qC 0) (zA (dC (.int 1))) (zH)) (qB)))) [Ab (.tup (ns.map D.int))] S=.ok (none,((ns.zip (ns.drop 1)).map λp=>D.tup [.int p.1,.int p.2])) S:=by
  show Res.ok (none,yF (ns.map D.int) (zO (ns.map D.int) (Ab 1) none)) S=_;rw[YZ,<- Kz,cB]
 refine wO (ns.zip (ns.drop 1)) (λp:Am × Am=>.bl (decide (p.1<p.2))) (λenv S'=>S'=S/\∃ a b,env=[a,b]) hz ⟨rfl,none,none,rfl⟩ ?_ (λ_ _ _=>trivial) (λx hx env S' ⟨e1,a,b,e2⟩=>?_) λenv S' ⟨e1,_⟩=>?_
 .rw[Jc]
  unfold lim
  lia
 .subst e1 e2
  rfl'
  first|exact⟨rfl,rfl,_,_,rfl⟩|exact⟨rfl,_,_,rfl⟩|exact⟨_,_,rfl⟩
 .subst e1
  rfl';exact pF ⟨rfl,rfl⟩
theorem NP (h:xs≠[]):_L.atI xs (-1)=Ab (xs.getLast h):=by
 have hp:=IU.mpr h;have e:_L.ixN xs.length (-1)=Ab (xs.length-1):=by
  unfold _L.ixN;simp
  lia
 unfold _L.atI;rw[e];show xs[xs.length-1]? = _;rw[List.getLast_eq_getElem,Au li]
noncomputable def wI:D->Ap
 |.tup xs=>decide (1<=xs.length/\xs.length<=20)&&(xs.all isW&&match zY xs with
  |some ns=>upI ns&&(decide (ns.headD 1=0)&&decide (ns.getLastD 0<=1000))
  |none=>false)
 |_=>false
theorem oK {d:D}(h:isT d=false):wI d=false:=by
 cases d <;> first|rfl|cases h
theorem mL:∀ {xs:Aa D},xs.all isW=true->∃ ns:Aa Am,xs=ns.map D.int
 |[],_=>⟨[],rfl⟩
 |d::ds,h=>by
  rw[Kr,A0] at h;obtain⟨ns,rfl⟩:=mL h.2;cases d with
  |int i=>exact⟨i::ns,rfl⟩
  |_=>cases h.1
theorem mY {d:D}(h:Pn d)(S:Sto):S_are_marks [d] S=.ok (.bl (wI d)) S:=by
 rw[jH];refine xM (zP (env:=[Ab d]) rfl ?_);rfl';refine pH ?_;rfl';refine qT (V6 h S) ?_;rfl';refine⟨λe=>?_,λe=>?_⟩
 .rfl'
  exact⟨by rw[oK (by simpa using e)],rfl⟩
 .cases d with
  |tup xs =>
   rfl';refine mU (b:=(xs.length:Am)) rfl rfl rfl ?_;rfl';refine uU (λz=>?_) λz=>?_
   .have hl:1<=xs.length/\xs.length<=20:=by lia
    rfl';refine pH ?_;rfl';refine wO (enc:=id) (o:=none) xs (λx=>.bl (isW x)) (λenv S'=>S'=S/\∃ a,env=[a]) ((aG rfl).trans (by rw[Qn])) ⟨rfl,none,rfl⟩ (by unfold lim;lia) (λ_ _ _=>trivial) (λx hx env S' ⟨e1,a,e2⟩=>?_) λenv S' ⟨e1,_⟩=>?_
    .subst e1 e2
     rfl';exact qT (G7 (QJ h x hx) _) ⟨rfl,rfl,_,rfl⟩
    .subst e1
     rfl';refine pF ?_;rfl';refine⟨λha=>?_,λha=>?_⟩
     .rfl'
      refine⟨?_,rfl⟩;have ha:xs.all isW=false:=by simpa using ha
      show _=D.bl (decide (1<=xs.length/\xs.length<=20)&&(xs.all isW&&match zY xs with|some ns=>upI ns&&(decide (ns.headD 1=0)&&decide (ns.getLastD 0<=1000))|none=>false))
      rw[ha,Fz,Mm]
     .have ha:xs.all isW=true:=by simpa using ha
      obtain⟨ns,rfl⟩:=mL ha;rw[A4] at hl;rfl';refine qT (TX ns li _) ?_;have hd:wI (.tup (ns.map D.int))=(upI ns&&(decide (ns.headD 1=0)&&decide (ns.getLastD 0<=1000))):=by
       show (decide (1<=(ns.map D.int).length/\(ns.map D.int).length<=20)&&((ns.map D.int).all isW&&match zY (ns.map D.int) with|some ns=>upI ns&&(decide (ns.headD 1=0)&&decide (ns.getLastD 0<=1000))|none=>false))=_
       rw[A4,Bm hl,ha,wA,Ez,Ez]
      rw[hd];cases hu:upI ns with
      |false =>
       rfl';exact⟨rfl,rfl⟩
      |true =>
       rfl';refine l0 ?_;rfl';obtain⟨a,r,rfl⟩:∃ a r,ns=a::r:=by
        cases ns with
        |nil=>simp at hl
        |cons a r=>exact⟨a,r,rfl⟩
       refine fG (d:=.int a) (lE (a:=0) (by simp)) ?_
       rfl';refine⟨λea=>?_,λea=>?_⟩
       .rfl'
        refine fG (NP (by simp)) ?_
        rw[List.getLast_map];rfl';refine⟨?_,rfl⟩;rw[Ez,show decide ((a::r).headD 1=0)=true from ea,Ez,Gw]
        congr 2
        rw[Ji]
       .refine⟨?_,rfl⟩
        rw[Ez,show decide ((a::r).headD 1=0)=false from ea,Fz]
   .rfl'
    refine⟨?_,rfl⟩;show _=D.bl (decide (1<=xs.length/\xs.length<=20)&&(xs.all isW&&match zY xs with|some ns=>upI ns&&(decide (ns.headD 1=0)&&decide (ns.getLastD 0<=1000))|none=>false))
    rw[Cc li,Fz]
  |_=>cases e
structure Mk (M:Ai)(ms:Aa Am):Prop where
 hd:ms.head? = Ab 0
 len:ms.length<=M
 up:ms.Pairwise (· < ·)
 le:∀ x∈ms,x<=1000
theorem Mk.ne (h:Mk M ms):ms≠[]:=λe=>by
 have:=h.hd;rw[e] at this;cases this
theorem Mk.ge (h:Mk M ms):∀ x∈ms,0<=x:=λx hx=>by
 cases ms with
 |nil=>cases hx
 |cons a r =>
  have:a=0:=by simpa using h.hd
  subst this;rcases Av.mp hx with rfl|hx
  .lia
  .have:=(CD.mp h.up).1 x hx
   lia
theorem iE:∀ {ns:Aa Am} {x:Am},ns.Pairwise (· < ·) -> x∈ns->x<=ns.getLastD 0
 |[],x,_,h=>by cases h
 |[a],x,_,h=>by
  have:x=a:=by simpa using h
  subst this;exact Jb _
 |a::b::r,x,u,h=>by
  rw[Gw];have u2:=CD.mp u;have e:(b::r).getLastD a=(b::r).getLastD 0:=by rw[Gw,Gw]
  rw[e];rcases Av.mp h with rfl|h
  .have:=iE u2.2 (.head _)
   have:=u2.1 b (.head _)
   lia
  .exact iE u2.2 h
theorem dB (ns:Aa Am):wI (mkD ns)=(decide (1<=ns.length/\ns.length<=20)&&(upI ns&&(decide (ns.headD 1=0)&&decide (ns.getLastD 0<=1000)))):=by
 show (decide (1<=(ns.map D.int).length/\(ns.map D.int).length<=20)&&((ns.map D.int).all isW&&match zY (ns.map D.int) with|some ns=>upI ns&&(decide (ns.headD 1=0)&&decide (ns.getLastD 0<=1000))|none=>false))=_
 have ha:(ns.map D.int).all isW=true:=by
  rw[Jr];exact Bi.mpr λ_ _=>rfl
 rw[A4,ha,wA,Ez]
theorem J8 (hM:M<=20){ms:Aa Am}(h:Mk M ms):wI (mkD ms)=true:=by
 have h1:=IU.mpr h.ne;have h2:=h.len;rw[dB,Bm ⟨h1,by lia⟩,(jS ms).mpr h.up,Ez,Ez,A0,AG,AG]
 refine⟨?_,?_⟩
 .have:=h.hd
  cases ms with
  |nil=>cases this
  |cons a r=>simpa using this
 .refine h.le _ ?_
  cases ms with
  |nil=>exact absurd rfl h.ne
  |cons a r =>
   rw[Gw,<- Ji (by simp)]
   exact Vs _
theorem Q2 {d:D}(h:wI d=true):∃ ms,d=mkD ms/\Mk 20 ms:=by
 cases d with
 |tup xs =>
  have h':(decide (1<=xs.length/\xs.length<=20)&&(xs.all isW&&match zY xs with|some ns=>upI ns&&(decide (ns.headD 1=0)&&decide (ns.getLastD 0<=1000))|none=>false))=true:=h
  rw[A0,A0,AG] at h';obtain⟨ns,rfl⟩:=mL h'.2.1;have hl:=h'.1;have h2:=h'.2.2;rw[wA] at h2;rw[A4] at hl;simp only[A0,AG] at h2;have u:=(jS ns).mp h2.1;refine⟨ns,rfl,?_,hl.2,u,λx hx=>Dm (iE u hx) h2.2.2⟩;cases ns with
  |nil=>simp at hl
  |cons a r=>simpa using h2.2.1
 |_=>cases h
theorem DN (ms:Aa Am):Pn (mkD ms):=RY λx hx=>by
 obtain⟨i,_,rfl⟩:=Bl.mp hx;exact⟨.int i,rfl⟩
theorem kM (c:Cl){M:Ai}(hM:M<=20){ms:Aa Am}(h:Mk M ms)(S:Sto):S_need_marks c [mkD ms] S=.ok .non S:=by
 rw[yK];refine xM (zP (env:=[Ab (mkD ms)]) rfl ?_);rfl';refine qT (mY (DN ms) S) ?_;rw[J8 hM h];rfl';exact⟨rfl,rfl⟩
theorem kL (c:Cl){d:D}(S:Sto)(h:Pn d)(k:wI d=false):S_need_marks c [d] S=.ex (.ref c.NoMarks) .non S:=by
 rw[yK];refine fP (env:=[Ab d]) (env':=[Ab d]) rfl ?_;exact LH (xM (M5 (RU (Q9 (vY (o_v rfl (fH ⟨rfl,qT ((mY h S).trans (by rw[k])) ⟨_,rfl,rfl,rfl⟩⟩))))))) (YA _ _ _ _)
noncomputable def df:Aa Am->Aa Am
 |[]=>[]
 |a::r=>r.map (λb=>b-a)++df r
theorem bS:∀ r:Aa Am,(df r).length<=r.length*r.length
 |[]=>Aq _
 |a::r=>by
  have:=bS r;show (r.map (λb=>b-a)++df r).length<=_;rw[AT,A4,AO,Nat.add_mul,Nat.mul_add]
  lia
noncomputable def en:Ai->Aa Am->Aa (Ai × Am)
 |_,[]=>[]
 |k,x::xs=>(k,x)::en (k+1) xs
theorem cW:∀ (l:Aa Am) (k:Ai),eL k (l.map D.int)=(en k l).map λp=>D.tup [.int (p.1:Am),.int p.2]
 |[],_=>rfl
 |x::l,k=>by
  show D.tup [.int (k:Am),.int x]::eL (k+1) (l.map D.int)=_;rw[cW l (k+1)];rfl
theorem V0 (r:Aa Am):∀ (l:Aa Am) (k:Ai),r.drop k=l->((en k l).flatMap λp=>(r.drop (p.1+1)).map λy=>D.int (y-p.2))=(df l).map D.int
 |[],_,_=>rfl
 |x::l,k,h=>by
  have hl:r.drop (k+1)=l:=by
   have:=congrArg List.tail h;simpa [WP] using this
  show (r.drop (k+1)).map (λy=>D.int (y-x))++((en (k+1) l).flatMap λp=>(r.drop (p.1+1)).map λy=>D.int (y-p.2))=((l.map λb=>b-x)++df l).map D.int;rw[V0 r l (k+1) hl,hl,Lv,EQ];rfl
theorem TV (r:Aa Am)(hr:r.length<=50)(S:Sto):S_differences [tpD r] S=.ok (.lst ((df r).map D.int)) S:=by
 have hl:=bS r;have h2:r.length*r.length<=50*50:=Rb hr hr;rw[vL];refine xM (zP (env:=[Ab (.tup (r.map D.int))]) rfl ?_);rfl';have e:=V0 r r 0 rfl;have hi:xE (bQ (qA (qC 0) (qB))) [Ab (.tup (r.map D.int))] S=.ok (none,(en 0 r).map λp=>D.tup [.int (p.1:Am),.int p.2]) S:=by
  rw[<- cW,<- lX];rfl
 refine qT (U2 (xs:=en 0 r) (enc:=λp=>D.tup [.int (p.1:Am),.int p.2]) (enc2:=D.int) (o:=none) (o2:=none) hi trivial trivial (λp=>r.drop (p.1+1)) (λ_ _=>true) (λp y=>.int (y-p.2)) (λenv=>∃ a b c,env=[a,b,c,Ab (.tup (r.map D.int))]) (λp env=>∃ c,env=[Ab (.int (p.1:Am)),Ab (.int p.2),c,Ab (.tup (r.map D.int))]) ⟨none,none,none,rfl⟩ (λp env ⟨c,e⟩=>⟨_,_,_,e⟩) ?_ (λp hp env ⟨a,b,c,e⟩=>?_) λp hp y hy env ⟨c,e⟩=>?_) ?_
 .simp only[Sl.mpr λ_ _=>rfl]
  rw[e,A4];unfold lim
  lia
 .subst e
  refine⟨_,rfl,⟨_,rfl⟩,rfl,?_⟩;show Res.ok (none,zO (r.map D.int) (Ab ((p.1:Am)+1)) none) S=_;rw[lQ,Kz]
 .subst e
  exact⟨_,rfl,⟨_,rfl⟩,rfl,λ_=>rfl⟩
 .simp only[Sl.mpr λ_ _=>rfl]
  rw[e];rfl';exact⟨rfl,rfl⟩
theorem D0 (h:Ok (f env S) λd S1=>∃ ns:Aa Am,aQ d S1=Ab (ns.map D.int)/\ns.length<4000/\Q (.int (cV ns:Ai)) S1):Ok (jZ f env S) Q:=qW (zI h λd S1 ⟨ns,e,l,q⟩=>⟨_,_,by rw[e,La,wA];exact AF l,q⟩)
theorem pX (ns:Aa Am)(l:ns.length<=1000):uA (ns.map D.int)=Ab ((_S.srt _S.ltI ns).map D.int):=by
 unfold uA;rw[wA];exact AF (Bp (tH _ _) l)
theorem aX (h:Ok (f env S) λd S1=>∃ ns:Aa Am,tG d S1=Ab (ns.map D.int)/\ns.length<=1000/\Q (.lst ((_S.srt _S.ltI ns).map D.int)) S1):Ok (w9 false f env S) Q:=qW (zI h λd S1 ⟨ns,e,l,q⟩=>⟨_,_,by rw[e,La,pX ns l];rfl,q⟩)
theorem M6 (h:Ok (f env S) λd S1=>∃ ns:Aa Am,tG d S1=Ab (ns.map D.int)/\ns.length<=1000/\Q (.loc S1.length) (S1++[.lst ((_S.srt _S.ltI ns).map D.int)])):Ok (w9 true f env S) Q:=qW (zI h λd S1 ⟨ns,e,l,q⟩=>⟨_,_,by rw[e,La,pX ns l];rfl,q⟩)
theorem tI {α:Type}[Pr α](w:α->Ai):∀ (L G:Aa α),L.Nodup->(∀ s∈L,w s≠0->s∈G)->(L.map w).sum<=(G.map w).sum
 |[],G,_,_=>Dp _
 |s::L,G,nd,h=>by
  obtain⟨n1,n2⟩:=Hd.mp nd;rw[Ce,Sm];by_cases z:w s=0
  .rw[z,En]
   exact tI w L G n2 λx hx=>h x (.tail _ hx)
  .have hm:=h s (.head _) z
   have ih:=tI w L (G.erase s) n2 λx hx hz=>(Lg (λ(e:x=s)=>n1 (e▸hx))).mpr (h x (.tail _ hx) hz);have:=((List.perm_cons_erase hm).map w).sum_nat;rw[Ce,Sm] at this
   lia
theorem goP {α:Type}{enc:α->D}{o:Al (Ai × MO)}{g:DG}{t:DT}{k:DK}(out:α->Aa D)(C:qE->Sto->Prop)(A:Aa D->Prop)(hC:∀ env S,C env S->stn o S) :
  ∀ (xs:Aa α) (env:qE) (S:Sto) (acc:Aa D),C env S->A acc ->
  (∀ x∈xs,∀ env S acc,C env S->A acc->∃ env1 S1,g (enc x) env S=.ok env1 S1/\t env1 S1=.ok true S1/\∃ env3 S3,k env1 S1 acc=.ok (env3,acc++out x) S3/\C env3 S3/\A (acc++out x)) ->
  ∃ env' S',goL o g t k (xs.map enc) env S acc=.ok (env',acc++xs.flatMap out) S'/\C env' S'/\A (acc++xs.flatMap out)
 |[],env,S,acc,h,ha,_=>⟨env,S,by simp[goL,wF.mpr (hC _ _ h)],h,by simpa using ha⟩
 |x::xs,env,S,acc,h,ha,step=>by
  obtain⟨env1,S1,e1,e2,env3,S3,e3,h3,a3⟩:=step x (Bx ..) env S acc h ha;obtain⟨env',S',e,c,a⟩:=goP out C A hC xs env3 S3 (acc++out x) h3 a3 λy hy=>step y (Bb _ hy);rw[Bc] at e a;refine⟨env',S',?_,c,a⟩;simp only[Ce,goL,wF.mpr (hC _ _ h),Ct,e1,e2,Res.bind,e3,Gc];exact e
theorem FV {α:Type}[Pr α] : ∀ {L G:Aa α},L.Nodup->(∀ s∈L,s∈G)->L.length<=G.length
 |L,G,nd,h=>by
  have:=tI (λ_:α=>1) L G nd λs hs _=>h s hs;have e:∀ l:Aa α,(l.map λ_=>1).sum=l.length:=λl=>by
   induction l with
   |nil=>rfl
   |cons a l ih=>rw[Ce,Sm,ih,AO,Lw]
  rwa [e,e] at this
noncomputable def mkL (ms:Aa Am):Aa Pt:=ms.map λm=>(m,0)
theorem KY (c:Cl){M:Ai}(hM:M<=20){ms:Aa Am}(h:Mk M ms)(S:Sto):S_as_lot c [mkD ms] S=.ok (dJ (mkL ms)) S:=by
 have hl:=h.len;rw[uV];refine xM (zP (env:=[Ab (.tup (ms.map D.int))]) rfl ?_);rfl';refine qT (kM c hM h S) ?_;rfl';refine wO (enc:=D.int) (o:=none) ms (λx=>ptD (x,0)) (λenv S'=>S'=S/\∃ a,env=[a]) (aG rfl) ⟨rfl,none,rfl⟩ (by unfold lim;lia) (λ_ _ _=>trivial) (λx hx env S' ⟨e1,a,e2⟩=>?_) λenv S' ⟨e1,_⟩=>?_
 .subst e1 e2
  rfl';exact⟨_,rfl⟩
 .subst e1
  rfl';refine⟨?_,rfl⟩;unfold dJ mkL;rw[EQ];rfl
theorem M3 (c:Cl){ms:Aa Am}(h:Mk 20 ms){S:Sto}(q:Q (.loc S.length) (S++[.lst ((_S.srt _S.ltI (df ms)).map D.int)])):Ok (S_gaps c [mkD ms] S) Q:=by
 have hl:=h.len;have hd:=bS ms;have h2:ms.length*ms.length<=20*20:=Rb hl hl;rw[gC];refine zP (env:=[Ab (mkD ms)]) rfl ?_;rfl';refine qT (kM c (Aq _) h S) ?_;rfl';refine M6 ?_;rfl';refine qT (TV ms li S) ⟨df ms,rfl,by lia,?_⟩
 rfl';exact q
noncomputable def stp (ms:Aa Am):Aa Am:=(ms.zip (ms.drop 1)).map λp=>p.2-p.1
noncomputable def pI (p:Am × Am):D:=.tup [.int p.1,.int p.2]
theorem cA (ms:Aa Am){env:qE}{S:Sto}(e:env[0]? = Ab (Ab (.tup (ms.map D.int)))):xE (j3 (qA (qC 0) (qA (dSl (qC 0) (zA (dC (.int 1))) (zH)) (qB)))) env S=.ok (none,(ms.zip (ms.drop 1)).map pI) S:=by
 have h:qC 0 env S=.ok (.tup (ms.map D.int)) S:=sU e;have h2:dSl (qC 0) (zA (dC (.int 1))) (zH) env S=.ok (.tup ((ms.drop 1).map D.int)) S:=by
  unfold dSl;rw[h];show Res.ok (D.tup (zO (ms.map D.int) (Ab 1) none)) S=_;rw[YZ,Kz]
 unfold xE j3;rw[B4 h h2];show Res.ok (none,yF (ms.map D.int) ((ms.drop 1).map D.int)) S=_;rw[cB];rfl
theorem hZ (ms:Aa Am):(stp ms).length<=ms.length:=by
 unfold stp;rw[A4,Jc]
 lia
def Sx (ms:Aa Am)(acc:Aa D):Prop:=∃ ns:Aa Am,acc=ns.map D.int/\∀ z∈ns,z∈stp ms
theorem GF (h:∀ z∈ns,z∈stp ms):(_S.srt _S.ltI ns).length<=ms.length:=Bp (FV (G:=stp ms) ((_S.y9 _S.wZ _).imp λ{a b} k e=>by
  subst e;rw[_S.wZ.irr] at k;cases k) λk hk=>h k ((_S.xQ _S.wZ _ _).mp hk)) (hZ ms)
theorem rK (hl:ms.length<=20)(h:∀ z∈ns,z∈stp ms):uW (ns.map D.int)=true:=by
 unfold uW;rw[wA];have:=GF h;exact Bm li
theorem M2 (c:Cl){ms:Aa Am}(h:Mk 20 ms){S:Sto}(q:Q (.bl (decide (((_S.srt _S.ltI (stp ms)).length:Am)<=1))) S):Ok (S_is_even c [mkD ms] S) Q:=by
 have hl:=h.len;rw[vM];refine zP (env:=[Ab (.tup (ms.map D.int))]) rfl ?_;rfl';refine qT (kM c (Aq _) h S) ?_;rfl';obtain⟨env',S',e,⟨_,h2⟩,_⟩:=goP (enc:=pI) (o:=none) (g:=gTp 2 (zU (gNm 0) (zU (gNm 1) (yM)))) (t:=xI) (k:=gP uW (d2 _D.j8 (qC 1) (qC 0))) (λp=>[.int (p.2-p.1)]) (λenv S'=>(∃ a b,env=[a,b])/\S'=S) (Sx ms) (λ_ _ _=>trivial) (ms.zip (ms.drop 1)) [none,none] S [] ⟨⟨_,_,rfl⟩,rfl⟩ ⟨[],rfl,λ_ h=>by cases h⟩ λp hp env S' acc ⟨⟨a,b,h1⟩,h2⟩ ⟨ns,ea,hn⟩=>by
  subst h1 h2 ea;have hm:∀ z∈ns++[p.2-p.1],z∈stp ms:=λz hz=>by
   rcases Ba.mp hz with hz|hz
   .exact hn z hz
   .rw[Bq.mp hz]
    exact Bl.mpr ⟨p,hp,rfl⟩
  have e3:ns.map D.int++[.int (p.2-p.1)]=(ns++[p.2-p.1]).map D.int:=by rw[Lv];rfl
  refine⟨_,S',rfl,rfl,[Ab (.int p.1),Ab (.int p.2)],S',?_,⟨⟨_,_,rfl⟩,rfl⟩,ns++[p.2-p.1],e3,hm⟩;show (if uW (ns.map D.int++[.int (p.2-p.1)])=true then Res.ok ([Ab (D.int p.1),Ab (D.int p.2)],ns.map D.int++[D.int (p.2-p.1)]) S' else .bad)=_
  rw[AF (by rw[e3];exact rK hl hm)]
 rw[h2] at e;have ef:(ms.zip (ms.drop 1)).flatMap (λp=>[D.int (p.2-p.1)])=(stp ms).map D.int:=by
  rw[bD];unfold stp;rw[EQ];rfl
 rw[Fh,ef] at e;refine qW (qT (cA ms rfl) ?_);show Ok (cX p8 (goL none _ xI _ ((ms.zip (ms.drop 1)).map pI) [none,none] S [])) _;rw[e];refine qT (d:=.int ((_S.srt _S.ltI (stp ms)).length:Ai)) (S:=S) ?_ ?_
 .show (if uW ((stp ms).map D.int)=true then (match zY ((stp ms).map D.int) with|some ns=>Res.ok (D.int ((_S.srt _S.ltI ns).length:Ai)) S|none=>.bad) else .bad)=_
  rw[AF (rK hl λ_ h=>h),wA]
 .rfl'
  exact q
theorem UJ (ns:Aa Am):cV ns=(_S.srt _S.ltI ns).length:=by
 unfold cV;refine sG (UX ns [] Ms) ((_S.y9 _S.wZ ns).imp λ{a b} h z=>?_) λx=>?_
 .subst z
  rw[_S.wZ.irr] at h;cases h
 .rw[XU,_S.xQ _S.wZ]
  simp
theorem JU (c:Cl){d:D}(S:Sto)(h:Pn d)(k:wI d=false):S_gaps c [d] S=.ex (.ref c.NoMarks) .non S:=by
 rw[gC];exact fP (env:=[Ab d]) rfl (lZ ((nU rfl).trans (kL c S h k)))
theorem JT (c:Cl){d:D}(S:Sto)(h:Pn d)(k:wI d=false):S_is_even c [d] S=.ex (.ref c.NoMarks) .non S:=by
 rw[vM];exact fP (env:=[Ab d]) rfl (lZ ((nU rfl).trans (kL c S h k)))
theorem FY (c:Cl){d:D}(S:Sto)(h:Pn d)(k:wI d=false):S_as_lot c [d] S=.ex (.ref c.NoMarks) .non S:=by
 rw[uV];exact fP (env:=[Ab d]) rfl (lZ ((nU rfl).trans (kL c S h k)))
structure Nc (k b:Ai)(hl hd:Ap)(d:D)(p:Su):Prop where
 py:pyD d=Ab p
 sh:p.showable=true
 lv:p.leavesShort 40=true
 bu:p.bulk<=b
 de:p.depth<=k
 di:p.hasDict=true->hd=true
 li:vG d=false->hl=true
def wH (k b:Ai)(hl hd:Ap)(d:D):Prop:=∃ p,Nc k b hl hd d p
theorem wH.mono {k b k' b':Ai}{hl hd hl' hd':Ap}{d:D}(h:wH k b hl hd d)(h1:k<=k')(h2:b<=b')(h3:hl=true->hl'=true)(h4:hd=true->hd'=true):wH k' b' hl' hd' d:=by
 obtain⟨p,h⟩:=h;exact⟨p,h.py,h.sh,h.lv,Bp h.bu h2,Bp h.de h1,λz=>h4 (h.di z),λz=>h3 (h.li z)⟩
theorem wH.repr {k b:Ai}{hl hd:Ap}{d:D}(h:wH k b hl hd d)(h1:k<=60)(h2:b<=65536)(h3:(hl&&hd)=false):∃ x,uR d=Ab x:=by
 obtain⟨p,h⟩:=h;refine⟨p.shown,?_⟩;unfold uR;rw[h.py];have hk:gU d p=true:=by
  unfold gU;rw[h.sh,h.lv,Bm (show p.bulk<=2 ^ 16 by have:=h.bu;lia),Bm (show p.depth<=60 by have:=h.de;lia)]
  cases hh:p.hasDict with
  |false=>rfl
  |true =>
   have:=h.di hh;subst this;cases hn:vG d with
   |true=>rfl
   |false =>
    have:=h.li hn;subst this;cases h3
 show (if gU d p=true then Ab p.shown else none)=_
 rw[AF hk]
theorem Q4 {i:Am}(h:(PyData.shown (.int i)).length<=40)(h2:i.natAbs.log2<1920):wH 0 0 false false (.int i):=
 ⟨.int i,rfl,Bm h2,Bm h,Aq _,Aq _,(λz=>by cases z),(λz=>by cases z)⟩
theorem dN {i:Am}(h:i.natAbs<10 ^ 12):wH 0 0 false false (.int i):=by
 refine Q4 (Bp (PyData.shown_int_le h) li) ?_;have:i.natAbs<2 ^ 1920:=Ax h (kd);by_cases hm:i.natAbs=0
 .rw[hm];decide
 .exact(Nat.log2_lt hm).mpr this
theorem FU:wH 0 0 false false .non:=⟨.none,rfl,rfl,rfl,Aq _,Aq _,(λz=>by cases z),(λz=>by cases z)⟩
theorem LQ (b:Ap):wH 0 0 false false (.bl b):=⟨.bool b,rfl,rfl,rfl,Aq _,Aq _,(λz=>by cases z),(λz=>by cases z)⟩
theorem Q5 (x:As)(h:(x.cps.toList.all λc=>decide (c<16 ^ 8))=true)(hb:x.cps.size<=3):wH 0 3 false false (.str x):=⟨.str x,rfl,rfl,h,hb,Aq _,(λz=>by cases z),(λz=>by cases z)⟩
theorem FT:wH 1 0 false true .dct0:=⟨.dict [],rfl,rfl,rfl,Aq _,Aq _,λ_=>rfl,(λz=>by cases z)⟩
theorem ncs {k b:Ai}{hl hd:Ap}:∀ (xs:Aa D),(∀ x∈xs,wH k b hl hd x)->∃ ps,u3 xs=Ab ps/\Tk ps=true/\Qo 40 ps=true/\Xa ps<=xs.length*(b+1)/\Wi ps<=k/\(Uu ps=true->hd=true)/\(jL xs=false->hl=true)
 |[],_=>⟨[],rfl,rfl,rfl,Dp _,Dp _,(λz=>by cases z),(λz=>by cases z)⟩
 |d::ds,h=>by
  obtain⟨p,n⟩:=h d (by simp)
  obtain⟨ps,a1,a2,a3,a4,a5,a6,a7⟩:=ncs ds λx hx=>h x (by simp[hx])
  refine⟨p::ps,?_,?_,?_,?_,?_,?_,?_⟩
  .simp only[u3,n.py,a1,La,Ic]
  .simp only[Tk,n.sh,a2,Sa]
  .simp only[Qo,n.lv,a3,Sa]
  .have:=n.bu
   rw[AO,Yb];simp only[Xa]
   lia
  .simp only[Wi]
   exact Nat.max_le.mpr ⟨n.de,a5⟩
  .intro z
   simp only[Uu,Ia] at z;rcases z with z|z
   .exact n.di z
   .exact a6 z
  .intro z
   simp only[jL,Bool.and_eq_false_iff] at z;rcases z with z|z
   .exact n.li z
   .exact a7 z
theorem fF {k b m:Ai}{hl hd:Ap}(h:∀ x∈xs,wH k b hl hd x)(hm:xs.length<=m):wH (k+1) (m*(b+1)) hl hd (.tup xs):=by
 obtain⟨ps,a1,a2,a3,a4,a5,a6,a7⟩:=ncs xs h;refine⟨.tuple ps,by simp only[pyD,a1,Ic],by simpa only [Po] using a2,by simpa only [Tl] using a3,?_,?_,by simpa only [Xb] using a6,by simpa only [vG] using a7⟩
 .simp only[Yr]
  exact Bp a4 (Rj _ hm)
 .simp only[Yi]
  lia
theorem FZ {k b m:Ai}{hl hd:Ap}(h:∀ x∈xs,wH k b hl hd x)(hm:xs.length<=m):wH (k+1) (m*(b+1)) true hd (.lst xs):=by
 obtain⟨ps,a1,a2,a3,a4,a5,a6,a7⟩:=ncs xs h;refine⟨.list ps,by simp only[pyD,a1,Ic],by simpa only [Po] using a2,by simpa only [Tl] using a3,?_,?_,by simpa only [Xb] using a6,λ_=>rfl⟩
 .simp only[Yr]
  exact Bp a4 (Rj _ hm)
 .simp only[Yi]
  lia
def Th (d:D):Prop:=∃ hl hd,(hl&&hd)=false/\wH 5 2000 hl hd d
theorem Th.repr {d:D}(h:Th d):∃ x,uR d=Ab x:=by
 obtain⟨hl,hd,h1,h2⟩:=h;exact h2.repr li li h1
theorem Th.pn {d:D}(h:Th d):Pn d:=by
 obtain⟨hl,hd,h1,p,h2⟩:=h;exact⟨p,h2.py⟩
theorem Y9 {d:D}(h:Pn d)(S:Sto):S__law_whole [d] S=.ok (.bl (isW d)) S:=by
 rw[uI];obtain⟨p,h⟩:=h;cases d <;> first|kernel_rfl!|simp[pyD] at h
theorem eP (ns:Aa Am):pl y7 (.lst (ns.map D.int))=true:=by
 show ((ns.map D.int).all (pl 29))=true;rw[Jr];exact Bi.mpr λ_ _=>rfl
theorem rQ:∀ (a b:Aa Am),xJ (a.map D.int) (b.map D.int)=decide (a=b)
 |[],[]=>rfl
 |[],_::_=>by simp[xJ]
 |_::_,[]=>by simp[xJ]
 |x::a,y::b=>by
  show ((x == y)&&xJ (a.map D.int) (b.map D.int))=_;rw[rQ a b,Pp];simp
theorem LW {a b:Aa Am}(h:Q (.bl (decide (a=b))) S):Ok (gEq (.lst (a.map D.int)) (.lst (b.map D.int)) S) Q:=by
 refine⟨_,_,?_,h⟩;unfold gEq;rw[eP,eP];show Res.ok (D.bl (xJ (a.map D.int) (b.map D.int))) S=_;rw[rQ]
theorem NF:ns=_S.srt _S.ltI ns↔ns.Pairwise (· < ·):=by
 constructor
 .intro h
  rw[h];exact(_S.y9 _S.wZ ns).imp λh=>Bd h
 .intro h
  exact _S.pP _S.wZ (h.imp λh=>Bm h) (_S.y9 _S.wZ ns) λx=>(_S.xQ _S.wZ x ns).symm
theorem PM (h:xs.all (inR 0 1000)=true):∃ ns:Aa Am,xs=ns.map D.int/\∀ x∈ns,0<=x/\x<=1000:=by
 induction xs with
 |nil=>exact⟨[],rfl,λ_ h=>by cases h⟩
 |cons d ds ih =>
  rw[Kr,A0] at h;obtain⟨ns,rfl,hn⟩:=ih h.2;cases d with
  |int i =>
   refine⟨i::ns,rfl,λx hx=>?_⟩;rcases Av.mp hx with rfl|hx
   .exact Bd h.1
   .exact hn x hx
  |_=>cases h.1
theorem Y8 {d:D}(h:Pn d)(S:Sto):S__law_are_marks [d] S=.ok (.bl (wI d)) S:=by
 rw[yX];refine xM (zP (env:=[Ab d]) rfl ?_);rfl';refine pH ?_;rfl';refine qT (V6 h S) ?_;rfl';refine⟨λe=>?_,λe=>?_⟩
 .rfl'
  exact⟨by rw[oK (by simpa using e)],rfl⟩
 .cases d with
  |tup xs =>
   rfl';refine mU (b:=(xs.length:Am)) rfl rfl rfl ?_;rfl';refine uU (λz=>?_) λz=>?_
   .have hl:1<=xs.length/\xs.length<=20:=by lia
    rfl';refine wO (enc:=id) (o:=none) xs (λx=>.bl (inR 0 1000 x)) (λenv S'=>S'=S/\∃ a,env=[a]) ((aG rfl).trans (by rw[Qn])) ⟨rfl,none,rfl⟩ (by unfold lim;lia) (λ_ _ _=>trivial) (λx hx env S' ⟨e1,a,e2⟩=>?_) λenv S' ⟨e1,_⟩=>?_
    .subst e1 e2
     rfl';refine l0 ?_;rfl';refine qT (Y9 (QJ h x hx) _) ⟨_,rfl,λe=>?_,λe=>?_⟩
     .cases x with
      |int i=>exact mU rfl rfl rfl ⟨rfl,rfl,_,rfl⟩
      |_=>cases e
     .cases x <;> first|exact⟨rfl,rfl,_,rfl⟩|cases e
    .subst e1
     rfl';refine pF ?_;rfl';cases ha:xs.all (inR 0 1000) with
     |false =>
      rfl';refine⟨?_,rfl⟩;cases hk:wI (.tup xs) with
      |false=>rfl
      |true =>
       obtain⟨ms,e1,hm⟩:=Q2 hk;injection e1 with e1
       subst e1;have hb:(ms.map D.int).all (inR 0 1000)=true:=by
        rw[Jr];exact Bi.mpr λx hx=>(Bm ⟨hm.ge x hx,hm.le x hx⟩:inR 0 1000 (.int x)=true)
       rw[hb] at ha;cases ha
     |true =>
      obtain⟨ns,rfl,hn⟩:=PM ha;rw[A4] at hl;have hd:wI (.tup (ns.map D.int))=(decide (ns.headD 1=0)&&decide (ns=_S.srt _S.ltI ns)):=by
       rw[show wI (.tup (ns.map D.int))=_ from dB ns,Bm hl,Ez]
       have h3:decide (ns.getLastD 0<=1000)=true:=by
        refine Bm ?_;cases ns with
        |nil=>simp at hl
        |cons a r =>
         rw[Gw,<- Ji (by simp)]
         exact(hn _ (Vs _)).2
       rw[h3,Xm,Bool.and_comm]
       congr 1
       rw[Pp,jS,AG];exact NF.symm
      rw[hd];rfl';refine l0 ?_;rfl';obtain⟨a,r,rfl⟩:∃ a r,ns=a::r:=by
       cases ns with
       |nil=>simp at hl
       |cons a r=>exact⟨a,r,rfl⟩
      refine fG (d:=.int a) (lE (a:=0) (by simp)) ?_
      rfl';refine⟨λea=>?_,λea=>?_⟩
      .rfl'
       refine aX ?_;refine o_v rfl ⟨a::r,rfl,by lia,?_⟩
       refine LW ⟨?_,rfl⟩;rw[show decide ((a::r).headD 1=0)=true from ea,Ez]
      .refine⟨?_,rfl⟩
       rw[show decide ((a::r).headD 1=0)=false from ea,Fz]
   .rfl'
    refine⟨?_,rfl⟩;show _=D.bl (decide (1<=xs.length/\xs.length<=20)&&(xs.all isW&&match zY xs with|some ns=>upI ns&&(decide (ns.headD 1=0)&&decide (ns.getLastD 0<=1000))|none=>false))
    rw[Cc li,Fz]
  |_=>cases e
abbrev fns (c:Cl):Aa (Af × Ai × DF):=[(c.gaps,1,S_gaps c),(c.is_even,1,S_is_even c),(c.as_lot,1,S_as_lot c)]
theorem LA (c:Cl)(nf:(fnL c).Nodup)(a:Af)(ha:a∈fnL c){d:D}{S:Sto}(h:Pn d)(k:wI d=false):∃ F,Gf a (fns c)=Ab (1,F)/\F [d] S=.ex (.ref c.NoMarks) .non S:=by
 have h1:(fnL c)=[c.gaps,c.is_even,c.as_lot]:=rfl;rw[h1] at ha nf;obtain⟨n1,n2⟩:=Hd.mp nf;obtain⟨n3,_⟩:=Hd.mp n2;have m1:(c.is_even == c.gaps)=false:=Fe.mpr λe=>n1 (by rw[e];exact .head _)
 have m2:(c.as_lot == c.gaps)=false:=Fe.mpr λe=>n1 (by rw[e];exact .tail _ (.head _))
 have m3:(c.as_lot == c.is_even)=false:=Fe.mpr λe=>n3 (by rw[e];exact .head _)
 simp only[Av,Bj,Du] at ha;rcases ha with rfl|rfl|rfl
 .exact⟨_,by simp only[fns,Gf,CH],JU c S h k⟩
 .exact⟨_,by simp only[fns,Gf,m1,CH],JT c S h k⟩
 .exact⟨_,by simp only[fns,Gf,m2,m3,CH],FY c S h k⟩
theorem F6 (c:Cl)(nf:(fnL c).Nodup)(a:Af)(ha:a∈fnL c){d:D}{S:Sto}(h:Pn d)(k:wI d=false):bB 0 (fns c) (qA (qC 1) (qB)) [Ab (.obj a),Ab d] S=.ex (.ref c.NoMarks) .non S:=by
 obtain⟨F,e1,e2⟩:=LA c nf a ha (S:=S) h k;unfold bB;show (match Gf a (fns c) with|some (n,F)=>(qA (qC 1) (qB) [Ab (.obj a),Ab d] S).bind λds S1=>if ds.length=n then F ds S1 else .bad|none=>.bad)=_
 rw[e1];exact e2
noncomputable def mw:D:=.str "marks"
theorem XR (S:Sto):gEq (.lst [mw,mw,mw]) (.lst [mw,mw,mw]) S=.ok (.bl true) S:=by kernel_rfl!
theorem YL (env:qE)(S:Sto):d2 uK (zT (qA (dC (.str "marks")) (qB))) (dC (.int 3)) env S=.ok (.lst [mw,mw,mw]) S:=by kernel_rfl!
theorem G8 {d:D}(h:Th d):∃ x,∀ S,pB [d] S=.ok (.str x) S:=by
 obtain⟨x,e⟩:=h.repr;refine⟨x,λS=>?_⟩;show (match uR d with|some x=>Res.ok (D.str x) S|none=>.bad)=_
 rw[e]
theorem FW (x:As)(S:Sto):gNe (.str x) (.str x) S=.ok (.bl false) S:=by
 unfold gNe;rw[show (pl y7 (.str x))=true from rfl]
 show Res.ok (D.bl (!(x == x))) S=_;rw[CH];rfl
theorem G6 {j:Ai}{f:Aa Am}(hf:f.length<=1000){S:Sto}(h:S[j]? = Ab (.lst (f.map D.int))):uN S__law_same [.loc j,.lst (f.map D.int)] S=.ok (.bl true) S:=by
 have e:∀ (n:Ai),∀ x∈f.map D.int,yT (n+2) S x=Ab x:=λn x hx=>by
  obtain⟨r,_,rfl⟩:=Bl.mp hx;rfl
 have e1:=YC h (e 17);have e2:yT lV S (.lst (f.map D.int))=Ab (.lst (f.map D.int)):=by
  show (mapO (yT 19 S) (f.map D.int)).map D.lst=_;rw[eJ (e 17)];rfl
 have e3:mapO (yT lV S) [.loc j,.lst (f.map D.int)]=Ab [.lst (f.map D.int),.lst (f.map D.int)]:=by
  simp only[mapO,e1,e2]
 unfold uN;rw[e3];show aK (S__law_same [.lst (f.map D.int),.lst (f.map D.int)] (k9 S)) S=_;have ok:okD 3 (.lst (f.map D.int)):=by
  refine⟨by rw[A4];unfold lim;lia,λx hx=>?_⟩
  obtain⟨r,hr,rfl⟩:=Bl.mp hx;trivial
 rw[fO (k9 S) ok];rfl
theorem MF (ms:Aa Am)(hl:ms.length<=20):okD 3 (dJ (mkL ms)):=by
 refine⟨by rw[A4];unfold mkL lim;rw[A4];lia,λx hx=>?_⟩
 obtain⟨p,_,rfl⟩:=Bl.mp hx;refine⟨AN rfl,λx hx=>?_⟩;simp only[Av,Bj,Du] at hx;rcases hx with rfl|rfl <;> trivial
noncomputable def eI (p:Ai × Am):D:=.tup [.int (p.1:Am),.int p.2]
theorem o7 (r:Aa Am):∀ (l:Aa Am) (k:Ai),r.drop k=l->((en k l).flatMap λp=>(r.drop (p.1+1)).map λy=>y-p.2)=df l
 |[],_,_=>rfl
 |x::l,k,h=>by
  have hl:r.drop (k+1)=l:=by
   have:=congrArg List.tail h;simpa [WP] using this
  show (r.drop (k+1)).map (λy=>y-x)++((en (k+1) l).flatMap λp=>(r.drop (p.1+1)).map λy=>y-p.2)=(l.map λb=>b-x)++df l;rw[o7 r l (k+1) hl,hl]
theorem JY (c:Cl)(nd:(xH c).Nodup)(nf:(fnL c).Nodup){d:D}(h:Th d){S:Sto}:Ok (S__law_right c [d] S) λx S'=>x=.bl true/\S<+:S':=by
 obtain⟨x,hx⟩:=G8 h;have hp:=h.pn;rw[uH];refine zP (env:=[Ab d,none,none,none,none,none,none,none,none]) rfl ?_;rfl';refine qT (hx S) ?_;rfl';refine qT (Y8 hp S) ?_;rfl';refine pH ?_;rfl';refine qT (mY hp S) ?_;rfl';refine qT (fO S (d:=.bl (wI d)) trivial) ?_;rfl';refine⟨(λe=>by cases e),λ_=>?_⟩
 rfl';refine qT (hx S) ?_;rfl';refine qT (FW x S) ?_;rfl';cases hk:wI d with
 |false =>
  rfl';refine wO (enc:=D.obj) (o:=none) (fnL c) (λ_=>mw) (λenv S'=>S'=S/\∃ a,env=[a,Ab d]) rfl ⟨rfl,none,rfl⟩ (AN rfl) (λ_ _ _=>trivial) (λa ha env S' ⟨e1,a0,e2⟩=>?_) λenv S' ⟨e1,_⟩=>?_
  .subst e1 e2
   rfl';exact D3 (by rw[Dx];simp[gE]) (nN c nd) (caps:=[.obj a,d]) rfl (F6 c nf a ha hp hk) ⟨rfl,rfl,_,rfl⟩
  .subst e1
   refine qT (YL _ _) ?_;refine qT (XR S') ?_;rfl';exact⟨rfl,AA _⟩
 |true =>
  obtain⟨ms,rfl,hm⟩:=Q2 hk;have hl:=hm.len;have hdl:=bS ms;have h2:ms.length*ms.length<=20*20:=Rb hl hl;array_get_dec;array_get_dec;array_get_dec;array_get_dec;array_get_dec;array_get_dec;array_get_dec;array_get_dec;array_get_dec;array_get_dec;array_get_dec;refine VO (qT (d:=(en 0 ms).map eI) (S:=S) ?_ ?_)
  .have:=cW ms 0
   show Res.ok (yA (ms.map D.int)) S=_;rw[lX,this];rfl
  refine gY (enc:=eI) (λxs env S'=>S'=S/\∃ L e4 e5,env=[Ab (mkD ms),Ab (.str x),Ab (.bl true),Ab (.lst (Yk D.int L)),e4,e5,none,none,none]/\L++(xs.flatMap λp=>(ms.drop (p.1+1)).map λy=>y-p.2)=df ms) ?_ ?_ ⟨rfl,[],_,_,rfl,o7 ms ms 0 rfl⟩
  .rintro p xs _ S' ⟨rfl,L,e4,e5,rfl,hL⟩
   unfold eI;have hLl:L.length+(ms.drop (p.1+1)).length<=400:=by
    have:=congrArg Px hL;rw[Gc,AT,AT,A4] at this
    lia
   rfl';refine wO (enc:=D.int) (o:=none) (S1:=S') (ms.drop (p.1+1)) (λy=>.int (y-p.2)) (λenv S2=>S2=S'/\∃ a,env=[a,Ab (.int p.2)]) ?_ ⟨rfl,none,rfl⟩ (by unfold lim;lia) (λ_ _ _=>trivial) (λy hy env S2 ⟨e1,a,e2⟩=>?_) λenv S2 ⟨e1,_⟩=>?_
   .show Res.ok (none,zO (ms.map D.int) (Ab ((p.1:Am)+1)) none) S'=_
    rw[lQ,Kz]
   .subst e1 e2
    rfl';exact⟨_,rfl⟩
   .subst e1
    refine w5 (by rw[A4,A4];unfold lim;lia) ?_
    rfl';refine iF ⟨rfl,L++(ms.drop (p.1+1)).map (λy=>y-p.2),Ab (.int (p.1:Am)),Ab (.int p.2),?_,?_⟩
    .rw[Lv,EQ]
     rfl
    .rw[Bc]
     exact hL
  .rintro _ S' ⟨rfl,L,e4,e5,rfl,hL⟩
   rw[List.flatMap_nil,Df] at hL;subst hL;have sl:=tH _S.ltI (df ms);have sp:=hZ ms;rfl';refine⟨by lia,by lia,?_⟩
   refine gY (λ(_:Aa Ai) env S2=>S'<+:S2/\∃ e6 e7,env=[Ab (mkD ms),Ab (.str x),Ab (.bl true),Ab (.lst ((df ms).map D.int)),e4,e5,e6,e7,none]) ?_ ?_ ⟨AA _,_,_,rfl⟩
   .rintro y xs _ S2 ⟨p2,e6,e7,rfl⟩
    rfl';refine M3 c hm ?_;have ha:=rG S2 (MO.lst ((_S.srt _S.ltI (df ms)).map D.int));rfl';refine aX ?_;refine o_v rfl ⟨df ms,rfl,by lia,?_⟩
    rfl';refine qT (G6 li ha) ?_;rfl';refine⟨SH ha,?_⟩;rfl';refine LV ha (by rw[A4];unfold lim;lia) ?_
    rfl';refine iF ⟨?_,_,_,rfl⟩;rw[YG];exact p2.trans (Jk ..)
   .rintro _ S2 ⟨p2,e6,e7,rfl⟩
    rfl';refine wO (enc:=pI) (o:=none) (S1:=S2) (ms.zip (ms.drop 1)) (λp=>.int (p.2-p.1)) (λenv S3=>S3=S2/\∃ a b,env=[a,b]) (cA ms rfl) ⟨rfl,none,none,rfl⟩ (by rw[Jc];unfold lim;lia) (λ_ _ _=>trivial) (λp hp env S3 ⟨e1,a,b,e2⟩=>?_) λenv S3 ⟨e1,_⟩=>?_
    .subst e1 e2
     unfold pI;rfl';exact⟨_,_,rfl⟩
    .subst e1
     have es:(ms.zip (ms.drop 1)).map (λp=>D.int (p.2-p.1))=(stp ms).map D.int:=by
      unfold stp;rw[EQ];rfl
     rw[es];rfl';refine M2 c hm ?_;rfl';refine D0 ?_;refine o_v rfl ⟨stp ms,rfl,by lia,?_⟩
     rfl';rw[UJ];have eb:decide (((_S.srt _S.ltI (stp ms)).length:Am)<=1)=decide (((_S.srt _S.ltI (stp ms)).length:Am)<2):=by
      rw[Pp,AG,AG]
      lia
     rw[eb];refine qT (fO S3 (d:=.bl _) trivial) ?_;rfl';refine qT (KY c (Aq _) hm S3) ?_;rfl';refine wO (enc:=D.int) (o:=none) (S1:=S3) ms (λx=>ptD (x,0)) (λenv S4=>S4=S3/\∃ a,env=[a]) (aG rfl) ⟨rfl,none,rfl⟩ (by unfold lim;lia) (λ_ _ _=>trivial) (λy hy env S4 ⟨e1,a,e2⟩=>?_) λenv S4 ⟨e1,_⟩=>?_
     .subst e1 e2
      rfl';exact⟨_,rfl⟩
     .subst e1
      rfl';have el:D.tup (ms.map λx=>ptD (x,0))=dJ (mkL ms):=by
       unfold dJ mkL;rw[EQ];rfl
      rw[el];refine qT (fO S4 (MF ms hl)) ?_;rfl';exact⟨rfl,p2⟩
theorem LK {n:Ai}(e:env[i]? = Ab (Ab (.int (n:Am))))(h:n<=1000000):xE (vO (qA (qC i) qB)) env S=.ok (none,(Be n).map λ(i:Ai)=>D.int (i:Am)) S:=xM (qW (aW (vY (o_v e (fH ⟨_,l7 n h,_,_,rfl,rfl,rfl⟩)))))
theorem V9 {k:Am}(e:env[i]? = Ab (Ab (.int k)))(h:0<=k/\k<=1000000):xE (vO (qA (qC i) qB)) env S=.ok (none,(Be k.toNat).map λ(i:Ai)=>D.int (i:Am)) S:=LK (by rw[Sj h.1];exact e) li
theorem JP {n:Ai}{k:Am}(hn:n+1<=M)(hM:M<=20)(hk:1<=k/\k<=50):Mk M ((Be (n+1)).map λ(i:Ai)=>(i:Am)*k):=by
 have hb:∀ i:Ai,i<20->(i:Am)*k<=1000:=λi hi=>by
  have:=Int.mul_le_mul (show (i:Am)<=19 by lia) hk.2 li li
  lia
 refine⟨?_,by simpa using hn,?_,λx hx=>?_⟩
 .rw[HT,Ce]
  simp
 .rw[Fd]
  refine Pd.imp λ{a b} h=>?_;have h1:(a:Am)+1<=b:=by lia
  have h2:=Int.mul_le_mul_of_nonneg_right h1 (show 0<=k by lia)
  rw[Int.add_mul] at h2
  lia
 .obtain⟨i,hi,rfl⟩:=Bl.mp hx
  exact hb i (by have:=De.mp hi;lia)
noncomputable def told:Aa (Aa Am):=[[0,1,4,6],[0,1,4,9,11],[0,2,5,6],[0,1,3,9],[0,1,4,14,16]]
noncomputable def mkB (ms:Aa Am):Ap:=decide (ms.head? = Ab 0)&&upI ms&&ms.all λx=>decide (x<=1000)
theorem JQ {n:Ai}(h:mkB ms=true)(hn:1<=n/\n<=M):Mk M (ms.take n):=by
 unfold mkB at h;simp only[A0,AG,Bi] at h;obtain⟨⟨h1,h2⟩,h3⟩:=h;refine⟨?_,by rw[CO];lia,((jS _).mp h2).sublist (Nu _ _),λx hx=>h3 x (IJ hx)⟩
 cases ms with
 |nil=>cases h1
 |cons a r =>
  obtain⟨m,rfl⟩:∃ m,n=m+1:=⟨n-1,by lia⟩
  exact h1
theorem iX (xs:Aa D)(n:Ai):zO xs none (Ab (n:Am))=xs.take n:=by
 unfold zO;have h1:_H.sIx xs.length 0 none=0:=rfl;have h2:_H.sIx xs.length xs.length (Ab (n:Am))=min n xs.length:=by
  show (if (n:Am)<0 then ((n:Am)+(xs.length:Am)).toNat else min (n:Am).toNat xs.length)=_
  rw[AC li,Dv]
 rw[h1,h2,Nat.sub_zero,List.drop_zero];rcases Nat.le_total n xs.length with h|h
 .rw[Wh h]
 .rw[Vr h,Fj h,Fj (Aq _)]
theorem WK (h:∀ x∈ns,1<=x/\x<=1000)(hM:1<=M):Mk M (0::(_S.srt _S.ltI ns).take (M-1)):=by
 have hm:∀ x∈(_S.srt _S.ltI ns).take (M-1),1<=x/\x<=1000:=λx hx=>h x ((_S.xQ _S.wZ x ns).mp (IJ hx));refine⟨rfl,by rw[AO,CO];lia,CD.mpr ⟨λx hx=>by have:=hm x hx;lia,?_⟩,λx hx=>?_⟩
 .refine((_S.y9 _S.wZ ns).imp λ{a b} h=>?_).sublist (Nu _ _)
  exact Bd h
 .rcases Av.mp hx with rfl|hx
  .lia
  .exact(hm x hx).2
theorem JX (hM:1<=M/\M<=20){S:Sto}(h:jV S p)(q:∀ ms S1,Kp p S S1->Mk M ms->Q (mkD ms) S1):Ok (S__law_marks [.loc p,.int (M:Am)] S) Q:=by
 rw[uG];refine zP (env:=[Ab (.loc p),Ab (.int (M:Am)),none,none,none,none,none,none]) rfl ?_;rfl';refine wQ h li λway S1 k1 h1=>?_;rfl';refine wQ k1.pen li λn S2 k2 h2=>?_;rfl';generalize hN:(1:Am)+(n:Am)=N;refine wQ k2.pen li λst S3 k3 h3=>?_;rfl';refine wQ k3.pen li λw S4 k4 h4=>?_;rfl';refine pG (show w<3 by lia) λd hd=>?_
 obtain⟨wd,rfl,hw⟩:∃ wd:Am,d=.int wd/\1<=wd/\wd<=1000:=by
  simp only[Av,Bj,Du] at hd;rcases hd with rfl|rfl|rfl
  .exact⟨_,rfl,by lia,by lia⟩
  .exact⟨_,rfl,by lia,by lia⟩
  .exact⟨_,rfl,by lia,by lia⟩
 have K4:=((k1.trans k2).trans k3).trans k4;rfl';by_cases e:(way:Am)=0
 .rw[Bm e]
  rfl';refine wO (enc:=λ(i:Ai)=>D.int (i:Am)) (o:=none) (Be N.toNat) (λi=>.int ((i:Am)*(1+(st:Am)))) (λenv S'=>S'=S4/\∃ a,env=[a,Ab (.int (1+(st:Am)))]) (V9 (k:=N) rfl li) ⟨rfl,none,rfl⟩ (by rw[CC];unfold lim;lia) (λ_ _ _=>trivial) (λx hx env S' ⟨e1,a,e2⟩=>?_) λenv S' ⟨e1,_⟩=>?_
  .subst e1 e2
   have:=De.mp hx;rfl';exact⟨_,rfl⟩
  .subst e1
   rfl';have:=q ((Be N.toNat).map λ(i:Ai)=>(i:Am)*(1+(st:Am))) S' K4 (by
    rw[show N.toNat=n+1 by lia]
    exact JP li hM.2 li)
   unfold mkD at this;rw[EQ] at this;exact this
 .rw[Cc e]
  rfl';by_cases e:(way:Am)=1
  .rw[Bm e]
   rfl';obtain⟨j,hj⟩:=OP (Ib (1+(st:Am)) (show (5:Am)≠0 by lia))
   have hj5:=Gu (1+(st:Am)) (show (0:Am)<5 by lia)
   rw[hj];refine pG (show j<5 by lia) λd hd=>?_
   obtain⟨t,ht,rfl⟩:=Bl.mp (show d∈told.map mkD from hd)
   have hb:mkB t=true:=Bi.mp (show told.all mkB=true from kd) t ht
   unfold mkD;rfl';rw[show N=((n+1:Ai):Am) by lia,iX,<- Sk]
   exact q (t.take (n+1)) S4 K4 (JQ hb li)
  .rw[Cc e]
   rfl';refine aX ?_;refine eK (enc:=λ(i:Ai)=>D.int (i:Am)) (o:=none) (Be N.toNat) (λd=>∃ x:Am,d=.int x/\1<=x/\x<=1000) (λenv S'=>Kp p S S'/\∃ a,env=[a,Ab (.loc p),Ab (.int wd)]) (V9 (k:=N) rfl li) ⟨K4,none,rfl⟩ (by rw[CC];unfold lim;lia) (λ_ _ _=>trivial) (λx hx env S' ⟨K,a,e2⟩=>?_) λds env S' hl hR ⟨K,_⟩=>?_
   .subst e2
    rfl';refine wQ K.pen li λr S6 k6 h6=>?_;rfl';exact⟨⟨_,rfl,by lia,by lia⟩,K.trans k6,_,rfl⟩
   .obtain⟨ns,rfl,hn⟩:∃ ns:Aa Am,ds=ns.map D.int/\∀ x∈ns,1<=x/\x<=1000:=by
     clear hl
     induction ds with
     |nil=>exact⟨[],rfl,λ_ h=>by cases h⟩
     |cons d ds ih =>
      obtain⟨ns,rfl,h1⟩:=ih λd hd=>hR d (.tail _ hd);obtain⟨x,rfl,h2⟩:=hR d (.head _);exact⟨x::ns,rfl,λy hy=>by
       rcases Av.mp hy with rfl|hy
       .exact h2
       .exact h1 y hy⟩
    rw[A4,CC] at hl;refine⟨ns,rfl,by lia,?_⟩
    rfl';rw[show (M:Am)-1=((M-1:Ai):Am) by lia,iX,<- Sk]
    have hlen:((_S.srt _S.ltI ns).take (M-1)).length<=20:=by rw[CO];lia
    refine w6 (by rw[A4];unfold lim;show 1+_<=_;lia) ?_
    exact q (0::(_S.srt _S.ltI ns).take (M-1)) S' K (WK hn hM.1)
def Lf (d:D):Prop:=wH 1 3 false false d
theorem xU {i:Am}(h:i.natAbs<10 ^ 12):Lf (.int i):=(dN h).mono li li id id
theorem aJ (h:Mk M ms):∀ x∈ms.map D.int,Lf x:=λx hx=>by
 obtain⟨i,hi,rfl⟩:=Bl.mp hx;have:=h.ge i hi;have:=h.le i hi;exact xU li
theorem fD (b:Ap):Lf (.bl b):=(LQ b).mono li li id id
theorem gR:Lf .non:=FU.mono li li id id
theorem oV:Lf (.tup [.int 1]):=(fF (k:=0) (b:=0) (m:=1) (λx hx=>by rw[Bq.mp hx];exact dN (by decide)) (Aq _)).mono li li id id
theorem FR:Lf (.str "1"):=(Q5 "1" (kd) (kd)).mono li li id id
theorem xB (h:∀ x∈xs,Lf x)(hm:xs.length<=65):Th (.tup xs):=⟨false,false,rfl,(fF h hm).mono li li id id⟩
theorem YK (h:∀ x∈xs,Lf x)(hm:xs.length<=65):Th (.lst xs):=⟨true,false,rfl,(FZ h hm).mono li li id id⟩
theorem lA {d:D}(h:Lf d):Th d:=⟨false,false,rfl,h.mono li li id id⟩
theorem SE (h:∀ x∈xs,Lf x)(hm:xs.length<=65):Th (.tup [.tup xs]):=⟨false,false,rfl,(fF (m:=1) (λx hx=>by rw[Bq.mp hx];exact fF h hm) (Aq _)).mono li li id id⟩
theorem ZL {x:As}(h:(x.cps.toList.all λc=>decide (c<16 ^ 8))=true)(hb:x.cps.size<=3):Th (.str x):=⟨false,false,rfl,(Q5 x h hb).mono li li id id⟩
theorem N5:Th .dct0:=⟨false,true,rfl,FT.mono li li id id⟩
theorem wL {a b:Aa D}(h1:∀ x∈a,Lf x)(h2:∀ x∈b,Lf x):∀ x∈a++b,Lf x:=λx hx=>(Ba.mp hx).elim (h1 x) (h2 x)
theorem jJ {a:D}{b:Aa D}(h1:Lf a)(h2:∀ x∈b,Lf x):∀ x∈a::b,Lf x:=λx hx=>by
 rcases Av.mp hx with rfl|hx
 .exact h1
 .exact h2 x hx
theorem jK:∀ x∈([]:Aa D),Lf x:=λx hx=>by cases hx
theorem xY {lo hi:Al Am}(h:∀ x∈xs,Lf x):∀ x∈zO xs lo hi,Lf x:=λx hx=>h x (Rf (IJ hx))
theorem iW (xs:Aa D)(lo hi:Al Am):(zO xs lo hi).length<=xs.length:=by
 unfold zO;rw[CO,Ho]
 lia
noncomputable def WN:Aa D:=[.int (-1),.int 1001,.bl true,.non,.str "1",.tup [.int 1],.bl false,.int 100000000000000000000000000000]
theorem K1:∀ d∈WN,Lf d:=by
 intro d hd;simp only[WN,Av,Bj,Du] at hd;rcases hd with rfl|rfl|rfl|rfl|rfl|rfl|rfl|rfl
 .exact xU (by decide)
 .exact xU (by decide)
 .exact fD _
 .exact gR
 .exact FR
 .exact oV
 .exact fD _
 .exact(Q4 (i:=100000000000000000000000000000) (kd) (kd)).mono li li id id
theorem dQ {n:Ai}{k:Am}(e:k=(n:Am))(hn:n<=40)(q:Q (.tup ((Be n).map λ(i:Ai)=>D.int (i:Am))) S):Ok (p7 true (qA (dC (.int k)) (qB)) env S) Q:=
 qW (vY (o_c (fH ⟨.tup ((Be n).map λ(i:Ai)=>D.int (i:Am)),_,by
  rw[DZ e li];exact AF (by rw[A4,CC];unfold lim;lia),q⟩)))
theorem dI (n:Ai)(h:n<=40):∀ x∈(Be n).map λ(i:Ai)=>D.int (i:Am),Lf x:=λx hx=>by
 obtain⟨i,hi,rfl⟩:=Bl.mp hx;have:=De.mp hi;exact xU li
theorem aU (hM:M<=20){ms:Aa Am}(hk:Mk M ms){S:Sto}(h:jV S p):Ok (S__law_no_marks [.loc p,mkD ms] S) λd S1=>Th d/\Kp p S S1:=by
 rw[vD];refine zP (env:=[Ab (.loc p),Ab (.tup (ms.map D.int)),none,none,none,none,none]) rfl ?_;have n0:0<(ms.map D.int).length:=by rw[A4];exact IU.mpr hk.ne
 have n1:(ms.map D.int).length<=20:=by rw[A4];have:=hk.len;lia
 have lf:=aJ hk;generalize ms.map D.int=xs at n0 n1 lf;have cl:=λlo hi=>iW xs lo hi;rfl';refine wQ h li λw S1 k1 hw=>?_;rfl';refine wQ k1.pen li λa S2 k2 ha=>?_;rfl';refine qT (d:=.int 100000000000000000000000000000) rfl ?_;rfl';refine wQ k2.pen li λb S3 k3 hb=>?_;refine pG (a:=WN) (show b<8 by lia) λo ho=>?_
 have on:=K1 o ho;rfl';have c1:=cl none (Ab (a:Am));refine w6 (by simp only[AO,Dr];unfold lim;lia) ?_
 rfl';have c2:=cl (Ab ((a:Am)+1)) none;refine w6 (by simp only[AT,AO,Dr];unfold lim;lia) ?_
 have hb:Th (.tup (zO xs none (Ab (a:Am))++[o]++zO xs (Ab ((a:Am)+1)) none)):=xB (wL (wL (xY lf) (jJ on jK)) (xY lf)) (by simp only[AT,AO,Dr];lia)
 generalize D.tup (zO xs none (Ab (a:Am))++[o]++zO xs (Ab ((a:Am)+1)) none)=bn at hb;rfl';refine M4 (k:=4) ⟨AN rfl,by lia⟩ ?_
 rfl';have c3:=cl (Ab 1) none;refine w6 (by simp only[AO,Dr];unfold lim;lia) ?_
 rfl';refine w5 (AN rfl) ?_;rfl';have c4:=cl (Ab (-1)) none;refine w6 (by unfold lim;lia) ?_
 rfl';refine dQ (n:=21) rfl li ?_;rfl';refine w6 (by simp only[AO,Dr];unfold lim;lia) ?_
 rfl';refine w5 (AN rfl) ?_;rfl';refine w5 (AN rfl) ?_;rfl';refine pG (show w<15 by lia) λd hd=>?_
 rfl';refine⟨?_,(k1.trans k2).trans k3⟩;simp only[Eh,List.replicate_zero,Gb,List.flatten_nil,Ky,Fh,Df,Av,Bj,Du] at hd;rcases hd with rfl|rfl|rfl|rfl|rfl|rfl|rfl|rfl|rfl|rfl|rfl|rfl|rfl|rfl|rfl
 .exact hb
 .exact hb
 .exact hb
 .exact hb
 .exact lA gR
 .exact xB jK (Dp _)
 .exact YK lf li
 .exact xB (jJ (xU (by decide)) (xY lf)) (by rw[AO];lia)
 .exact ZL (kd) (kd)
 .exact lA (xU (by decide))
 .exact N5
 .exact xB (wL lf (xY lf)) (by rw[AT];lia)
 .exact xB (dI 21 li) (by rw[A4,CC];lia)
 .exact xB (wL lf (jJ (xU (by decide)) jK)) (by rw[AT,Io];lia)
 .exact SE lf li
theorem GG (xs:Aa D):(_H.stepL xs (-1)).length<=xs.length:=by
 unfold _H.stepL;refine Bp (O0 _ _) ?_;rw[CC,fS];exact Aq _
theorem M0 (hM:M<=20){ms:Aa Am}(hk:Mk M ms){S:Sto}(h:jV S p):Ok (S__law_bent [.loc p,mkD ms] S) λd S1=>Th d/\Kp p S S1:=by
 rw[jD];refine zP (env:=[Ab (.loc p),Ab (.tup (ms.map D.int)),none,none,none,none,none,none]) rfl ?_;have n0:0<(ms.map D.int).length:=by rw[A4];exact IU.mpr hk.ne
 have n1:(ms.map D.int).length<=20:=by rw[A4];have:=hk.len;lia
 have lf:=aJ hk;have ix:∀ a:Ai,a<(ms.map D.int).length->∃ i:Am,_L.atI (ms.map D.int) (a:Am)=Ab (.int i)/\0<=i/\i<=1000:=λa ha=>by
  have hm:=Ks ha;obtain⟨i,hi,e⟩:=Bl.mp hm;exact⟨i,by rw[lE ha,<- e],hk.ge i hi,hk.le i hi⟩
 generalize ms.map D.int=xs at n0 n1 lf ix;have cl:=λlo hi=>iW xs lo hi;rfl';refine wQ h li λw S1 k1 hw=>?_;rfl';refine wQ k1.pen li λa S2 k2 ha=>?_;obtain⟨i,hi,i0,i1⟩:=ix a li;rfl';refine fG hi ?_;rfl';refine fG hi ?_;rfl';refine wQ k2.pen li λb S3 k3 hb=>?_;refine pG (show b<9 by lia) λo ho=>?_
 have on:Lf o:=by
  simp only[Av,Bj,Du] at ho;rcases ho with rfl|rfl|rfl|rfl|rfl|rfl|rfl|rfl|rfl
  .exact xU li
  .exact xU li
  .exact xU (by decide)
  .exact xU (by decide)
  .exact xU (by decide)
  .exact fD _
  .exact fD _
  .exact gR
  .exact oV
 rfl';have c1:=cl none (Ab (a:Am));refine w6 (by simp only[AO,Dr];unfold lim;lia) ?_
 rfl';have c2:=cl (Ab ((a:Am)+1)) none;refine w6 (by simp only[AT,AO,Dr];unfold lim;lia) ?_
 have hb:Th (.tup (zO xs none (Ab (a:Am))++[o]++zO xs (Ab ((a:Am)+1)) none)):=xB (wL (wL (xY lf) (jJ on jK)) (xY lf)) (by simp only[AT,AO,Dr];lia)
 generalize D.tup (zO xs none (Ab (a:Am))++[o]++zO xs (Ab ((a:Am)+1)) none)=bn at hb;rfl';refine w6 (by simp only[AO,Dr];unfold lim;lia) ?_
 rfl';refine w6 (by unfold lim;lia) ?_
 rfl';refine M7 li ?_;have c5:=GG xs;rfl';refine w5 (AN rfl) ?_;rfl';have c6:=cl (Ab (a:Am)) (Ab ((a:Am)+1));refine w6 (by unfold lim;lia) ?_
 rfl';have c7:=cl (Ab (a:Am)) none;refine w6 (by rw[AT];unfold lim;lia) ?_
 rfl';refine w6 (by unfold lim;lia) ?_
 rfl';refine w5 (AN rfl) ?_;rfl';refine pG (show w<9 by lia) λd hd=>?_
 rfl';refine⟨?_,(k1.trans k2).trans k3⟩;simp only[Ky,Fh,Av,Bj,Du] at hd;rcases hd with rfl|rfl|rfl|rfl|rfl|rfl|rfl|rfl|rfl
 .exact hb
 .exact hb
 .exact hb
 .exact xB (wL lf (jJ on jK)) (by rw[AT,Io];lia)
 .exact xB (wL (xY lf) (xY lf)) (by rw[AT];lia)
 .exact xB (λx hx=>lf x (ZK hx)) li
 .exact YK lf li
 .exact xB (wL (wL (xY lf) (xY lf)) (xY lf)) (by rw[AT,AT];lia)
 .exact xB (wL (xY lf) (xY lf)) (by rw[AT];lia)
theorem dP (c:Cl)(nd:(xH c).Nodup)(nf:(fnL c).Nodup){f:DE}{env:qE}{S:Sto}{ds:Aa D}(e:f env S=.ok (.lst ds) S)(hl:ds.length<=100)(h:∀ d∈ds,Th d)(q:∀ S',S<+:S'->Q (.lst (ds.map λ_=>.bl true)) S'):Ok (zE false [none] (dIt f) (gNm 0) (xI) (zK (qR 1 (okO (S__law_right c)) (qA (qC 0) (qB)))) env S) Q:=by
 refine wO (enc:=id) (o:=none) (S1:=S) ds (λ_=>.bl true) (λenv S'=>S<+:S'/\∃ a,env=[a]) ?_ ⟨AA _,none,rfl⟩ (by unfold lim;lia) (λ_ _ _=>trivial) (λd hd env S' ⟨e1,a,e2⟩=>?_) λenv S' ⟨e1,_⟩=>q S' e1
 .unfold dIt
  rw[e,Qn];rfl
 .subst e2
  rfl';exact zI (JY c nd nf (h d hd)) λx S2 ⟨e3,e4⟩=>⟨e3,e1.trans e4,_,rfl⟩
theorem YU (ds:Aa D):(ds.all λ_=>true)=true:=by simp
noncomputable def a9:Aa D:=[.tup [.int 0],.tup [.int 0,.int 1],.tup [.int 0,.int 1000],.tup [.int 0,.int 1001],.tup [.int 1],.tup [.int 0,.int 2,.int 1],.tup [.int 0,.int 0],.tup [.bl false,.int 1],.tup [.int 0,.bl true],.tup [],.non,.lst [.int 0],.int 0,.str "0"]
noncomputable def lfB:D->Ap
 |.int i=>decide (i.natAbs<1000000000000)
 |.bl _=>true
 |.non=>true
 |_=>false
theorem LO {d:D}(h:lfB d=true):Lf d:=by
 cases d with
 |int i=>exact xU (Bd h)
 |bl b=>exact fD b
 |non=>exact gR
 |_=>cases h
theorem y8 {ds:Aa D}(h:ds.all lfB=true):∀ x∈ds,Lf x:=λx hx=>LO (Bi.mp h x hx)
theorem F7:∀ d∈a9,Th d:=by
 intro d hd;simp only[a9,Av,Bj,Du] at hd;rcases hd with rfl|rfl|rfl|rfl|rfl|rfl|rfl|rfl|rfl|rfl|rfl|rfl|rfl|rfl
 .exact xB (y8 (by decide)) (AN rfl)
 .exact xB (y8 (by decide)) (AN rfl)
 .exact xB (y8 (by decide)) (AN rfl)
 .exact xB (y8 (by decide)) (AN rfl)
 .exact xB (y8 (by decide)) (AN rfl)
 .exact xB (y8 (by decide)) (AN rfl)
 .exact xB (y8 (by decide)) (AN rfl)
 .exact xB (y8 (by decide)) (AN rfl)
 .exact xB (y8 (by decide)) (AN rfl)
 .exact xB jK (Dp _)
 .exact lA gR
 .exact YK (y8 (by decide)) (AN rfl)
 .exact lA (xU (by decide))
 .exact ZL (kd) (kd)
theorem WB (c:Cl)(nd:(xH c).Nodup)(nf:(fnL c).Nodup)(ns:Aa Am)(hl:ns.length<=63):∃ S,qX 6 (b_law c) [.lst (ns.map D.int)] [] = .ok (.bl true) S:=by
 have key:Ok (qX 6 (b_law c) [.lst (ns.map D.int)] []) λd _=>d=.bl true:=by
  refine zP (env:=[Ab (.lst (ns.map D.int)),none,none,none,none,none]) rfl ?_;unfold b_law;rfl';refine w5 (AN rfl) ?_;rw[show ([.tup [.int 0],.tup [.int 0,.int 1],.tup [.int 0,.int 1000],.tup [.int 0,.int 1001],.tup [.int 1],.tup [.int 0,.int 2,.int 1],.tup [.int 0,.int 0],.tup [.bl false,.int 1],.tup [.int 0,.bl true],.tup [],.non,.lst [.int 0],.int 0]++[.str "0"]:Aa D)=a9 from rfl]
  rfl';refine dP c nd nf (ds:=a9++[.tup ((Be 20).map λ(i:Ai)=>D.int (i:Am)),.tup ((Be 21).map λ(i:Ai)=>D.int (i:Am))]) (xM ?_) (AN rfl) (λd hd=>?_) λS1 p1=>?_
  .rfl'
   refine dQ (n:=20) rfl li ?_;rfl';refine dQ (n:=21) rfl li ?_;rfl';exact w5 (AN rfl) ⟨rfl,rfl⟩
  .rcases Ba.mp hd with hd|hd
   .exact F7 d hd
   .simp only[Av,Bj,Du] at hd
    rcases hd with rfl|rfl
    .exact xB (dI 20 li) (by rw[A4,CC];lia)
    .exact xB (dI 21 li) (by rw[A4,CC];lia)
  rfl';refine pF (p:=λ_:D=>true) ?_;rw[YU];array_get_dec;array_get_dec;array_get_dec;array_get_dec;array_get_dec;array_get_dec;refine VO (KZ ns hl 10 rfl λms=>?_);refine gY (λ_ env _=>∃ e1 e2 e3 e4 e5,env=[Ab (.lst (ns.map D.int)),e1,e2,e3,e4,e5]) ?_ ?_ ⟨_,_,_,_,_,rfl⟩
  .rintro y xs _ S ⟨e1,e2,e3,e4,e5,rfl⟩
   rfl';refine D2 λp S0 p0=>?_;rfl';refine JX (M:=20) li p0 λms S1 k1 L=>?_;rfl';refine zI (aU (Aq _) L k1.pen) λbd S2 ⟨hbd,k2⟩=>?_;rfl';refine eK (enc:=λ(i:Ai)=>D.int (i:Am)) (o:=none) (S1:=S2) (Be 5) Th (λenv S'=>jV S' p/\∃ a,env=[a,Ab (mkD ms),Ab (.loc p)]) (RO li) ⟨k2.pen,none,rfl⟩ (by rw[CC];unfold lim;lia) (λ_ _ _=>trivial) (λx hx env S' ⟨pp,a,e2⟩=>?_) λds env S' hdl hR ⟨pp,_⟩=>?_
   .subst e2
    rfl';exact zI (M0 (Aq _) L pp) λd S3 ⟨hd,k3⟩=>⟨hd,k3.pen,_,rfl⟩
   .rw[CC] at hdl
    refine w5 (by show 2+ds.length<=lim;unfold lim;lia) ?_
    rfl';refine dP c nd nf (ds:=[mkD ms,bd]++ds) rfl (by show ds.length+1+1<=100;lia) (λd hd=>?_) λS3 p3=>?_
    .rcases Ba.mp hd with hd|hd
     .simp only[Av,Bj,Du] at hd
      rcases hd with rfl|rfl
      .have:=L.len
       exact xB (aJ L) (by rw[A4];lia)
      .exact hbd
     .exact hR d hd
    .rfl'
     refine pF (p:=λ_:D=>true) ?_;rw[YU];rfl';exact iF ⟨_,_,_,_,_,rfl⟩
  .rintro _ S ⟨e1,e2,e3,e4,e5,rfl⟩
   rfl';exact rfl
 obtain⟨d,S',e,rfl⟩:=key;exact⟨S',e⟩
end _K
namespace _K
open PySem PySem.Spec PyProof.Rows _L _D
variable {mg:As->Al Ac}
theorem yO {P:A5}{w:AL}{K:Aj}{base:AB}{c:Cl}(T:Txt K mg c){k:Ai}{F:DF}(d:DfS F P w K mg base true k "_law_same" 2):DfS (qX 2 (b__law_same F)) P w K mg base true (k+1) "_law_same" 2:=by
 refine dq P w base k 10 T rfl ck rfl ?_
 intros
 repeat' first
  |with_reducible exact ck
  |((with_reducible show QE _ _ _);with_reducible first|apply aV|apply VF|apply QV|apply aBt|apply aO|(apply aB;first|apply VR|apply VQ|apply VP|apply ZR)|apply aC|apply QY|apply QU|apply QX|apply QQ)
  |((with_reducible show _=_);first|exact T.nb ck|exact jM _|exact rfl|with_unfolding_all rfl)
  |((with_reducible show ZOp _ _ _);with_reducible first|apply NG|apply NL|apply NH)
  |((with_reducible show RoomC _ _ _);first|assumption|exact RoomC.mono (by assumption)|exact RoomC.mono (RoomC.any (by assumption))|exact RoomC.mark (by assumption) _|exact RoomC.mono (RoomC.mark (by assumption) _))
  |((with_reducible show St1 _ _ _ _);exact⟨rfl,rfl⟩)
  |((with_reducible show DfS _ _ _ _ _ _ _ _ _ _);assumption)
  |with_reducible first|apply QP|apply fM|apply pL|apply eQ|apply QN|apply Z5|(apply VH;first|apply fN|apply l6)|apply Z6|apply fN|apply l6|apply aNm|apply QZ|apply dY|apply eR|apply Z3|apply Z2|apply eU|apply eS|apply Z4|apply VG|apply V4
  |((with_reducible apply aSt);case hs=>exact rfl)
  |((with_reducible show ClA _ _ _ _);first|assumption|exact ClA.tr (by assumption))
  |((with_reducible show LmX _ _ _ _ _ _ _ _ _ _);assumption)
  |((with_reducible show DfL _ _ _ _ _ _ _ _ _ _ _ _ _);assumption)
  |((with_reducible show ZF _ _ _ _);first|apply aFn|apply PD)
  |exact λ_=>⟨rfl,rfl,rfl⟩
  |(intro h;cases h;done)
  |((with_reducible show ZPass _);first|assumption|exact cC)
  |exact⟨rfl,rfl⟩
  |exact⟨rfl,rfl,rfl⟩
  |apply fM
  |apply pL
  |(intros;rfl)
  |(intro _ h;cases h <;> rfl)
  |decide
  |intro _
theorem JJ {P:A5}{w:AL}{K:Aj}{base:AB}{c:Cl}(T:Txt K mg c)(nd:(xH c).Nodup)(hT:(FL.all λy=>(Cd K y).isSome)=true)(nf:(fnL c).Nodup):∃ F,lB P w K mg base true 8 "law" ["_law_script"] F/\∀ ns:Aa Am,ns.length<=63->∃ S,F [.lst (ns.map D.int)] [] = .ok (.bl true) S:=by
 refine hv (λ_=>?_) (dq (cm:=true) P w base 0 0 T rfl ck (kU) ?_);refine hv (λ_=>?_) (dq (cm:=true) P w base 0 1 T rfl ck (jI) ?_);refine hv (λ_=>?_) (dq (cm:=true) P w base 1 2 T rfl ck (jH) ?_);refine hv (λ_=>?_) (dq (cm:=true) P w base 2 3 T rfl ck (yK c) ?_);refine hv (λ_=>?_) (dq (cm:=true) P w base 0 4 T rfl ck (vL) ?_);refine hv (λ_=>?_) (dq (cm:=true) P w base 3 5 T rfl ck (gC c) ?_);refine hv (λ_=>?_) (dq (cm:=true) P w base 3 6 T rfl ck (vM c) ?_);refine hv (λ_=>?_) (dq (cm:=true) P w base 3 7 T rfl ck (uV c) ?_);refine hv (λ_=>?_) (dq (cm:=false) P w base 0 8 T rfl ck (uF c) ?_);refine hv (λ_=>?_) (dqL (cm:=true) (g:=b__law_refused c) (N:=2) P w base 5 5 0 9 T rfl ck ?_);have s0:DfS (fQ 0) P w K mg base true 0 "_law_same" 2:=⟨UD (T.src 10 rfl)⟩;have d__law_same:DfS S__law_same P w K mg base true 4 "_law_same" 2:=jG▸yO T (yO T (yO T (yO T s0)));refine hv (λ_=>?_) (dq (cm:=true) P w base 0 11 T rfl ck (uI) ?_);refine hv (λ_=>?_) (dq (cm:=true) P w base 0 12 T rfl ck (jE) ?_);refine hv (λ_=>?_) (dq (cm:=true) P w base 0 13 T rfl ck (kT) ?_);refine hv (λ_=>?_) (dq (cm:=true) P w base 0 14 T rfl ck (jF) ?_);refine hv (λ_=>?_) (dq (cm:=true) P w base 1 15 T rfl ck (uG) ?_);refine hv (λ_=>?_) (dq (cm:=true) P w base 1 16 T rfl ck (vD) ?_);refine hv (λ_=>?_) (dq (cm:=true) P w base 1 17 T rfl ck (yX) ?_);refine hv (λ_=>?_) (dq (cm:=true) P w base 1 18 T rfl ck (jD) ?_);refine hv (λ_=>?_) (dq (cm:=true) P w base 6 19 T rfl ck (uH c) ?_);refine⟨_,dqP 7 20 T rfl ck ?_,WB c nd nf⟩
 all_goals
  intros
  repeat' first
   |with_reducible exact ck
   |((with_reducible show QE _ _ _);with_reducible first|apply aV|apply T7|apply VF|apply TC|apply QV|apply aBt|apply aGi|apply aCl|apply aL|apply aO|apply aN|apply KM|apply KN|(apply aB;first|apply VR|apply VQ|apply VP|apply NM|apply ZR|apply NI)|(apply aT;first|apply GW|apply NJ|apply SN)|apply aC|apply QY|apply T9|apply KL|apply DQ|apply Y2|apply KO|apply DR|apply QU|apply Y0|apply TB|apply DU|apply QX|apply QQ|apply KH|apply r9|apply i6|(apply i3;(case slot=>apply PySem.F.slot_list_append);(case' hm=>first|apply YO))|(apply i3;(case slot=>apply OI);(case' hm=>first|apply GU))|(apply i3;(case slot=>apply OJ);(case' hm=>first|apply GV))|apply T4)
   |((with_reducible show _=_);first|exact T.nb ck|with_reducible apply OQ|with_reducible apply O1|with_reducible apply OR|with_reducible apply OS|exact jM _|exact rfl|with_unfolding_all rfl)
   |((with_reducible show ZOp _ _ _);with_reducible first|apply SL|apply SV|apply NK|apply SQ|apply SM|apply SO|apply SS|apply EH|apply EG|apply EE|apply NG|apply NL|apply NH)
   |((with_reducible show RoomC _ _ _);first|assumption|exact RoomC.mono (by assumption)|exact RoomC.mono (RoomC.any (by assumption))|exact RoomC.mark (by assumption) _|exact RoomC.mono (RoomC.mark (by assumption) _))
   |((with_reducible show St1 _ _ _ _);exact⟨rfl,rfl⟩)
   |((with_reducible show DfS _ _ _ _ _ _ _ _ _ _);assumption)
   |with_reducible first|apply QP|apply fM|apply pL|apply eQ|apply QN|apply aK0|apply aFv|apply KR|apply KS|apply TU|apply Z5|apply Y7|(apply VH;first|apply fN|apply l6)|apply Z6|apply fN|apply l6|apply aNm|apply QZ|apply TH|apply dY|apply eR|apply TK|apply Y3|apply Z3|apply KQ|apply Z2|apply TJ|apply eU|apply Y4|apply eS|apply DV|apply Z4|apply VG|apply KU|apply TM|apply aP2|apply aRs|apply aTr|apply SR|apply EF|apply SU|apply V4|apply OQ|apply O1|apply OR|apply OS
   |((with_reducible apply aCs);case hsw=>exact rfl)
   |((with_reducible apply aSt);case hs=>exact rfl)
   |with_reducible apply TL
   |exact T.cls
   |exact T.cl (by kernel_rfl)
   |exact T.rz (by kernel_rfl)
   |exact T.ct
   |exact T.gi (by kernel_rfl)
   |((with_reducible apply R0);(case D=>assumption))
   |((with_reducible show ClA _ _ _ _);first|assumption|exact ClA.tr (by assumption))
   |((with_reducible show LmX _ _ _ _ _ _ _ _ _ _);assumption)
   |((with_reducible show DfL _ _ _ _ _ _ _ _ _ _ _ _ _);assumption)
   |((with_reducible show LmK _ _);refine lmK hT (by assumption) ?_ rfl)
   |((with_reducible show ZF _ _ _ _);first|apply aFn|apply PD)
   |exact λ_=>⟨rfl,rfl,rfl⟩
   |(intro h;cases h;done)
   |((with_reducible show ZPass _);first|assumption|exact cC)
   |exact⟨rfl,rfl⟩
   |exact⟨rfl,rfl,rfl⟩
   |apply fM
   |apply pL
   |decide
   |(intros;rfl)
   |(intro _ h;cases h <;> rfl)
   |intro _
end _K
namespace _K
open PySem PySem.Spec PyProof.Rows _L _D
variable {K:Aj}
theorem bdf:BdF top tab:=by
 repeat (refine⟨?_,?_⟩;(intro _ _ _ _ _ _ us h;first|(obtain⟨_,rfl⟩:=us1 h;rfl)|(obtain⟨_,_,rfl⟩:=us2 h;rfl)))
 exact trivial
theorem NQ {C0 C1 C2 C3 C4 C5 C6 C7 C8 C9 C10 C11 C12 C13 C14:Af}(q0:Bw K AW "FarError" = Ab (Ab (.ref C0)))(q1:Bw K AW "NoPoint" = Ab (Ab (.ref C1)))(q2:Bw K AW "NoLot" = Ab (Ab (.ref C2)))(q3:Bw K AW "NoNumber" = Ab (Ab (.ref C3)))(q4:Bw K AW "NoCircle" = Ab (Ab (.ref C4)))(q5:Bw K AW "NoMarks" = Ab (Ab (.ref C5)))(q6:Bw K AW "NoFars" = Ab (Ab (.ref C6)))(q7:Bw K AW "NoText" = Ab (Ab (.ref C7)))(q8:Bw K AW "NoLine" = Ab (Ab (.ref C8)))(q9:Bw K AW "NoDeed" = Ab (Ab (.ref C9)))(q10:Bw K AW "Alike" = Ab (Ab (.ref C10)))(q11:Bw K AW "TooMany" = Ab (Ab (.ref C11)))(q12:Bw K AW "gaps" = Ab (Ab (.ref C12)))(q13:Bw K AW "is_even" = Ab (Ab (.ref C13)))(q14:Bw K AW "as_lot" = Ab (Ab (.ref C14))):cF K (clt ⟨C0,C1,C2,C3,C4,C5,C6,C7,C8,C9,C10,C11,C12,C13,C14⟩):=⟨q0,q1,q2,q3,q4,q5,q6,q7,q8,q9,q10,q11,q12,q13,q14,trivial⟩
theorem NR {k0 k1:Os}(g0:Bw K AW "MOST_MARKS" = Ab (Ab (.int (20) k0)))(g1:Bw K AW "MOST_MARK" = Ab (Ab (.int (1000) k1))):cG K cst:=⟨⟨_,g0⟩,⟨_,g1⟩,trivial⟩
theorem FN {P:A5}{w:AL}{mg:As->Al Ac}{c:Cl}{fa:Af}(T:Txt K mg c)(nd:(xH c).Nodup)(hT:(FL.all λy=>(Cd K y).isSome)=true)(nf:(fnL c).Nodup)(hfa:mg "law" = Ab (.ref fa)) :
  ∃ fd:Dq,(∀ (s:Ag) (v:Ac),Kl s fd ⟨[v],[]⟩ [("_law_script",v)])/\∀ base:AB,K.In base->base.Ns AW mg->FnOk P w K mg base (CXd P w) 8 fa fd ["_law_script"] (l8 K):=
 JK (T.src 20 rfl) hfa (λkV doc pm an cdv ct s v=>.of_eq rfl) λbase=>JJ T nd hT nf
end _K
theorem PySem.W.Fast.tw4100366399404039092 : True := trivial
theorem PySem.W.Fast.tw10075813286809515880 : True := trivial
theorem PySem.W.Fast.tw1277820146858235447 : True := trivial
theorem PySem.W.Fast.tw400783996172176867 : True := trivial
theorem PySem.W.Fast.tw12603276714049258547 : True := trivial
theorem PySem.W.Fast.tw12971031360198774076 : True := trivial
theorem PySem.W.Fast.tw2885575612798976784 : True := trivial
theorem PySem.W.Fast.tw18157264551459803439 : True := trivial
theorem PySem.W.Fast.tw12826388632957727060 : True := trivial
theorem PySem.W.Fast.tw275536679135035980 : True := trivial
theorem PySem.W.Fast.tw14378661269469858865 : True := trivial
theorem PySem.W.Fast.tw13360569469302469265 : True := trivial
theorem PySem.W.Fast.tw11867809869776230158 : True := trivial
theorem PySem.W.Fast.tw2892124711978033263 : True := trivial
theorem PySem.W.Fast.tw4070109955433670316 : True := trivial
theorem PySem.W.Fast.tw14424683337627304138 : True := trivial
theorem PySem.W.Fast.tw2196863791173220757 : True := trivial
theorem PySem.W.Fast.tw10654041988787747034 : True := trivial
theorem PySem.W.Fast.tw4791625049951199443 : True := trivial
theorem PySem.W.Fast.tw8758565179552578377 : True := trivial
theorem PySem.W.Fast.tw13699067683874424750 : True := trivial
theorem PySem.W.Fast.tw2232620509977080108 : True := trivial
theorem PySem.W.Fast.tw7493808732427297098 : True := trivial
theorem PySem.W.Fast.tw16462607441858012257 : True := trivial
theorem PySem.W.Fast.tw18300532153055446967 : True := trivial
theorem PySem.W.Fast.tw13717990532033734090 : True := trivial
theorem PySem.W.Fast.tw7224813101991734358 : True := trivial
theorem PySem.W.Fast.tw15304548769877689614 : True := trivial
theorem PySem.W.Fast.tw15489278473865787746 : True := trivial
theorem PySem.W.Fast.tw11337125007053048604 : True := trivial
theorem PySem.W.Fast.tw17826017382156693825 : True := trivial
theorem PySem.W.Fast.tw1028832027879140317 : True := trivial
theorem PySem.W.Fast.tw3120014270037454284 : True := trivial
theorem PySem.W.Fast.tw16415133832077427516 : True := trivial
theorem PySem.W.Fast.tw3602798562558875413 : True := trivial
theorem PySem.W.Fast.tw16553228937913832387 : True := trivial
theorem PySem.W.Fast.tw14888002602684481391 : True := trivial
theorem PySem.W.Fast.tw3040017047205335611 : True := trivial
theorem PySem.W.Fast.tw10177558970051463648 : True := trivial
theorem PySem.W.Fast.tw3677269773517049840 : True := trivial
theorem PySem.W.Fast.tw12880532088153050641 : True := trivial
theorem PySem.W.Fast.tw8797589988316134782 : True := trivial
theorem PySem.W.Fast.tw12435375294771820916 : True := trivial
theorem PySem.W.Fast.tw14342032136009189227 : True := trivial
theorem PySem.W.Fast.tw11307983506067291742 : True := trivial
theorem PySem.W.Fast.tw6971234554123684208 : True := trivial
theorem PySem.W.Fast.tw10043437501167864295 : True := trivial
theorem PySem.W.Fast.tw16098088299435291942 : True := trivial
theorem PySem.W.Fast.tw11361631781073289776 : True := trivial
theorem PySem.W.Fast.tw7466576341589207660 : True := trivial
theorem PySem.W.Fast.tw4121362421314757661 : True := trivial
theorem PySem.W.Fast.tw5411851975947405674 : True := trivial
theorem PySem.W.Fast.tw3403783838314934245 : True := trivial
theorem PySem.W.Fast.tw2391163600892376400 : True := trivial
theorem PySem.W.Fast.tw3934189824867489670 : True := trivial
theorem PySem.W.Fast.tw6800366954689877488 : True := trivial
theorem PySem.W.Fast.tw12717215054648346105 : True := trivial
theorem PySem.W.Fast.tw8223771705464606971 : True := trivial
theorem PySem.W.Fast.tw18351263373149482074 : True := trivial
theorem PySem.W.Fast.tw17353465671308502381 : True := trivial
theorem PySem.W.Fast.tw8229864668896899647 : True := trivial
theorem PySem.W.Fast.tw7386061630006033271 : True := trivial
theorem PySem.W.Fast.tw17312931043681349145 : True := trivial
theorem PySem.W.Fast.tw17768375810274236615 : True := trivial
theorem PySem.W.Fast.tw16675645942252635807 : True := trivial
theorem PySem.W.Fast.tw3659859813067042343 : True := trivial
theorem PySem.W.Fast.tw9985536092028949691 : True := trivial
theorem PySem.W.Fast.tw1909414164616339981 : True := trivial
theorem PySem.W.Fast.tw4849766664474065337 : True := trivial
theorem PySem.W.Fast.tw12625520874934327772 : True := trivial
theorem PySem.W.Fast.tw3059606001350732170 : True := trivial
theorem PySem.W.Fast.tw10543785426146023333 : True := trivial
theorem PySem.W.Fast.tw12305835786504068008 : True := trivial
theorem PySem.W.Fast.tw9883962266587176957 : True := trivial
theorem PySem.W.Fast.tw13692807291731453559 : True := trivial
open PySem PySem.W PyProof.Rows
set_option maxRecDepth 100000 in
set_option maxHeartbeats 0 in
theorem PySem.Challenge.cw_fewdistances_k70_marks_looked_at_holds : PySem.Challenge.rw_fewdistances_k70_marks_looked_at.Holds := by
 w_on;o_law;k_head;(case hw=>w_witness2)
 k_fill
 refine _D.SJ (l:=Nq) (k:=8) (x:="_law_script") rfl rfl ⟨rfl,by decide,by decide,rfl⟩ (λ_=>by kernel_rfl) (λw h Y=>PySem.W.km_in_of Y) ?F
 case F =>
  intro w mg fa h KX G hmg
  refine' _K.FN (_D.SG _K.bdf ?hp rfl KX G ?s ?z (_K.NQ ?q0 ?q1 ?q2 ?q3 ?q4 ?q5 ?q6 ?q7 ?q8 ?q9 ?q10 ?q11 ?q12 ?q13 ?q14) (_K.NR ?gi0 ?gi1) ?e1 ?e2 ?e3 ?e4 ?e5 ?e6) ?nd ?hT ?nf hmg
  (case s=>(repeat (refine' ⟨_D.SrcF.mk ?a ?l ?c ?k,?_⟩;(case a=>k_is);(case l=>k_is);(case c=>k_is);(case k=>k_is)));exact trivial)
  (case z=>rfl)
  (case q0=>k_is)
  (case q1=>k_is)
  (case q2=>k_is)
  (case q3=>k_is)
  (case q4=>k_is)
  (case q5=>k_is)
  (case q6=>k_is)
  (case q7=>k_is)
  (case q8=>k_is)
  (case q9=>k_is)
  (case q10=>k_is)
  (case q11=>k_is)
  (case q12=>k_is)
  (case q13=>k_is)
  (case q14=>k_is)
  (case gi0=>k_is)
  (case gi1=>k_is)
  (case hp=>intro y hy;revert hy;simp;grind)
  (case e1=>rfl)
  (case e2=>rfl)
  (case e3=>rfl)
  (case e4=>rfl)
  (case e5=>rfl)
  (case e6=>rfl)
  (case nd=>decide)
  (case hT=>rfl)
  (case nf=>decide)
