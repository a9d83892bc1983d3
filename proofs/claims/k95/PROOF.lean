import PyProof.Rows.All
import Wide.All
import OpenK.AllK
import Wide.FinOn
import Lean
import PyProof.EqAt
import PyProof.EqKinds
import PyProof.TupleCall
import KE.KLam
import KE.KTryMore
import KE.KIsAll
import PyProof.NeKinds
import PyProof.Rows.CountFlat
import PyProof.Rows.FStr
import PyProof.ZipIter
import PyProof.EnumMake
import PyProof.EnumStmt
import KE.KDictLaws
import PyProof.DictWalks
import PyProof.Rows.SetFrom
import PyProof.SumWalkG
import PyProof.Rows.SumGenD
import PyProof.SeqI2
import KE.KItemsList
import PyProof.SetKind
import PyProof.TupleKey
import KE.KSortTup
import PyProof.ReprRoads
import PyProof.ReprBulk
import PyProof.TupleOfSeq
import PyProof.WalkInts
import PyProof.SeqI3
import PyProof.Rows.RuleDivmod
import PyProof.ListRange
import KE.KPairComp
import KE.KMinKey
import PyProof.Rows.CallKwBuiltin
import KE.KDictList
import PyProof.DictTruth
import PyProof.DictRoadsH
import PyProof.Rows.Range3
import KE.KIntText
import PyProof.Rows.StrSplitAre
import PyProof.Rows.StrJoin2
import PyProof.Rows.StrStep
import PyProof.StrCalls6
import PySem.Challenge.RW_fewdistances_k95_lots_written_and_read
set_option Elab.async false
set_option linter.all false
set_option maxRecDepth 100000
set_option maxHeartbeats 0
set_option tactic.hygienic false
set_option bootstrap.genMatcherCode false
set_option genSizeOf false
set_option compiler.extract_closed false
open Array renaming getElem?_toList->Ba,length_toList->Bi,getElem?_eq_some_iff->Cs,getElem?_eq_getElem->Dw,toList_append->Dx,toList_push->Ec,getD_eq_getD_getElem?->Ex,getD->Gk,toList_extract->Hy,size_extract->Ko,toList_reverse->Lx,forIn_toList->Nc,getElem?_eq_none->Oe,mem_toList_iff->Pb,perm_iff_toList_perm->Rm,all_toList->Tn,toList_inj->Tw,size_map->Wf,append_assoc->Xx,toList->Yh
open Bool renaming and_eq_true->Bd,false_eq_true->Bo,noConfusion->DL,and_eq_true_iff->Fk,false_ne_true->Gc,false_and->Hx,not_true->Js,and_false->Ls,not_eq_true'->Nw,or_eq_true->Us,not_false->Wg,eq_iff_iff->Aa9,and_true->AaQ
open Char renaming toNat->Mm
open Classical renaming byContradiction->Fq,choose_spec->Vo,choose->u8
open False renaming elim->Ao
open ForInStep renaming yield->Ky
open Int renaming toNat_natCast->Fd,le_trans->Ft,le_of_lt->Hb,emod_lt_of_pos->Kn,emod_nonneg->Mt,le_refl->Ou,lt_of_lt_of_le->Rc,eq_ofNat_of_zero_le->Ud,toNat_of_nonneg->Xp,ediv_one->Yj,not_lt->AaF
open List renaming length_map->Aq,getElem?_eq_getElem->Ar,mem_cons->AT,length_cons->Bc,size_toArray->Bg,all_eq_true->Bs,mem_cons_of_mem->Bt,prefix_refl->Bu,mem_append->Bw,length_append->Ca,mem_of_getElem?->Cb,getElem?_eq_some_iff->Ce,mem_append_right->Cf,range->Cg,getElem?_append_left->Ci,append_assoc->Cj,mem_cons_self->Cq,mem_singleton->Cu,getElem?_append_right->Cw,mem_iff_getElem->Cz,length_nil->Dd,replicate->Di,mem_map->Dj,length_take->Dn,not_mem_nil->Dp,mem_append_left->Dq,map_cons->Dt,pairwise_append->Dz,getElem?_map->Ea,length_range->Eb,mem_range->Ei,getElem?_set_ne->Er,take_of_length_le->Es,length_drop->Ez,map_map->Fg,pairwise_cons->Fl,getElem?_set_self->Fn,drop_eq_getElem_cons->Fp,filterMap_cons->Fv,contains_iff_mem->Fx,mem_of_mem_take->Ge,append_nil->Hg,replicate_succ->Hi,extract_eq_take_drop->Hs,mem_of_mem_drop->Hz,pairwise_map->Ib,map_append->Ic,length->Ie,length_pos_iff->Im,mem_filterMap->IN,nil_append->Jn,flatten_cons->Jp,getD->Jq,pairwise_iff_getElem->Jr,lookup_cons->Jx,getElem_mem->Jy,length_eq_zero_iff->Ke,getElem?_cons_succ->Kg,zip_cons_cons->Kj,find?_cons->Ku,any_cons->Kv,range_succ_eq_map->Kz,length_singleton->Lh,perm_append_comm->Lm,flatMap_cons->Lo,map_id->Lp,all_map->Lu,all_cons->Me,reverse_append->Mj,map_congr_left->Ml,forIn_cons->Mr,getElem?_take_of_lt->Mx,prefix_append->Na,getElem?_replicate->Nh,forIn_nil->Nr,drop_eq_nil_of_le->Ob,drop_of_length_le->Of,getElem?_eq_none->Oo,lookup->Op,ext_getElem->Os,take_append_drop->Ov,getElem_map->Ow,nodup_cons->Ph,of_mem_zip->Pi,foldl_cons->Pj,eq_nil_of_length_eq_zero->Po,append_toArray->Qi,filterMap_map->Qx,getElem?_drop->Ra,getD_eq_getElem?_getD->Ro,exists_cons_of_ne_nil->Rp,getElem_take->Si,getElem_drop->Sj,getElem?_eq_none_iff->So,map_take->Ss,length_erase_of_mem->Td,getElem_inj->Ti,filter_cons->Tk,zipIdx_cons->Ts,pairwise_singleton->Ub,mem_filter->Ul,length_pos_of_mem->Uw,length_zip->Vb,mem_iff_getElem?->Vm,countP_mono_left->Vt,singleton_append->Vu,length_filter_le->Vx,mem_erase_of_ne->Wm,reverse_reverse->Wq,mem_map_of_mem->Xo,map_drop->Xq,dropWhile_cons->Xr,toList_toArray->Xs,lookup_append->Yf,map_nil->Yk,nodup_append->Zc,ext_getElem?->Zn,nodup_range->v4,countP_cons->wE,map_fst_zip->wP,cons_append->xL,length_set->Aa3,zipIdx_nil->Aa6,head?_cons->AaA,foldl->AaB,take_zero->AaI,filterMap->AaK,map->AaZ
open List.Pairwise renaming nil->Nu,imp_of_mem->Tc
open List.Perm renaming append_left->Jg,append_right->Lb,refl->Nt,trans->Pq
open List.cons renaming inj->Su
open Nat renaming le_refl->Av,lt_of_lt_of_le->Az,le_trans->Bq,le_of_ble_eq_true->By,ne_of_lt->Cp,le_of_lt->Fc,exists_eq_add_of_le->Ff,lt_irrefl->Fz,add_sub_cancel_left->Gb,le_add_right->Gy,zero_add->Ha,zero_le->Hc,ne_of_gt->Hn,lt_of_le_of_ne->Hv,lt_trans->Ig,add_le_add_left->Il,one_pos->Jh,lt_succ_self->Ka,eq_zero_of_not_pos->Lc,le_of_lt_succ->Lj,add_lt_of_lt_sub'->Ln,succ_pos->Lv,lt_or_ge->Lw,add_assoc->Mf,sub_lt->Mk,lt_of_le_of_lt->Nb,add_sub_cancel->Nd,pos_of_ne_zero->Ng,toDigits->No,lt_trichotomy->Ny,not_lt->Oc,le_add_left->Ps,add_comm->Qb,mod_lt->Qk,add_right_comm->Rb,lt_of_succ_lt->Sm,sub_pos_of_lt->Sn,min_self->TD,le_antisymm->Uy,min_eq_left->Vc,le_succ->Vp,add_le_of_le_sub'->Vv,le_of_sub_eq_zero->Vw,lt_sub_of_add_lt->Wn,add_le_add_right->Wp,mul_le_mul_right->Wr,add_sub_cancel'->Xm,le_of_eq->Yq,sub_self->Yr,lt_succ_of_lt->Zl,le_of_succ_le->Zo,le_of_not_lt->dL,not_lt_zero->Aa5,add_le_add->AaH
open Ne renaming symm->Fm
open Option renaming some->Ab,bind_eq_some_iff->Em,map_eq_some_iff->Gf,isSome_iff_exists->Mw,map_some->Pl,getD_some->Tp,isSome_some->Yc,getD_none->Zz,bind_some->wS,none->Ab0
open Option.some renaming inj->Dc
open Or renaming inr->f8,inl->AaL
open PyProof.Rows renaming wpS_bind->Ay,Keyed->Bf,wpS_pure->Bm,slot_tuple_getitem->Do,SortSt->Fa,wpS_forRange->Fe,seqObj->Gr,envOfC->Gx,wpS_mono->Hl,part_short->Ik,callWith_type1->Iw,wpS_modify->Jk,IntsAre->Kt,SortKind->Mv,wpS_get->Nn,AllBare->Og,callWith_builtin1->Ox,lt_int->Qf,entry_tuple_getitem->Qg,IsTup->Qm,slicePart_none->Qo,assignInOrder_cons->Qw,args_tuple_getitem->Qy,wpS_lift->Rt,subscriptTail_builtinR->Uq,isBoolOf->Uu,gallopOf->Uz,get?_update_seq->Va,tupleItemsOf_->Wz,Subscript_->WP,subscriptTail->Xa,assignInOrder_nil->Yu,tail_any->Aa2
open PyProof.Rows.F renaming plain_set_update_loop->Ir,entry_set_update_loop->Mu
open PyProof.Rows.IntsAre renaming int_at->AaJ
open PyProof.Rows.IsTup renaming new->Yv
open PyProof.Rows.SortSt renaming mk'->Cy
open PySem renaming Value->Ac,wpAny_bind->Ad,Addr->Af,Shared->Ag,wpAny_pure->Al,Str->An,wpAny->Ap,model->Au,Program->Be,Around->Bk,starEach->Bl,Heap->Bn,Expr->Bp,World->Br,Obj->Ch,mainGlobals->Cn,intKind->Ct,compareOp->Dh,wpAny_newObj_type->Dm,Comprehension->Dy,wpAny_field->Ed,binaryOp->Ee,wpAny_holding->Ef,wpAny_callSpecial?_slot->El,Pos->En,wpAny_call_entry->Eo,Scope->Eu,Stmt->Ey,FuncData->Fh,SetTable->Fi,cLine->Fo,foldedSetIterable->Fw,wpAny_setState_of->Fy,mem_of_lookup->Gh,bootBuiltins->Gm,wpAny_seqItems->Go,backTo->Gp,sizeLine_eq->Gq,assignEach->Gv,wpAny_rule->Gw,ofAClassStatement->He,cellsFrom->Ho,wpAny_mono->Hw,NameKind->HT,wpAny_pyIter_list->Ia,wpAny_forIn_list->Io,Env->Iu,wpAny_setField->Ix,codeAny->Ja,wpAny_pyIter_tuple->Jb,wpAny_setField_rec->Jc,sysModules->Jj,Sem->Jl,codeAny_builtin->Jm,Builtin->Jo,wpAny_askSetting->Jz,wpAny_typeOf->Kc,wpAny_Call_Name_kw->Kk,IsPair->Km,Model->Kq,letOwnedTupleGo->Kr,wpAny_attempt->Kx,attributeBase->La,call_meets->Lf,rawInt->Ly,swappedStores->Ma,swapsWithSole->Mb,behindInMarks->Mc,typeIs_str->Md,wpAny_passesOwn->Mp,sliceBounds->Mq,codeAny_mono->Nk,swapsWith->Nv,wpAny_storeSet_of->Nz,wpAny_standAt->Oh,BindsTo->Ol,getItem->On,hashByValue->Ot,codeAny_call_builtin->Pd,wpAny_updateSeq_pair->Pe,wpAny_execs_nil->Pg,wpAny_specialOf->Pm,pickOrder->Pp,pyNext->Py,IsPart->Pz,Tok->Qc,builtinsNs->Qe,recursionLimit->Qn,firstArgMember->Qq,IsZip->Qr,pyIter->Ri,wpAny_newFunctionEnv_cells->Rj,wpAny_of_eq->Rl,wpAny_sequenceKey->Rz,evalPart_none->Sa,callerA->Sb,standAt->Sc,noteFrame->Sd,wpAny_onRaise->Sf,setSearchFrom->Sk,plainId_quiet->Sl,wpAny_comprehension_free->Sz,noFill_tuple_add->Tj,wpAny_call->Tl,checkBuiltinCall->To,wpAny_isInstance->Tt,IsTupleKey->Tv,tupleKeyHash->TW,wpAny_getItem_str_slice->Uc,richCompare_meets_room->Um,wpAny_Call_method_late->Ut,codeAny_of_tree->Uv,wpAny_ite_split->Ux,tupleKind->Vg,PassesOwn->Vh,Arguments->Vi,codeAny_call_function->Vj,setFlight->Vl,builtinLookup_eq_fast->Vr,newFunctionEnv->We,isSubtype_type->Wh,assignInOrder->Wt,CmpOp->Wu,bindL->Ww,bindC->Wx,seq_tuple_add->Wy,evalPart_some->WF,valueAt->Xc,reduceHash->Xd,PlainAttrs->Xh,wpAny_setEntries_of->Xl,GenState->Xt,bindName->Xu,Result->Xv,setState->Xw,Within->Yg,concat_meets->Yi,wpAny_assign_Name->Yt,wpAny_truthy_bool->Yw,slot_list_getitem->Yz,list_append->Za,atKey->Zb,lastMarks->Zd,ClassData->Zf,pushCells->Zh,searchCouldBeSeen->Zk,wpAny_pyIter_slot->Zm,Ctx->Zp,wpAny_eqBool_int->Zt,wpAny_execs_cons->Zu,unaryOp->Zv,wpAny_Slice->Zx,seqIndex_of->Zy,wpAny_letGo->sB,wpAny_pyIter_zip->t0,setAdd->v6,bindArgs->Aa1,Operator->Aa4,compTurn->Aa7,call->AaC,isTrue->AaX
open PySem.Around renaming under_plainId->Jt,frames_deeper->Wj
open PySem.AutoSeq1 renaming sub_tuple_tuple->Sx
open PySem.Builtin.Frozenset renaming sizeOf->Te,updateFrom->AaE,newClass->AaN
open PySem.Builtin.Getset_descriptor renaming descrCheckInstance->Uh,descrNameAndClass->Ur,descrGetter->Xf,descrGet->Yn
open PySem.Builtin.List renaming listTooLong->Mz,listLengthHint->Qs,listExtendWith->Qt,listSameRef->Tf
open PySem.Builtin.ObjectAttr renaming bindTo->Se,dataDescriptor?->Ym,getOf->AaV,find->AaW
open PySem.Builtin.Slice renaming sliceAdjust->Gi,slicePlaces->Gj,sliceApplied->Jd,sliceFields->Ry
open PySem.Builtin.SmallTypes renaming nextOf->Dv,ownedTupleIsFree->Gs,ownedTupleHandOut->Ms
open PySem.Builtin.Str renaming strSliceIndices->Iy,occurrences->Nj,strSub->Rf,glued->Zr
open PySem.Builtin.Tuple renaming tupleExact->Ev,tupleHashOf->Hq,tupleItemsOf->Je,tupleCompareSizes->Om
open PySem.Calls renaming spliced_cons->Ht,spliced_nil->Lg,callWith_builtin->Od,evalArgs_plain->Pc,Constant_str->Qv,Name_function_global->Rh
open PySem.Challenge renaming pw_fewdistances_k95_lots_written_and_read->Pu,rw_fewdistances_k95_lots_written_and_read->Px
open PySem.Code renaming quiet_builtin->Ye,compLoop->AaS
open PySem.EntryCells renaming newEntry->Xe
open PySem.F renaming called_set->Gu,slot_tuple_iterator_next->Jf,slot_tuple_hash->Ki,args_tuple_add_2->My,entry_tuple_add->Ni,slot_list_count->Nl,slot_list_index->Nm,slot_tuple_add->Oa,slot_zip_next->Pk,slot_str_removeprefix->Pv,type_str_removeprefix->Pw,args_tuple_iterator_next_1->Qj,entry_tuple_iterator_next->Qp,args_str_split_2->Re,excBase_ValueError->Rk,slot_str_isdecimal->Rq,type_str_isdecimal->Rr,entry_str_split->Sr,slot_list_append->Tg,type_list_append->Th,slot_str_split->Tx,args_tuple_lt_2->Tz,attr_ValueError->T0,plain_list_iadd->Ua,plainAttrs_list->Ue,type_list_count->Uf,type_list_index->Ug,entry_tuple_lt->Uo,slot_str_split->Vd,plainAttrs_str->Ve,type_str_split->Vf,slot_tuple_lt->Vk,plain_set_new->Vq,slot_set_iter->Vs,slot_str_join->Vz,type_str_join->Wa,args_list_append_2->Wl,entry_list_append->Xb,slot_list_append->Yb,args_zip_next_1->Zg,entry_zip_next->sK
open PySem.Heap renaming get?_push_of_some->Aj,lt_size->Bh,get?_push_size->Bj,get?_update_other->Df,get?_update_self->Ek,size_push->Ew,SameBut->Gz,get?_none_of_le->Oy
open PySem.Heap.IsSliceOf renaming new->Ya
open PySem.Heap.SameBut renaming update->Hj,refl->Sg
open PySem.IsL renaming update->ZB
open PySem.MeetsSeq renaming list_index->AaR,EqGives->AaY
open PySem.NameKind renaming free->Hr,cell->Oq
open PySem.Obj renaming mapSeq->Fj,data_mapFields->Kl,mapFields->Kw,isFreed_of_fields->Li,cls_mapFields->Ze,putSet->AaD
open PySem.P renaming add_list->Tq
open PySem.SeqAt.EqAt renaming bool_bool->AaM,same->AaP
open PySem.SetTable renaming insertAt->Bv,below->Cd,sizeAbove->Et,grown->Hd,runEnd->Hm,insertAt_perm->Ip,fill->Mi,Probe->Nx,toList_insertAt->Ta,tooFull->Tu,laid->Xi,fits->Xj,has->Yo,layClean->Zj,slot->AaT
open PySem.SetTable.below renaming go->Zi
open PySem.SetTable.layClean renaming free->Iq
open PySem.SetTable.probe renaming go->Ll
open PySem.Shared renaming heap->Vn,TypeIs->Xk
open PySem.Str renaming ofString->Ga,length->Jw,empty->Rw
open PySem.StrLaws renaming partsBetween_eq->Np,partsFrom->Sw,glued_eq_join->Vy,subAt_one->Zq
open PySem.Unicode renaming isDecimal->Sv
open PySem.Value renaming none->De,ref->Dk,bool->Fu,type->Ji,int->Ru,notImplemented->Wk,builtin->Xg,str->Ys,isInt->Zs,isStrOf->AaO
open PySem.W renaming Frag->Ai,nsIn->Dr,kia_one->Eh,tabIn->Ej,keepIn->Ep,fnOf->Gn,exmOne->Ju,cellsFrom_some->Ks,kitOne->Lq,codeIn->Lr,hideAll->Mn,findIn->Nq,tabObj->Qu,callWith_K->Qz,methodObj->Rv,kitx_list->Rx,nsMap_none_of_in->Sy,instObj->Uk,lookIn->Wb,nsOkIn->Wc,hideAll_none->Wi,hideAll_get->Ws,mroIn->Wv,mg_of->Xn,of_hideAll->Xy,kitx_tuple->Xz,codeRec_of->XV,isNs_of_in->Yd,looks_findIn->Yl,specialIn->Yx,kitx_dict->Yy,plainGet->Zw,takesIn->Aa0,OpenLaw->Aa8,CodeHd->AaG,WalkO->AaU
open PySem.pickOrder renaming go->Yp
open Sum renaming inl->Ui,inr->Uj
open True renaming intro->Ld
open _root_ renaming List->Aa,Nat->Ah,Option->Ak,Int->Am,Bool->As,Array->Aw,if_pos->Ax,if_neg->Bb,of_decide_eq_true->Bz,decide_eq_true_eq->Cc,decide_eq_false->Co,decide_eq_true->Dl,if_false->Ds,if_true->Du,String->Eg,beq_self_eq_true->EQ,False->Fb,Decidable->Gg,or_false->Hk,of_decide_eq_false->Hu,decide_eq_false_iff_not->Ih,beq_eq_false_iff_ne->Jv,decide_true->Kb,decide_false->Kh,StateT->Lz,True->NE,Unit->Pa,beq_iff_eq->Qh,ne_true_of_eq_false->Ql,DecidableEq->Rg,decide_eq_decide->wT
open PySem PySem.Spec PyProof.Rows
local macro_rules|`(tactic|fin2)=>`(tactic|omega)
abbrev aa:=Aa (Af × Ch)
abbrev ae:=Ac->Ag->Prop
abbrev ag:=Aa Af
abbrev ah:=Aa Ac
abbrev ai:=An->Ak Ac
noncomputable section
theorem om {p:Prop}(h:p:=by fin2):p:=h
theorem li {p:Prop}(h:p:=by lia):p:=h
theorem kd {p:Prop}[Gg p](h:p:=by decide +kernel):p:=h
section
namespace _L
abbrev ci:=Sum Am An
def pT:ci->Ac->As
 |.inl k,v=>Zs k v
 |.inr x,v=>AaO x v
noncomputable def IM (w:Br):ci->Am
 |.inl k=>hashInt k
 |.inr x=>hashStr w x
theorem xB:∀ {k:ci} {v:Ac},pT k v=true->(∃ i t,k=Ui i/\v=Ru i t)\/(∃ x t,k=Uj x/\v=Ys x t)
 |.inl i,v,h=>by
  obtain⟨t,e⟩:=Value.isInt_shape (k:=i) (v:=v) h;exact .inl ⟨i,t,rfl,e⟩
 |.inr x,v,h=>by
  obtain⟨t,e⟩:=Value.isStrOf_shape (x:=x) (v:=v) h;exact .inr ⟨x,t,rfl,e⟩
theorem ZU (i:Am)(t:Qc):pT (.inl i) (.int i t)=true:=by simp[pT,Zs]
theorem ZV (x:An)(t:Qc):pT (.inr x) (.str x t)=true:=by simp[pT,AaO]
theorem L8 (a b:Am):decide ((Ui a:ci)=Ui b)=(a == b):=by
 by_cases e:a=b
 .subst e;simp
 .have h:¬ (Ui a:ci)=Ui b:=λq=>e (Sum.inl.inj q)
  rw[Co h];exact(Jv.mpr e).symm
theorem LB (a b:An):decide ((Uj a:ci)=Uj b)=decide (a=b):=by
 by_cases e:a=b
 .subst e;simp
 .have h:¬ (Uj a:ci)=Uj b:=λq=>e (Sum.inr.inj q)
  rw[Co h,Co e]
theorem L9 (a:Am)(b:An):decide ((Ui a:ci)=Uj b)=false:=Co (λq=>nomatch q)
theorem LA (a:An)(b:Am):decide ((Uj a:ci)=Ui b)=false:=Co (λq=>nomatch q)
def xF (prog:Be)(w:Br):PySem.KeyKind prog w ci where
 is:=pT
 hash:=IM w
 inj:=λv a b U Y=>by
  rcases xB U with⟨i,t,rfl,rfl⟩|⟨x,t,rfl,rfl⟩
  .rcases xB Y with⟨j,u,rfl,e⟩|⟨y,u,rfl,e⟩
   .injection e with Q _;rw[Q]
   .exact nomatch e
  .rcases xB Y with⟨j,u,rfl,e⟩|⟨y,u,rfl,e⟩
   .exact nomatch e
   .injection e with Q _;rw[Q]
 byValue:=λk v h=>by
  rcases xB h with⟨i,t,rfl,rfl⟩|⟨x,t,rfl,rfl⟩ <;> rfl
 pyHash:=λhv h=>by
  rcases xB hv with⟨i,t,rfl,rfl⟩|⟨x,t,rfl,rfl⟩
  .exact wpAny_pyHash_int h
  .exact wpAny_pyHash_str h
 eqBool:=λJ hv h=>by
  rcases xB J with⟨i,t,rfl,rfl⟩|⟨x,t,rfl,rfl⟩
  .rcases xB hv with⟨j,u,rfl,rfl⟩|⟨y,u,rfl,rfl⟩
   .rw[L8] at h;exact Zt h
   .rw[L9] at h;exact SeqAt.EqAt.int_str i t y u _ _ _ _ h
  .rcases xB hv with⟨j,u,rfl,rfl⟩|⟨y,u,rfl,rfl⟩
   .rw[LA] at h;exact SeqAt.EqAt.str_int x t j u _ _ _ _ h
   .rw[LB] at h;exact wpAny_eqBool_str h
 «strs»:=λk x t v h=>by
  rcases xB h with⟨i,u,rfl,e⟩|⟨y,u,rfl,e⟩
  .exact nomatch e
  .injection e with Q _
   subst Q;cases v <;> rfl
theorem eV (prog:Be)(w:Br)(i:Am)(t:Qc):(xF prog w).is (.inl i) (.int i t)=true:=ZU i t
theorem eW (prog:Be)(w:Br)(x:An)(t:Qc):(xF prog w).is (.inr x) (.str x t)=true:=ZV x t
end _L
namespace _L
inductive V where
 |non|bl (b:As)|int (i:Am)|str (x:An)|byt (b:Aw UInt8)|flt (b:UInt64)|ref (a:Af)|ty (n:Eg)
 deriving Rg
def qK:V->Ac->Prop
 |.non,u=>u=De
 |.bl b,u=>u=Fu b
 |.int i,u=>∃ t,u=Ru i t
 |.str x,u=>∃ t,u=Ys x t
 |.byt b,u=>∃ t,u=Value.bytes b t
 |.flt b,u=>∃ t,u=Value.float b t
 |.ref a,u=>u=Dk a
 |.ty n,u=>u=Ji n
abbrev qJ:Aa V->Aa Ac->Prop:=Paired qK
theorem qJ.length {xs:Aa V}{us:ah}(r:qJ xs us):xs.length=us.length:=Paired.length r
theorem qJ.get:∀ {xs:Aa V} {us:ah} {i:Ah} {x:V},qJ xs us->xs[i]? = Ab x->∃ u,us[i]? = Ab u/\qK x u
 |_,_,_,_,.nil,e=>by simp at e
 |_,_,0,_,.cons r _,e=>by simp at e;subst e;exact⟨_,rfl,r⟩
 |_,_,i+1,x,.cons _ t,e=>by
  obtain⟨u,Y,Q⟩:=qJ.get (i:=i) (x:=x) t (by simpa using e)
  exact⟨u,by simpa using Y,Q⟩
theorem qJ.set {x:V}{u:Ac}(r:qK x u):∀ {xs:Aa V} {us:ah} (i:Ah),qJ xs us->qJ (xs.set i x) (us.set i u)
 |_,_,_,.nil=>.nil
 |_,_,0,.cons _ t=>.cons r t
 |_,_,i+1,.cons q t=>.cons q (qJ.set r i t)
theorem qJ.append {xs ys:Aa V}{us Q:ah}(h:qJ xs us)(s:qJ ys Q):qJ (xs++ys) (us++Q):=by
 induction h with
 |nil=>exact s
 |cons r t Y=>exact .cons r Y
theorem qJ.take:∀ {xs:Aa V} {us:ah} (n:Ah),qJ xs us->qJ (xs.take n) (us.take n)
 |_,_,0,_=>.nil
 |_,_,_+1,.nil=>.nil
 |_,_,n+1,.cons r t=>.cons r (qJ.take n t)
theorem qJ.drop:∀ {xs:Aa V} {us:ah} (n:Ah),qJ xs us->qJ (xs.drop n) (us.drop n)
 |_,_,0,r=>r
 |_,_,_+1,.nil=>.nil
 |_,_,n+1,.cons _ t=>qJ.drop n t
def jF:Ak V->Ak Ac->Prop
 |some v,Ab u=>qK v u
 |none,none=>NE
 |_,_=>Fb
def KV {κ : Type}:Aa (κ × V)->Aa (κ × Ac)->Prop:=Paired λ(p:κ × V) (q:κ × Ac)=>p.1=q.1/\qK p.2 q.2
def kV:ci->V
 |.inl i=>.int i
 |.inr x=>.str x
inductive HO where
  |lst (xs:Aa V)
  |tup (xs:Aa V)
  |dK (kvs:Aa (ci × V))|dT (kvs:Aa (Aa ci × V))
  |set (S:Am->As) (n:Ah)
  |ins (C dx:Af) (fs:Aa (An × V))
  |own (x:Af)
  |xd (fs:Aa (An × V))
  |met (f x:Af)
  |rng (lo hi:Am)
  |frz (o:Ch) (u:HO)
  |tbl (ps:Aw Ac)
  |ext (φ : Bn->Prop)
abbrev Hp:=Af->Ak HO
noncomputable def cc (H:Hp)(a:Af)(o:HO):Hp:=λb=>if b=a then Ab o else H b
theorem zK {H:Hp}{a:Af}{o:HO}:cc H a o a=Ab o:=by unfold cc;rw[Ax rfl]
theorem qN {H:Hp}{a b:Af}{o:HO}(h:b≠a):cc H a o b=H b:=by unfold cc;rw[Bb h]
theorem HD {H:Hp}{a b:Af}{o u:HO}(h:H a=Ab o)(h':H b=Ab u)(d:o≠u):a≠b:=by
 intro e;subst e;rw[h] at h';exact d (Dc h')
theorem qX {H:Hp}{a b:Af}{o:HO}(h:H a=Ab o)(h':H b=none):a≠b:=by
 intro e;subst e;rw[h] at h';cases h'
section
variable (P:Be)(w:Br)
def zG (H:Hp)(h:Bn)(a:Af):HO->Prop
 |.lst Q=>Q.length<=sizeLine/\∃ (G:ah) (n:Ah),qJ Q G/\h.get? a=Ab { cls:=.type "list",data:=.seq G.toArray n }
 |.tup Q=>Q.length<=sizeLine/\∃ G:Aa Ac,qJ Q G/\Qm h a G.toArray
 |.dK J=>J.length<=sizeLine/\(a == Jj)=false/\∃ O,KV J O/\h.DictOf (xF P w) a O
 |.dT J=>J.length<=sizeLine/\(a == Jj)=false/\∃ Q:Aa (Aa ci × Af × Ac),
   Paired (λ(p:Aa ci × V) (q:Aa ci × Af × Ac)=>p.1=q.1/\H q.2.1=Ab (.tup (p.1.map kV))/\qK p.2 q.2.2) J Q /\
   ∃ o L A,h.get? a=Ab o/\o.ExactDict/\o.data=.dict L A/\L.toList=Q.map (entryOfKey (Vg (xF P w)))/\(Q.map (·.1)).Nodup
 |.set S n=>h.SetOf (Ct P w) a S n
 |.ins C N U=>H N=Ab (.own a)/\U.length<=1000/\N≠a/\h.get? a=Ab (Uk C N) /\
   ∃ Y,h.Ns1 N Y/\(∀ f,jF (U.lookup f) (Y f))/\Yg Y (U.map (·.1))
 |.own _=>∃ o,h.get? a=Ab o
 |.xd U=>∃ Y,h.Ns1 a Y/\∀ f,jF (U.lookup f) (Y f)
 |.rng lo E=>∃ t u v,h.get? a=Ab { cls:=.type "range",data:=.fields #[.int lo t,.int E u,.int 1 v] }
 |.frz o u=>h.get? a=Ab o/\zG H h a u
 |.tbl I=>h.get? a=Ab { cls:=.none,data:=.fields I }
 |.met f x=>h.get? a=Ab (Rv (.ref f) (.ref x))
 |.ext φ => φ h/\(∃ o,h.get? a=Ab o)/\∀ T B:Bn,φ T->(∀ o,T.get? a=Ab o->B.get? a=Ab o)->φ B
def gj (H:Hp)(h:Bn):Prop:=∀ a o,H a=Ab o->zG P w H h a o
end
section
variable {P:Be}{w:Br}{H H':Hp}{h h':Bn}{a:Af}{o:HO}
theorem zG.lt (x:zG P w H h a o):a<h.objs.size:=by
 cases o with
 |lst J=>obtain⟨_,_,_,_,e⟩:=x;exact Bh e
 |tup J=>obtain⟨_,_,_,p⟩:=x;exact p.lt
 |dK Q=>obtain⟨_,_,_,_,o,_,_,e,_⟩:=x;exact Bh e
 |dT Q=>obtain⟨_,_,_,_,o,_,_,e,_⟩:=x;exact Bh e
 |set S n=>obtain⟨o,_,_,_,e,_⟩:=x;exact Bh e
 |ins C N Y=>obtain⟨_,_,_,e,_⟩:=x;exact Bh e
 |own y=>obtain⟨_,e⟩:=x;exact Bh e
 |xd Y=>obtain⟨_,⟨_,_,_,e,_⟩,_⟩:=x;exact Bh e
 |rng lo U=>obtain⟨_,_,_,e⟩:=x;exact Bh e
 |frz O u=>obtain⟨e,_⟩:=x;exact Bh e
 |tbl G=>exact Bh (show h.get? a=Ab _ from x)
 |met f y=>exact Bh (show h.get? a=Ab _ from x)
 |ext φ => obtain⟨_,⟨_,e⟩,_⟩:=x;exact Bh e
theorem Paired.mapP {α β:Type}{F G:α->β->Prop}{Q:Aa α}{Y:Aa β}(h:Paired F Q Y)(f:∀ a b,F a b->G a b):Paired G Q Y:=by
 induction h with
 |nil=>exact .nil
 |cons r t J=>exact .cons (f _ _ r) J
theorem zG.stay (x:zG P w H h a o)(k:∀ b u,(b=a\/H b=Ab (.own a))->h.get? b=Ab u->h'.get? b=Ab u)
  (B:∀ b,H b=Ab (.own a)->H' b=Ab (.own a)) (E:∀ b xs,H b=Ab (.tup xs)->H' b=Ab (.tup xs)):zG P w H' h' a o:=by
 induction o with
 |lst xs=>obtain⟨z,U,n,r,e⟩:=x;exact⟨z,U,n,r,k _ _ (.inl rfl) e⟩
 |tup xs=>obtain⟨z,U,r,Q,e,c⟩:=x;exact⟨z,U,r,Q,k _ _ (.inl rfl) e,c⟩
 |dK I=>obtain⟨z,y,M,r,Q,Y,J,e,c⟩:=x;exact⟨z,y,M,r,Q,Y,J,k _ _ (.inl rfl) e,c⟩
 |dT I =>
  obtain⟨z,y,xs,r,Q,Y,J,e,c⟩:=x;exact⟨z,y,xs,Paired.mapP r λp q z=>⟨z.1,E _ _ z.2.1,z.2.2⟩,Q,Y,J,k _ _ (.inl rfl) e,c⟩
 |set S n=>obtain⟨Q,Y,J,t,e,c⟩:=x;exact⟨Q,Y,J,t,k _ _ (.inl rfl) e,c⟩
 |ins C g L =>
  obtain⟨d,z,j,e,G,⟨N,Y,J,T,c⟩,r⟩:=x;exact⟨B _ d,z,j,k _ _ (.inl rfl) e,G,⟨N,Y,J,k _ _ (.inr d) T,c⟩,r⟩
 |own y=>obtain⟨Q,e⟩:=x;exact⟨Q,k _ _ (.inl rfl) e⟩
 |xd L=>obtain⟨G,⟨N,Y,J,e,c⟩,r⟩:=x;exact⟨G,⟨N,Y,J,k _ _ (.inl rfl) e,c⟩,r⟩
 |rng lo l=>obtain⟨t,u,v,e⟩:=x;exact⟨t,u,v,k _ _ (.inl rfl) e⟩
 |frz Q u A=>obtain⟨e,q⟩:=x;exact⟨k _ _ (.inl rfl) e,A q⟩
 |tbl O =>
  have e:h.get? a=Ab { cls:=.none,data:=.fields O }:=x;show h'.get? a=Ab { cls:=.none,data:=.fields O };exact k a _ (.inl rfl) e
 |met f y =>
  have e:h.get? a=Ab (Rv (.ref f) (.ref y)):=x;show h'.get? a=Ab (Rv (.ref f) (.ref y));exact k a _ (.inl rfl) e
 |ext φ => obtain⟨p,⟨o,e⟩,st⟩:=x;exact⟨st _ _ p λo q=>k _ _ (.inl rfl) q,⟨o,k _ _ (.inl rfl) e⟩,st⟩
theorem gj.lt (x:gj P w H h)(e:H a=Ab o):a<h.objs.size:=(x a o e).lt
theorem gj.fresh (x:gj P w H h)(e:h.objs.size<=a):H a=none:=by
 cases q:H a with
 |none=>rfl
 |some u=>exact absurd (Az (x.lt q) e) (Fz _)
theorem gj.kept (x:gj P w H h)(k:∀ b u,h.get? b=Ab u->h'.get? b=Ab u):gj P w H h':=λa o e =>
 (x a o e).stay (λb u _ q=>k b u q) (λ_ q=>q) λ_ _ q=>q
theorem gj.laid (x:gj P w H h)(k:∀ b u,h.get? b=Ab u->h'.get? b=Ab u)(hp:h.objs.size<=a)(Q:zG P w (cc H a o) h' a o):gj P w (cc H a o) h':=λb u e=>by
 have J:=x.fresh hp;by_cases Y:b=a
 .subst Y;rw[zK] at e;cases e;exact Q
 .rw[qN Y] at e
  exact(x b u e).stay (λc v _ q=>k c v q) (λc q=>by rw[qN (qX q J)];exact q) λc U q=>by rw[qN (qX q J)];exact q
end
def Rd (H:Hp)(a:Af)(u:HO):Prop:=H a=Ab u\/∃ o,H a=Ab (.frz o u)
theorem Rd.of {H:Hp}{a:Af}{u:HO}(h:H a=Ab u):Rd H a u:=.inl h
theorem Rd.ok {P:Be}{w:Br}{H:Hp}{h:Bn}{a:Af}{u:HO}(r:Rd H a u)(x:gj P w H h):zG P w H h a u:=by
 rcases r with r|⟨o,r⟩
 .exact x a u r
 .obtain⟨_,q⟩:=x a _ r
  exact q
def vy:Ak HO->Prop
 |some (.lst _)=>NE
 |some (.dK _)=>NE
 |some (.dT _)=>NE
 |some (.set _ _)=>NE
 |some (.ins _ _ _)=>NE
 |some (.ext _)=>NE
 |_=>Fb
section
variable {P:Be}{w:Br}{H:Hp}{h h':Bn}{x e:Af}{o':HO}
theorem gj.write (ok:gj P w H h)(U:vy (H x))(B:e=x\/H e=Ab (.own x))(k:∀ b u,b≠e->h.get? b=Ab u->h'.get? b=Ab u)(C:∃ u,h'.get? e=Ab u)
  (O:zG P w (cc H x o') h' x o'):gj P w (cc H x o') h':=λb u q=>by
 have Y:∀ c y,H c=Ab (.own y)->c≠x:=λc y r z=>by subst z;rw[r] at U;exact U
 have J:∀ c N,H c=Ab (.tup N)->c≠x:=λc N r z=>by subst z;rw[r] at U;exact U
 by_cases G:b=x
 .subst G;rw[zK] at q;cases q;exact O
 .rw[qN G] at q
  by_cases Q:b=e
  .have L:H b=Ab (.own x):=by
    rcases B with z|z
    .exact absurd (Q.trans z) G
    .rw[Q];exact z
   rw[q] at L;cases L;obtain⟨v,hv⟩:=C;exact⟨v,by rw[Q];exact hv⟩
  .refine(ok b u q).stay (λc v hc r=>k c v ?_ r) (λc r=>by rw[qN (Y c b r)];exact r) λc N r=>by rw[qN (J c N r)];exact r
   rcases hc with rfl|hc
   .exact Q
   .rintro rfl
    rcases B with z|z
    .exact Y c b hc z
    .rw[hc] at z;cases z;exact G rfl
end
structure Un (fs ex:ag)(H H':Hp)(h h':Bn):Prop where
 keep:∀ b o,h.get? b=Ab o->H b=none->b ∉ fs->b ∉ ex->h'.get? b=Ab o
 slot:∀ b o,h.get? b=Ab o->H b=none->b∈fs->b ∉ ex->∃ sl,h'.get? b=Ab { o with slots:=sl }
 free:∀ b o,h.get? b=Ab o->H b=none->b ∉ ex->H' b=none
 there:∀ b o,h.get? b=Ab o->b ∉ ex->∃ o',h'.get? b=Ab o'
 tups:∀ b xs,H b=Ab (.tup xs)->H' b=Ab (.tup xs)
 frzs:∀ b o u,H b=Ab (.frz o u)->H' b=Ab (.frz o u)
 tbls:∀ b ps,H b=Ab (.tbl ps)->∃ more,H' b=Ab (.tbl (ps++more))
section
variable {fs G_ ex _h:ag}{H H1 H2:Hp}{h h1 h2 h':Bn}{a x e:Af}{o:HO}
theorem Un.any (u:Un fs ex H H1 h h1){b:Af}{Q:Ch}(q:h.get? b=Ab Q)(n:H b=none)(Y:b ∉ ex):∃ U,h1.get? b=Ab { Q with slots:=U }:=by
 by_cases J:b∈fs
 .exact u.slot b Q q n J Y
 .exact⟨Q.slots,u.keep b Q q n J Y⟩
theorem Un.trans (a:Un fs ex H H1 h h1)(b:Un fs ex H1 H2 h1 h2):Un fs ex H H2 h h2 where
 keep:=λc Q q n U Y=>b.keep c Q (a.keep c Q q n U Y) (a.free c Q q n Y) U Y
 slot:=λc Q q n U Y=>by
  obtain⟨E,J⟩:=a.slot c Q q n U Y;obtain⟨O,C⟩:=b.slot c _ J (a.free c Q q n Y) U Y;exact⟨O,C⟩
 free:=λc Q q n Y=>by
  obtain⟨N,J⟩:=a.there c Q q Y;exact b.free c N J (a.free c Q q n Y) Y
 there:=λc Q q Y=>by
  obtain⟨N,J⟩:=a.there c Q q Y;exact b.there c N J Y
 tups:=λc G q=>b.tups c G (a.tups c G q)
 frzs:=λc Q G q=>b.frzs c Q G (a.frzs c Q G q)
 tbls:=λc L q=>by
  obtain⟨B,J⟩:=a.tbls c L q;obtain⟨T,C⟩:=b.tbls c _ J;exact⟨B++T,by rw[C,Xx]⟩
theorem Un.kept (k:∀ b u,h.get? b=Ab u->h'.get? b=Ab u):Un fs ex H H h h':=
 ⟨λb Q q _ _ _=>k b Q q,λb Q q _ _ _=>⟨Q.slots,k b Q q⟩,λ_ _ _ n _=>n,λb Q q _=>⟨Q,k b Q q⟩,λ_ _ q=>q,λ_ _ _ q=>q,λ_ Y q=>⟨#[],by rw[q];simp⟩⟩
theorem Un.refl:Un fs ex H H h h:=Un.kept λ_ _ q=>q
theorem Un.laid (k:∀ b u,h.get? b=Ab u->h'.get? b=Ab u)(hp:h.objs.size<=a)(Q:H a=none):Un fs ex H (cc H a o) h h' where
 keep:=λb u q _ _ _=>k b u q
 slot:=λb u q _ _ _=>⟨u.slots,k b u q⟩
 free:=λb u q n _=>by rw[qN (Cp (Az (Bh q) hp))];exact n
 there:=λb u q _=>⟨u,k b u q⟩
 tups:=λb Y q=>by rw[qN (qX q Q)];exact q
 frzs:=λb u Y q=>by rw[qN (qX q Q)];exact q
 tbls:=λb J q=>⟨#[],by rw[qN (qX q Q),q];simp⟩
theorem Un.write (Y:vy (H x))(C:e=x\/H e=Ab (.own x))(k:∀ b u,b≠e->h.get? b=Ab u->h'.get? b=Ab u)(U:∃ u,h'.get? e=Ab u):Un fs ex H (cc H x o) h h':=by
 have N:∀ b,H b=none->b≠x:=λb n z=>by subst z;rw[n] at Y;exact Y
 have G:∀ b,H b=none->b≠e:=λb n z=>by
  subst z;rcases C with r|r
  .exact N b n r
  .rw[n] at r;cases r
 have J:∀ b u,H b=Ab u->¬ vy (Ab u)->b≠x:=λb u q O z=>by subst z;rw[q] at Y;exact O Y
 refine⟨λb u q n _ _=>k b u (G b n) q,λb u q n _ _=>⟨u.slots,k b u (G b n) q⟩,λb u q n _=>by rw[qN (N b n)];exact n,λb u q _=>?_,
  λb B q=>by rw[qN (J b _ q λz=>z)];exact q,λb u B q=>by rw[qN (J b _ q λz=>z)];exact q,λb L q=>⟨#[],by rw[qN (J b _ q λz=>z),q];simp⟩⟩
 by_cases Q:b=e
 .subst Q;exact U
 .exact⟨u,k b u Q q⟩
end
noncomputable def wo (h:Bn)(H:Hp):Aa Af:=(Cg h.objs.size).filter λa=>(H a).isSome
def g6 (h:Bn)(H:Hp):Bn:=Mn h (wo h H)
theorem ZM (h:Bn)(H:Hp):(g6 h H).objs.size=h.objs.size:=PySem.W.hideAll_size _ _
theorem V9 {h:Bn}{H:Hp}{b:Af}{o:Ch}(e:h.get? b=Ab o)(n:H b=none):(g6 h H).get? b=Ab o:=
 Ws _ e λQ=>by
  have q:(H b).isSome=true:=(Ul.mp Q).2;rw[n] at q;simp at q
theorem BQ {h:Bn}{H:Hp}{b:Af}{o:Ch}(e:(g6 h H).get? b=Ab o):h.get? b=Ab o/\H b=none:=by
 have Q:h.get? b=Ab o:=Xy (wo h H) e;refine⟨Q,?_⟩;cases q:H b with
 |none=>rfl
 |some x =>
  have Y:b∈wo h H:=Ul.mpr ⟨Ei.mpr (Bh Q),by simp[q]⟩
  have z:(g6 h H).get? b=none:=Wi (wo h H) Y;rw[z] at e;cases e
noncomputable def KN (g h:Bn)(L:Af):Aa (Af × Ch):=(Cg h.objs.size).filterMap λa=>if a=L\/(g.get? a).isSome=true then none else (h.get? a).map λo=>(a,o)
def qI (g h:Bn)(L d:Af):Aa (Af × Ch):=(KN g h L).filter λp=>decide (p.1≠d)
end _L
namespace _L
variable {ch:ag}{E:ae}{t':Ah}{g':Aw Xt}{d':Drawn}{M:Kq}{Q:Pa->Ag->Prop}
noncomputable def yM:Aa An:=["law","_law_right","by_hull","pair_bound","hub","greatest_often"]
def MD (J:ai)(h:Bn):Prop:=∃ Y o,J "__builtins__" = Ab (.ref Y)/\Y≠Qe/\h.get? Y=Ab o/\o.cls=.type "module" /\ o.dict=Ab Qe/\o.data=.plain
structure Mod (K:Ai)(mg:ai)(base:Bn):Prop where
 kin:K.In base
 glob:base.Ns Cn mg
 blt:∃ mb,base.Ns Qe mb/\∀ x:An,x ≠ "__name__" -> mb x=Gm x
 nolimit:base.NoLimit
 bm:MD mg base
 code:∀ x∈yM,∀ c T,Ej K x=Ab (c,T)->AaG base c T
 inj:∀ x∈yM,∀ y∈yM,∀ c d T,Ej K x=Ab (c,T)->Ej K y=Ab (d,T)->x=y
structure Cx where
 prog:Be
 w:Br
 K:Ai
 mg:An->Ak Ac
 base:Bn
 A:Bk
 N:Aa An
 s₀:Ag
 H₀:Hp
 env:Iu
 outer:Aa Iu
 stack:Aa Iu
 ex:Aa Af
 fn:An->As
 calm:As
 pn:Aa (Af × Ch)
 xe:Ac->Ag->Prop
noncomputable def gx (l:Aa Iu):Aa Af:=l.filterMap (·.frame)
abbrev Cx.fs (X:Cx):Aa Af:=gx X.outer
def qv (Y:Eu)(x:An):Prop:=Y.names.lookup x=Ab .local \/ Y.names.lookup x=Ab .cell\/Y.names.lookup x=Ab .free
def Loc (Y:Eu)(x:An):Prop:=Y.names.lookup x=Ab .local \/ Y.names.lookup x=Ab .cell
def MG (ak:Iu)(h:Bn)(m:ai)(x:An)(u:Ac):Prop:=
 (ak.kindOf x=Ab .local /\ m x=Ab u)\/((ak.kindOf x=Ab .cell\/ak.kindOf x=Ab .free)/\∃ c,ak.cells.lookup x=Ab c/\h.IsCell c (Ab u))
structure Cx.Ok (X:Cx):Prop where
 mod:Mod X.K X.mg X.base
 kind:X.env.scope.kind=.function
 glob:X.env.globals=Cn
 blt:X.env.builtins=Qe
 above:X.s₀.heap.objs.size<=X.env.locals
 inj:∀ x y c,X.env.cells.lookup x=Ab c->X.env.cells.lookup y=Ab c->x=y
 has:∀ x,(X.env.kindOf x=Ab .cell\/X.env.kindOf x=Ab .free)->∃ c,X.env.cells.lookup x=Ab c
 cab:∀ x c,X.fn x=true->X.env.cells.lookup x=Ab c->X.s₀.heap.objs.size<=c
 hd:X.calm=true->X.A.handled=none
 frames:X.A.frames=Ab X.stack
 stk:X.stack=X.outer\/(X.stack=X.env::X.outer/\X.env.frame=Ab X.env.locals)
 exf:∀ b∈X.ex,b≠X.env.locals/\∀ x c,X.env.cells.lookup x=Ab c->c≠b
 bs:∀ b o,X.base.get? b=Ab o->X.s₀.heap.get? b=Ab o/\X.H₀ b=none
 bsz:X.base.objs.size<=X.s₀.heap.objs.size
 noex:∀ b o,X.base.get? b=Ab o->b ∉ X.ex
 exfs:∀ b∈X.ex,b ∉ X.fs
 funs:X.s₀.heap.FunFrames X.base X.outer
 frf:∀ b∈X.fs,X.H₀ b=none
structure Inv (X:Cx)(pins:aa)(σ : Aa (Ak V))(H:Hp)(s:Ag):Prop where
 ok:X.Ok
 os:s.os=X.s₀.os
 bare:Og s.gens
 base:Un X.fs X.ex X.H₀ H X.s₀.heap s.heap
 loc:∃ m,s.heap.Ns X.env.locals m/\∀ (i:Ah) (x:An) (v:V),X.N[i]? = Ab x->σ[i]? = Ab (Ab v)->qv X.env.scope x->∃ u,qK v u/\MG X.env s.heap m x u
 cell:∀ x c,X.env.cells.lookup x=Ab c->∃ v,s.heap.IsCell c v
 free:H X.env.locals=none
 freeC:∀ x c,X.env.cells.lookup x=Ab c->H c=none
 pin:∀ p∈X.pn++pins,s.heap.get? p.1=Ab p.2/\H p.1=none/\p.1≠X.env.locals/\p.1 ∉ X.fs/\∀ v,p.2.data≠.cell v
 hok:gj X.prog X.w H s.heap
 len:σ.length=X.N.length
section
variable {X:Cx}{aj:aa}{σ : Aa (Ak V)}{H H':Hp}{s:Ag}{h':Bn}
theorem Cx.Ok.nofr (ok:X.Ok){b:Af}{o:Ch}(e:X.base.get? b=Ab o):b ∉ X.fs:=λY=>by
 have:=(ok.funs.mem Y).1;rw[e] at this;cases this
theorem Inv.bs (I:Inv X aj σ H s):∀ b o,X.base.get? b=Ab o->s.heap.get? b=Ab o/\H b=none:=λb o e =>
 ⟨I.base.keep b o (I.ok.bs b o e).1 (I.ok.bs b o e).2 (I.ok.nofr e) (I.ok.noex b o e),I.base.free b o (I.ok.bs b o e).1 (I.ok.bs b o e).2 (I.ok.noex b o e)⟩
theorem Inv.bk (I:Inv X aj σ H s):∀ b o,X.base.get? b=Ab o->s.heap.get? b=Ab o:=λb o e=>(I.bs b o e).1
theorem Inv.mod (I:Inv X aj σ H s):Mod X.K X.mg X.base:=I.ok.mod
theorem Inv.kIn (I:Inv X aj σ H s):X.K.In s.heap:=I.ok.mod.kin.keeps I.bk
theorem Inv.nolimit (I:Inv X aj σ H s):s.heap.NoLimit:=I.ok.mod.nolimit.keeps I.bk
theorem Inv.lt (I:Inv X aj σ H s):X.env.locals<s.heap.objs.size:=let ⟨_,Y,_⟩:=I.loc;Y.lt
theorem Inv.sz (I:Inv X aj σ H s):X.s₀.heap.objs.size<=s.heap.objs.size:=Bq I.ok.above (Fc I.lt)
theorem Inv.nofs (I:Inv X aj σ H s){a:Af}(h:s.heap.objs.size<=a):a ∉ X.fs:=λJ=>by
 obtain⟨_,o,Y,_⟩:=I.ok.funs.mem J;exact absurd (Az (Bh Y) (Bq I.sz h)) (Fz _)
theorem Inv.cne (I:Inv X aj σ H s):∀ x c,X.env.cells.lookup x=Ab c->c≠X.env.locals:=λx c e z=>by
 obtain⟨v,o,G,U⟩:=I.cell x c e;obtain⟨m,⟨O,N,C,J,Y,_⟩,_⟩:=I.loc;rw[z,J] at G;cases G;rw[Y] at U;cases U
theorem Inv.funs (I:Inv X aj σ H s):s.heap.FunFrames X.base X.outer:=by
 have U:∀ (l:Aa Iu),(∀ b∈gx l,b∈X.fs)->X.s₀.heap.FunFrames X.base l->s.heap.FunFrames X.base l:=by
  intro l
  induction l with
  |nil=>intro _ _;trivial
  |cons y r B =>
   intro N w;obtain⟨j,⟨L,o,Y,A,C,O⟩,T⟩:=w;have J:L∈X.fs:=N L (by unfold gx;rw[Fv,Y];exact Cq)
   obtain⟨k,e⟩:=I.base.slot L o C (I.ok.frf L J) J λz=>I.ok.exfs L z J;exact⟨j,⟨L,_,Y,A,e,O⟩,B (λb G=>N b (by unfold gx;rw[Fv,Y];exact Bt _ G)) T⟩
 exact U X.outer (λ_ G=>G) I.ok.funs
theorem Inv.stack (I:Inv X aj σ H s):s.heap.FunFrames X.base X.stack:=by
 rcases I.ok.stk with e|⟨e,Y⟩
 .rw[e];exact I.funs
 .rw[e]
  obtain⟨m,J,_⟩:=I.loc;refine .cons (by rw[I.ok.kind];decide) Y J ?_ I.funs
  exact Oy (Bq I.ok.bsz I.ok.above)
theorem Inv.stkSub (I:Inv X aj σ H s):∀ b∈gx X.stack,b∈X.env.locals::X.fs:=λb Y=>by
 rcases I.ok.stk with e|⟨e,J⟩
 .rw[e] at Y;exact Bt _ Y
 .rw[e] at Y
  unfold gx at Y;rw[Fv,J] at Y;exact Y
theorem Inv.stkFree (I:Inv X aj σ H s):∀ b∈gx X.stack,H b=none:=λb hb=>by
 rcases AT.mp (I.stkSub b hb) with e|hb
 .rw[e];exact I.free
 .obtain⟨_,o,Y,_⟩:=I.ok.funs.mem hb
  exact I.base.free b o Y (I.ok.frf b hb) λz=>I.ok.exfs b z hb
theorem Inv.step {g':Aw Xt}{t':Ah}{d':Drawn}(I:Inv X aj σ H s)
  (N:∀ b∈ch,(b∈X.ex\/X.s₀.heap.objs.size<=b)/\b≠X.env.locals/\(∀ x c,X.env.cells.lookup x=Ab c->c≠b)/\∀ p∈X.pn++aj,p.1≠b)
  (O:∀ b o,b≠X.env.locals->b ∉ X.fs->b ∉ ch->s.heap.get? b=Ab o->H b=none->h'.get? b=Ab o)
  (slot:∀ b o,b≠X.env.locals->b∈X.fs->b ∉ ch->s.heap.get? b=Ab o->H b=none->∃ a,h'.get? b=Ab { o with slots:=a }) (J:∀ b o,b ∉ ch->s.heap.get? b=Ab o->H b=none->H' b=none)
  (L:∀ b o,b ∉ ch->s.heap.get? b=Ab o->∃ o',h'.get? b=Ab o')
  (f:∀ b xs,H b=Ab (.tup xs)->H' b=Ab (.tup xs)) (g:∀ b o u,H b=Ab (.frz o u)->H' b=Ab (.frz o u)) (j:∀ b t,H b=Ab (.tbl t)->∃ ge,H' b=Ab (.tbl (t++ge)))
  (ns:∀ m,s.heap.Ns X.env.locals m->h'.Ns X.env.locals m) (h:gj X.prog X.w H' h') (hg:Og g') :
  Inv X aj σ H' { s with heap:=h',gens:=g',drawn:=d',toks:=t' }:=by
 have w:∀ b o,X.s₀.heap.get? b=Ab o->b≠X.env.locals:=λb o e=>Cp (Az (Bh e) I.ok.above);have B:∀ b o,X.s₀.heap.get? b=Ab o->b ∉ X.ex->b ∉ ch:=λb o e Y T=>by
  rcases (N b T).1 with z|z
  .exact Y z
  .exact absurd (Az (Bh e) z) (Fz _)
 have G:∀ x c,X.env.cells.lookup x=Ab c->∀ v,s.heap.IsCell c v->h'.IsCell c v:=λx c e v ⟨o,A,hd⟩=>by
  have U:c ∉ ch:=λz=>(N c z).2.2.1 x c e rfl;by_cases hc:c∈X.fs
  .obtain⟨a,q⟩:=slot c o (I.cne x c e) hc U A (I.freeC x c e)
   exact⟨_,q,hd⟩
  .exact⟨o,O c o (I.cne x c e) hc U A (I.freeC x c e),hd⟩
 refine⟨I.ok,I.os,hg,⟨λb o e n T Y=>?_,λb o e n T Y=>?_,λb o e n Y=>?_,λb o e Y=>?_,λb xs e=>f b xs (I.base.tups b xs e),λb o xs e=>g b o xs (I.base.frzs b o xs e),λb t e=>?_⟩,?_,λx c e=>?_,?_,λx c e=>?_,λp hp=>?_,h,I.len⟩
 .exact O b o (w b o e) T (B b o e Y) (I.base.keep b o e n T Y) (I.base.free b o e n Y)
 .obtain⟨a,C⟩:=I.base.slot b o e n T Y
  obtain⟨zb,y⟩:=slot b _ (w b o e) T (B b o e Y) C (I.base.free b o e n Y);exact⟨zb,y⟩
 .obtain⟨o',C⟩:=I.base.there b o e Y
  exact J b o' (B b o e Y) C (I.base.free b o e n Y)
 .obtain⟨o',C⟩:=I.base.there b o e Y
  exact L b o' (B b o e Y) C
 .obtain⟨m1,C⟩:=I.base.tbls b t e
  obtain⟨m2,y⟩:=j b _ C;exact⟨m1++m2,by rw[y,Xx]⟩
 .obtain⟨m,hn,hl⟩:=I.loc
  refine⟨m,ns m hn,λi x v C y e3=>?_⟩;obtain⟨u,r,l⟩:=hl i x v C y e3;refine⟨u,r,?_⟩;rcases l with l|⟨k,c,e,z⟩
  .exact .inl l
  .exact .inr ⟨k,c,e,G x c e _ z⟩
 .obtain⟨v,z⟩:=I.cell x c e
  exact⟨v,G x c e v z⟩
 .obtain⟨m,⟨o,_,_,A,_⟩,_⟩:=I.loc
  exact J _ o (λz=>(N _ z).2.1 rfl) A I.free
 .obtain⟨v,o,A,hd⟩:=I.cell x c e
  exact J c o (λz=>(N c z).2.2.1 x c e rfl) A (I.freeC x c e)
 .obtain⟨e,n,ne,nf,d⟩:=I.pin p hp
  have U:p.1 ∉ ch:=λz=>(N p.1 z).2.2.2 p hp rfl;exact⟨O p.1 p.2 ne nf U e n,J p.1 p.2 U e n,ne,nf,d⟩
theorem Inv.un {t':Ah}(I:Inv X aj σ H s)(u:Un X.fs [] H H' s.heap h')(G:gj X.prog X.w H' h'):Inv X aj σ H' { s with heap:=h',toks:=t' }:=by
 obtain⟨m,⟨o,w,A,N,r⟩,_⟩:=id I.loc;obtain⟨j,B⟩:=u.any N I.free (by simp)
 exact I.step (g':=s.gens) (d':=s.drawn) (ch:=[]) (λ_ z=>nomatch z) (λb o _ U _ e n=>u.keep b o e n U (by simp)) (λb o _ U _ e n=>u.slot b o e n U (by simp)) (λb o _ e n=>u.free b o e n (by simp)) (λb o _ e=>u.there b o e (by simp)) u.tups u.frzs u.tbls (λT O=>by
  obtain⟨y,L,J,Y,C⟩:=O;rw[N] at Y;cases Y;exact⟨_,L,J,B,C⟩) G I.bare
theorem Inv.call {t':Ah}{d':Drawn}(I:Inv X aj σ H s)(u:Un (gx X.stack) ch H H' s.heap h')(G:gj X.prog X.w H' h')(L:Og g')
  (U:∀ b∈ch,(b∈X.ex\/X.s₀.heap.objs.size<=b)/\b≠X.env.locals/\(∀ x c,X.env.cells.lookup x=Ab c->c≠b)/\∀ p∈X.pn++aj,p.1≠b) :
  Inv X aj σ H' { s with heap:=h',gens:=g',drawn:=d',toks:=t' }:=by
 obtain⟨m,⟨o,y,l,C,r⟩,_⟩:=id I.loc;obtain⟨k,O⟩:=u.any C I.free λz=>(U _ z).2.1 rfl;exact I.step (ch:=ch) U (λb o O A Y e n=>u.keep b o e n (λz=>(AT.mp (I.stkSub b z)).elim O A) Y) (λb o _ _ Y e n=>u.any e n Y) (λb o Y e n=>u.free b o e n Y) (λb o Y e=>u.there b o e Y) u.tups u.frzs u.tbls (λj T=>by
  obtain⟨q,w,N,J,B⟩:=T;rw[C] at J;cases J;exact⟨_,w,N,O,B⟩) G L
theorem Inv.turned {t':Ah}{it:Af}(I:Inv X aj σ H s)(k:∀ b o,b≠it->s.heap.get? b=Ab o->h'.get? b=Ab o)(C:H it=none)(U:it≠X.env.locals)
  (h1:it∈X.ex\/X.s₀.heap.objs.size<=it) (h2:∀ x c,X.env.cells.lookup x=Ab c->c≠it) (h3:∀ p∈X.pn++aj,p.1≠it):Inv X aj σ H { s with heap:=h',toks:=t' }:=by
 have J:∀ b u,H b=Ab u->b≠it:=λb u e z=>by rw[z,C] at e;cases e
 refine I.step (g':=s.gens) (d':=s.drawn) (ch:=[it]) (λb B=>?_) (λb o _ _ Y e _=>k b o (λz=>Y (by simp[z])) e) (λb o _ _ Y e _=>⟨o.slots,k b o (λz=>Y (by simp[z])) e⟩) (λ_ _ _ _ n=>n)
  (λb o Y e=>⟨o,k b o (λz=>Y (by simp[z])) e⟩) (λ_ _ e=>e) (λ_ _ _ e=>e) (λb T e=>⟨#[],by rw[e];simp⟩) (λm N=>?_) (λb u e=>?_) I.bare
 .have e:b=it:=by simpa using B
  subst e;exact⟨h1,U,h2,h3⟩
 .obtain⟨o,L,O,G,r⟩:=N
  exact⟨o,L,O,k _ o (Fm U) G,r⟩
 .refine(I.hok b u e).stay (λc v Y q=>k c v ?_ q) (λ_ q=>q) λ_ _ q=>q
  rcases Y with z|z
  .rw[z];exact J b u e
  .exact J c _ z
theorem Inv.tok (I:Inv X aj σ H s)(t:Ah):Inv X aj σ H { s with toks:=t }:=I.un (h':=s.heap) (t':=t) Un.refl I.hok
theorem Inv.kept {t':Ah}(I:Inv X aj σ H s)(k:∀ b u,s.heap.get? b=Ab u->h'.get? b=Ab u):Inv X aj σ H { s with heap:=h',toks:=t' }:=I.un (Un.kept k) (I.hok.kept k)
theorem Inv.laid {a:Af}{o:HO}{t':Ah}(I:Inv X aj σ H s)(k:∀ b u,s.heap.get? b=Ab u->h'.get? b=Ab u)(hp:s.heap.objs.size<=a)(Y:zG X.prog X.w (cc H a o) h' a o) :
  Inv X aj σ (cc H a o) { s with heap:=h',toks:=t' }:=I.un (Un.laid k hp (I.hok.fresh hp)) (I.hok.laid k hp Y)
theorem Inv.write {x e:Af}{o:HO}{t':Ah}(I:Inv X aj σ H s)(G:vy (H x))(U:e=x\/H e=Ab (.own x))(k:∀ b u,b≠e->s.heap.get? b=Ab u->h'.get? b=Ab u)(Y:∃ u,h'.get? e=Ab u)
  (J:zG X.prog X.w (cc H x o) h' x o):Inv X aj σ (cc H x o) { s with heap:=h',toks:=t' }:=I.un (Un.write G U k Y) (I.hok.write G U k Y J)
theorem Inv.pins_of {Y:aa}(I:Inv X aj σ H s)(h:∀ p∈Y,s.heap.get? p.1=Ab p.2/\H p.1=none/\p.1≠X.env.locals/\p.1 ∉ X.fs/\∀ v,p.2.data≠.cell v):Inv X Y σ H s:=
 ⟨I.ok,I.os,I.bare,I.base,I.loc,I.cell,I.free,I.freeC,λp J=>(Bw.mp J).elim (λz=>I.pin p (Dq _ z)) (h p),I.hok,I.len⟩
theorem fD {N:Aa An}(U:N.Nodup){i j:Ah}{x:An}(a:N[i]? = Ab x)(b:N[j]? = Ab x):i=j:=by
 obtain⟨O,J⟩:=Ce.mp a;obtain⟨G,Y⟩:=Ce.mp b;exact(Ti U).mp (J.trans Y.symm)
theorem lU {A:Bk}{i:Ah}{x:An}{v:V}{u:Ac}(I:Inv X aj σ H s)(hN:X.N.Nodup)(hi:X.N[i]? = Ab x)(G:Loc X.env.scope x)(r:qK v u)
  (h:∀ s',Inv X aj (σ.set i (Ab v)) H s'->(∃ a,Gz a s.heap s'.heap/\(a=X.env.locals\/X.env.cells.lookup x=Ab a))->Q () s') (hf:X.fn x=true\/X.env.scope.names.lookup x=Ab .local:=by first|exact .inl rfl|exact .inr rfl|assumption):Ap M A (storeName X.env x u) Q E s:=by
 obtain⟨m,hn,hl⟩:=id I.loc;have g:(X.env.scope.kind == .class||(X.env.scope.kind == .module&&X.env.locals != X.env.globals))=false:=by rw[I.ok.kind];rfl
 have C:i<σ.length:=by rw[I.len];exact(Ce.mp hi).1
 have T:=I.cne;have U:∀ {a:Af} {h':Bn},(∃ o,s.heap.get? a=Ab o/\H a=none)->Gz a s.heap h'->gj X.prog X.w H h':=λ{a h'} ha Y b ob e=>by
  obtain⟨_,_,N⟩:=ha;refine(I.hok b ob e).stay (λc w' hc q=>(Y.2 c ?_).trans q) (λ_ q=>q) λ_ _ q=>q;rintro rfl;rcases hc with rfl|hc
  .rw[N] at e;cases e
  .rw[N] at hc;cases hc
 rcases G with hk|hk
 .refine wpAny_storeName_local hk hn (λh' zl Y=>?_) g
  obtain⟨oL,_,_,zc,_⟩:=id hn;refine h _ ⟨I.ok,I.os,I.bare,⟨λb o e n B G=>?_,λb o e n B G=>?_,I.base.free,λb o e G=>?_,I.base.tups,I.base.frzs,I.base.tbls⟩,⟨_,zl,λj y v' J O e3=>?_⟩,λy c e=>?_,I.free,I.freeC,λp hp=>?_,U ⟨oL,zc,I.free⟩ Y,by simpa using I.len⟩ ⟨_,Y,.inl rfl⟩
  .exact(Y.2 b (Cp (Az (Bh e) I.ok.above))).trans (I.base.keep b o e n B G)
  .obtain⟨sl,J⟩:=I.base.slot b o e n B G
   exact⟨sl,(Y.2 b (Cp (Az (Bh e) I.ok.above))).trans J⟩
  .obtain⟨o',J⟩:=I.base.there b o e G
   exact⟨o',(Y.2 b (Cp (Az (Bh e) I.ok.above))).trans J⟩
  .by_cases L:j=i
   .subst L
    rw[hi] at J;cases J;rw[Fn C] at O;cases O;exact⟨u,r,.inl ⟨hk,by simp⟩⟩
   .rw[Er (Fm L)] at O
    obtain⟨u',r',q⟩:=hl j y v' J O e3;refine⟨u',r',?_⟩;rcases q with⟨k,e⟩|⟨k,c,e,z⟩
    .refine .inl ⟨k,?_⟩
     have:y≠x:=λe=>L (fD hN J (e▸hi));simp[this,e]
    .exact .inr ⟨k,c,e,z.sameBut Y (T y c e)⟩
  .obtain⟨w',z⟩:=I.cell y c e
   exact⟨w',z.sameBut Y (T y c e)⟩
  .obtain⟨e,n,ne,nf,d⟩:=I.pin p hp
   exact⟨(Y.2 p.1 ne).trans e,n,ne,nf,d⟩
 .have w:X.fn x=true:=by
   rcases hf with z|z
   .exact z
   .rw[z] at hk;cases hk
  obtain⟨c,hc⟩:=I.ok.has x (.inl hk);obtain⟨w',z⟩:=I.cell x c hc;refine wpAny_storeName_cell I.ok.kind hk hc z (λh' t Y=>?_);obtain⟨oc,l,zb⟩:=id z;refine h { s with heap:=h' } ⟨I.ok,I.os,I.bare,⟨λb o e n B G=>?_,λb o e n B G=>?_,I.base.free,λb o e G=>?_,I.base.tups,I.base.frzs,I.base.tbls⟩,⟨m,hn.sameBut Y (Fm (T x c hc)),λj y v' J O e3=>?_⟩,λy c' e=>?_,I.free,I.freeC,λp hp=>?_,U ⟨oc,l,I.freeC x c hc⟩ Y,by simpa using I.len⟩ ⟨c,Y,.inr hc⟩
  .exact(Y.2 b (Cp (Az (Bh e) (I.ok.cab x c w hc)))).trans (I.base.keep b o e n B G)
  .obtain⟨sl,J⟩:=I.base.slot b o e n B G
   exact⟨sl,(Y.2 b (Cp (Az (Bh e) (I.ok.cab x c w hc)))).trans J⟩
  .obtain⟨o',J⟩:=I.base.there b o e G
   exact⟨o',(Y.2 b (Cp (Az (Bh e) (I.ok.cab x c w hc)))).trans J⟩
  .by_cases L:j=i
   .subst L
    rw[hi] at J;cases J;rw[Fn C] at O;cases O;exact⟨u,r,.inr ⟨.inl hk,c,hc,t⟩⟩
   .rw[Er (Fm L)] at O
    obtain⟨u',r',q⟩:=hl j y v' J O e3;refine⟨u',r',?_⟩;rcases q with q|⟨k,c',e,z'⟩
    .exact .inl q
    .refine .inr ⟨k,c',e,z'.sameBut Y ?_⟩
     rintro rfl;exact L (fD hN J (I.ok.inj _ _ _ e hc▸hi))
  .by_cases f:c'=c
   .subst f;exact⟨_,t⟩
   .obtain⟨w2,z2⟩:=I.cell y c' e
    exact⟨w2,z2.sameBut Y f⟩
  .obtain⟨e,n,ne,nf,d⟩:=I.pin p hp
   refine⟨(Y.2 p.1 ?_).trans e,n,ne,nf,d⟩;intro q;rw[q,l] at e;have q':oc=p.2:=Dc e;exact d w' (by rw[<- q'];exact zb)
theorem uO {A:Bk}{i:Ah}{x:An}{v:V}{u:Ac}(I:Inv X aj σ H s)(G:X.N.Nodup)(hi:X.N[i]? = Ab x)(J:Loc X.env.scope x)(r:qK v u)
  (h:∀ s',Inv X aj (σ.set i (Ab v)) H s'->Q () s') (U:X.fn x=true\/X.env.scope.names.lookup x=Ab .local:=by first|exact .inl rfl|exact .inr rfl|assumption):Ap M A (storeName X.env x u) Q E s:=
 lU I G hi J r (λs' Y _=>h s' Y) U
theorem Inv.call' {s':Ag}(I:Inv X aj σ H s)(U:s'.os=s.os)(u:Un (gx X.stack) ch H H' s.heap s'.heap)(J:gj X.prog X.w H' s'.heap)(N:Og s'.gens)
  (Y:∀ b∈ch,(b∈X.ex\/X.s₀.heap.objs.size<=b)/\b≠X.env.locals/\(∀ x c,X.env.cells.lookup x=Ab c->c≠b)/\∀ p∈X.pn++aj,p.1≠b):Inv X aj σ H' s':=by
 obtain⟨h',g',d',t',G⟩:=s';have e:G=s.os:=U;subst e;exact I.call (g':=g') (t':=t') (d':=d') u J N Y
end
abbrev XK:=Ac->Ak Af->Hp->Prop
abbrev St:=Aa (Ak V)
abbrev VK:=V->Hp->Prop
abbrev TE:=St->Hp->VK->Prop
abbrev TT:=St->Hp->(As->Hp->Prop)->Prop
abbrev TA:=St->Hp->(Aa V->Hp->Prop)->Prop
structure Ends where
 nx:St->Hp->Prop
 rt:VK
 bk:St->Hp->Prop:=λ_ _=>Fb
 ct:St->Hp->Prop:=λ_ _=>Fb
abbrev TS:=Ends->St->Hp->Prop
inductive EP (X:Cx)(pins:aa)(σ : St)(Q:VK)(u:Ac)(s':Ag):Prop
 |mk (v:V) (H':Hp) (I:Inv X pins σ H' s') (r:qK v u) (q:Q v H'):EP X pins σ Q u s'
inductive TP (X:Cx)(pins:aa)(σ : St)(Q:As->Hp->Prop)(b:As)(s':Ag):Prop
 |mk (H':Hp) (I:Inv X pins σ H' s') (q:Q b H'):TP X pins σ Q b s'
inductive AP (X:Cx)(pins:aa)(σ : St)(Q:Aa V->Hp->Prop)(us:ah)(s':Ag):Prop
 |mk (vs:Aa V) (H':Hp) (I:Inv X pins σ H' s') (r:qJ vs us) (q:Q vs H'):AP X pins σ Q us s'
def SP (X:Cx)(aj:aa)(D:Ends)(f:Flow)(s':Ag):Prop:=
 match f with
 |.next=>∃ Y J,Inv X aj Y J s'/\D.nx Y J
 |.brk=>∃ Y J,Inv X aj Y J s'/\D.bk Y J
 |.cont=>∃ Y J,Inv X aj Y J s'/\D.ct Y J
 |.ret u=>∃ v Y J,Inv X aj Y J s'/\qK v u/\D.rt v J
def PE (X:Cx)(e:Bp)(t:TE):Prop:=
 ∀ (Y:aa) (s:Ag) (σ : St) (H:Hp) (Q:VK),Inv X Y σ H s->t σ H Q->Ap (Au X.prog X.w) X.A (eval e X.env) (EP X Y σ Q) X.xe s
def PT (X:Cx)(e:Bp)(t:TT):Prop:=
 ∀ (Y:aa) (s:Ag) (σ : St) (H:Hp) (Q:As->Hp->Prop),Inv X Y σ H s->t σ H Q->Ap (Au X.prog X.w) X.A (isTrue e X.env (eval e X.env)) (TP X Y σ Q) X.xe s
def PW (X:Cx)(e:Bp)(t:TT):Prop:=
 ∀ (Y:Jl Ac) (J:aa) (s:Ag) (σ : St) (H:Hp) (Q:As->Hp->Prop),Inv X J σ H s->t σ H Q->Ap (Au X.prog X.w) X.A (isTrue e X.env Y) (TP X J σ Q) X.xe s
def PA (X:Cx)(es:Aa Bp)(t:TA):Prop:=
 ∀ (J:En) (Y:aa) (s:Ag) (σ : St) (H:Hp) (Q:Aa V->Hp->Prop),Inv X Y σ H s->t σ H Q->Ap (Au X.prog X.w) X.A (spliced (Gp J (Bl es X.env))) (AP X Y σ Q) X.xe s
def PS (X:Cx)(st:Ey)(t:TS):Prop:=
 ∀ (Y:aa) (s:Ag) (σ : St) (H:Hp) (D:Ends),Inv X Y σ H s->t D σ H->Ap (Au X.prog X.w) X.A (exec st X.env) (SP X Y D) X.xe s
def il (X:Cx)(st:Aa Ey)(t:TS):Prop:=
 ∀ (Y:aa) (s:Ag) (σ : St) (H:Hp) (D:Ends),Inv X Y σ H s->t D σ H->Ap (Au X.prog X.w) X.A (execs st X.env) (SP X Y D) X.xe s
theorem bo {α:Type}{t:Jl α}{Q Y:α->Ag->Prop}{A:Bk}{s:Ag}(h:Ap M A t Q E s)(J:∀ a s,Q a s->Y a s):Ap M A t Y E s:=Hw h J λ_ _ x=>x
end _L
namespace _L
variable {aj:aa}{u:Ac}{E Q:ae}
section
variable {X:Cx}
theorem x_ {a b:Bp}{O C:TE}(k:PE X a O)(T:PE X b C){aj:aa}{s:Ag}{σ : St}{H:Hp}{R:V->V->Hp->Prop}(I:Inv X aj σ H s)(h:O σ H λx N=>C σ N λy Y=>R x y Y)
  {α:Type} {Q:α->Ag->Prop} {f:Ac->Ac->Jl α}
  (z:∀ v u G x y Y,Inv X aj σ Y G->qK x v->qK y u->R x y Y->Ap (Au X.prog X.w) X.A (f v u) Q X.xe G) :
  Ap (Au X.prog X.w) X.A (eval a X.env) (λv J=>Ap (Au X.prog X.w) X.A (eval b X.env) (λu U=>Ap (Au X.prog X.w) X.A (f v u) Q X.xe U) X.xe J) X.xe s:=by
 refine bo (k aj s σ H _ I h) λv j ⟨x,N,w,L,q⟩=>?_;refine bo (T aj j σ N _ w q) λu G ⟨y,Y,M,B,A⟩=>?_;exact z v u G x y Y M L B A
def RD (i:Ah):TE:=λσ H Q=>∃ v,σ[i]? = Ab (Ab v)/\Q v H
def tC (v:V):TE:=λ_ H Q=>Q v H
theorem DQ {i:Ah}{x:An}{O:En}(B:X.N[i]? = Ab x)(hv:qv X.env.scope x)(U:(x == ("__debug__" : An))=false:=by decide)(G:(x == ("__classdict__" : An))=false:=by decide):PE X (.Name x O) (RD i):=by
 intro aj s σ H Q I h;obtain⟨v,e,h⟩:=h;obtain⟨m,L,T⟩:=I.loc;obtain⟨u,r,l⟩:=T i x v B e hv;have J:EP X aj σ Q u s:=⟨v,H,I,r,h⟩;rcases l with⟨hk,C⟩|⟨hk,c,N,Y⟩
 .exact wpAny_Name (wpAny_loadName_local I.ok.kind hk L C J) U
 .rcases hk with hk|hk
  .exact wpAny_Name (wpAny_loadName_cell I.ok.kind hk N Y J) U
  .exact wpAny_Name (wpAny_loadName_free I.ok.kind hk N Y J G) U
theorem DH:PE X (.Constant (.int i) j ar) (tC (.int i)):=λ_ _ _ H _ I h=>wpAny_Constant_int ⟨.int i,H,I.tok _,⟨_,rfl⟩,h⟩
theorem CB:PE X (.Constant (.bool b) j ar) (tC (.bl b)):=λ_ _ _ H _ I h=>Constant_bool ⟨.bl b,H,I,rfl,h⟩
theorem DJ:PE X (.Constant .none j ar) (tC .non):=λ_ _ _ H _ I h=>Constant_none ⟨.non,H,I,rfl,h⟩
theorem DN:PE X (.Constant (.str x) j ar) (tC (.str x)):=λ_ _ _ H _ I h=>Qv ⟨.str x,H,I.tok _,⟨_,rfl⟩,h⟩
def Gl (X:Cx)(x:An):Prop:=X.env.kindOf x=Ab .globalImplicit
theorem jV {s:Ag}{σ:St}{H:Hp}{x:An}{J:En}(I:Inv X aj σ H s)(U:Gl X x)(hm:X.mg x=Ab u)(h:Q u s)
  (Y:(x == ("__debug__" : An))=false:=by decide):Ap (Au X.prog X.w) X.A (eval (.Name x J) X.env) Q E s:=
 Rh I.ok.kind U (Calls.loadGlobal_global (by rw[I.ok.glob];exact I.mod.glob.keeps I.bk) hm h) Y
theorem uF {s:Ag}{σ:St}{H:Hp}{x:An}{J:En}(I:Inv X aj σ H s)(U:Gl X x)(hm:X.mg x=none)(hv:Gm x=Ab u)(h:Q u s)
  (G:x ≠ "__name__":=by decide) (Y:(x == ("__debug__" : An))=false:=by decide):Ap (Au X.prog X.w) X.A (eval (.Name x J) X.env) Q E s:=by
 obtain⟨C,O,N⟩:=I.mod.blt;exact Rh I.ok.kind U (Calls.loadGlobal_builtin (by rw[I.ok.glob];exact I.mod.glob.keeps I.bk) hm (by rw[I.ok.blt];exact O.keeps I.bk) ((N x G).trans hv) h) Y
theorem BW {x:An}{v:V}{J:En}(U:Gl X x)(hm:X.mg x=Ab u)(r:qK v u)(Y:(x == ("__debug__" : An))=false:=by decide):PE X (.Name x J) (tC v):=
 λ_ _ _ H _ I h=>jV I U hm ⟨v,H,I,r,h⟩ Y
theorem BV {x:An}{v:V}{J:En}(G:Gl X x)(hm:X.mg x=none)(hv:Gm x=Ab u)(r:qK v u)(U:x ≠ "__name__":=by decide)(Y:(x == ("__debug__" : An))=false:=by decide):PE X (.Name x J) (tC v):=
 λ_ _ _ H _ I h=>uF I G hm hv ⟨v,H,I,r,h⟩ U Y
variable {a b:Bp}{ta tb:TE}{ar:En}
variable {tA _e:TT}{qI:Aa Bp}
theorem F6 (Y:PT X a tA):PW X (.BoolOp .And [a] ar) tA:=by
 intro J aj s σ H Q I h;refine isTrue_and (bo (Y aj s σ H Q I h) λc U e=>?_);cases c with
 |true=>exact isTrue_and_nil e
 |false=>exact e
theorem SA (Y:PT X a tA):PW X (.BoolOp .Or [a] ar) tA:=by
 intro J aj s σ H Q I h;refine isTrue_or (bo (Y aj s σ H Q I h) λc U e=>?_);cases c with
 |false=>exact isTrue_or_nil e
 |true=>exact e
theorem DM {t:TE}(h:PE X a t):PE X (.BoolOp op [a] ar) t:=λaj s σ H Q I Y=>BoolOp_one (h aj s σ H Q I Y)
end
end _L
namespace _L
variable {es:Aa Bp}{K:Ai}{P:Be}{tg:Bp}{w:Br}
def jg (K:Ai)(H:Hp)(a:Af)(xs:Aa V):Prop:=
 Rd H a (.lst xs) \/
  ∃ (o:Ch) (Q:Aw Ac) (n:Ah),K.lookup a=Ab o/\o.cls=.type "list" /\ o.dict=none/\o.data=.seq Q n/\Q.size<=sizeLine/\qJ xs Q.toList
def iy (K:Ai)(H:Hp)(a:Af)(xs:Aa V):Prop:=
 Rd H a (.tup xs) \/
  ∃ (o:Ch) (Q:Aw Ac) (n:Ah),K.lookup a=Ab o/\o.cls=.type "tuple" /\ o.data=.seq Q n/\Q.size<=sizeLine/\qJ xs Q.toList
noncomputable def AS:Ac->Ak V
 |.none=>Ab .non
 |.bool b=>Ab (.bl b)
 |.int i _=>Ab (.int i)
 |.str x _=>Ab (.str x)
 |.bytes b _=>Ab (.byt b)
 |.float b _=>Ab (.flt b)
 |.ref a=>Ab (.ref a)
 |.type n=>Ab (.ty n)
 |_=>none
theorem qK.abs {x:V}{u:Ac}(r:qK x u):AS u=Ab x:=by
 cases x with
 |non=>cases r;rfl
 |bl _=>cases r;rfl
 |int _=>obtain⟨t,rfl⟩:=r;rfl
 |str _=>obtain⟨t,rfl⟩:=r;rfl
 |byt _=>obtain⟨t,rfl⟩:=r;rfl
 |flt _=>obtain⟨t,rfl⟩:=r;rfl
 |ref _=>cases r;rfl
 |ty _=>cases r;rfl
theorem qK.inj {x y:V}{u:Ac}(r:qK x u)(q:qK y u):x=y:=Dc (r.abs.symm.trans q.abs)
theorem qJ.inj {xs ys:Aa V}{us:ah}(h:qJ xs us)(k:qJ ys us):xs=ys:=by
 induction h generalizing ys with
 |nil=>cases k;rfl
 |cons r t Q =>
  cases k with
  |cons Y J=>rw[r.inj Y,Q J]
section
variable {X:Cx}{aj:aa}{σ : St}{H:Hp}{s:Ag}{a:Af}{xs ys:Aa V}
theorem jg.of (h:H a=Ab (.lst xs)):jg K H a xs:=.inl (.inl h)
theorem iy.of (h:H a=Ab (.tup xs)):iy K H a xs:=.inl (.inl h)
theorem Inv.list (I:Inv X aj σ H s)(h:jg X.K H a xs):∃ ao:Aa Ac,qJ xs ao/\PlainL s.heap a ao.toArray/\xs.length<=sizeLine:=by
 rcases h with h|⟨o,ao,n,Q,U,Y,J,G,r⟩
 .obtain⟨z,ao,n,r,e⟩:=h.ok I.hok
  exact⟨ao,r,⟨_,n,e,rfl,rfl,rfl⟩,z⟩
 .refine⟨ao.toList,r,⟨o,n,I.kIn a o Q,U,Y,by simpa using J⟩,?_⟩
  have e:=r.length;simp only[Bi] at e
  lia
theorem Inv.tuple (I:Inv X aj σ H s)(h:iy X.K H a xs):∃ ao:Aa Ac,qJ xs ao/\Qm s.heap a ao.toArray/\xs.length<=sizeLine:=by
 rcases h with h|⟨o,ao,n,Q,J,Y,U,r⟩
 .obtain⟨z,ao,r,p⟩:=h.ok I.hok
  exact⟨ao,r,p,z⟩
 .refine⟨ao.toList,r,⟨o,I.kIn a o Q,J,n,by simpa using Y⟩,?_⟩
  have e:=r.length;simp only[Bi] at e
  lia
theorem Inv.list_inj (I:Inv X aj σ H s)(h:jg X.K H a xs)(h':jg X.K H a ys):xs=ys:=by
 obtain⟨U,r,⟨o,n,e,_,_,d⟩,_⟩:=I.list h;obtain⟨G,J,⟨N,O,Y,_,_,Q⟩,_⟩:=I.list h';rw[e] at Y;cases Y;rw[d] at Q;injection Q with d1 _
 have:U=G:=by simpa using congrArg Yh d1
 subst this;exact r.inj J
theorem Inv.tuple_inj (I:Inv X aj σ H s)(h:iy X.K H a xs)(h':iy X.K H a ys):xs=ys:=by
 obtain⟨U,r,⟨o,e,_,n,d⟩,_⟩:=I.tuple h;obtain⟨G,J,⟨N,Y,_,O,Q⟩,_⟩:=I.tuple h';rw[e] at Y;cases Y;rw[d] at Q;injection Q with d1 _
 have:U=G:=by simpa using congrArg Yh d1
 subst this;exact r.inj J
end
noncomputable abbrev Cx.wish (X:Cx)(E:ae):Cx:={ X with xe:=E }
abbrev Cx.nox (X:Cx):Cx:=X.wish λ_ _=>Fb
theorem Cx.Ok.wish {X:Cx}(ok:X.Ok)(E:ae):(X.wish E).Ok:=
 ⟨ok.mod,ok.kind,ok.glob,ok.blt,ok.above,ok.inj,ok.has,ok.cab,ok.hd,ok.frames,ok.stk,ok.exf,ok.bs,ok.bsz,ok.noex,ok.exfs,ok.funs,ok.frf⟩
theorem Cx.Ok.unwish {X:Cx}{E:ae}(ok:(X.wish E).Ok):X.Ok:=
 ⟨ok.mod,ok.kind,ok.glob,ok.blt,ok.above,ok.inj,ok.has,ok.cab,ok.hd,ok.frames,ok.stk,ok.exf,ok.bs,ok.bsz,ok.noex,ok.exfs,ok.funs,ok.frf⟩
section
variable {X:Cx}{aj:aa}{σ : St}{H:Hp}{s:Ag}{E:ae}
theorem Inv.wish (I:Inv X aj σ H s)(E:ae):Inv (X.wish E) aj σ H s:=⟨I.ok.wish E,I.os,I.bare,I.base,I.loc,I.cell,I.free,I.freeC,I.pin,I.hok,I.len⟩
theorem Inv.unwish (I:Inv (X.wish E) aj σ H s):Inv X aj σ H s:=⟨I.ok.unwish,I.os,I.bare,I.base,I.loc,I.cell,I.free,I.freeC,I.pin,I.hok,I.len⟩
theorem SP.unwish {D:Ends}{f:Flow}{s':Ag}(h:SP (X.wish E) aj D f s'):SP X aj D f s':=by
 cases f with
 |next=>obtain⟨Q,Y,I,q⟩:=h;exact⟨Q,Y,I.unwish,q⟩
 |brk=>obtain⟨Q,Y,I,q⟩:=h;exact⟨Q,Y,I.unwish,q⟩
 |cont=>obtain⟨Q,Y,I,q⟩:=h;exact⟨Q,Y,I.unwish,q⟩
 |ret u=>obtain⟨v,Q,Y,I,r,q⟩:=h;exact⟨v,Q,Y,I.unwish,r,q⟩
theorem PE.nox {e:Bp}{t:TE}(h:PE X.nox e t):PE X e t:=λaj s σ H Q I U =>
 Hw (h aj s σ H Q (I.wish _) U) (λ_ _ ⟨v,J,Y,r,q⟩=>⟨v,J,Y.unwish,r,q⟩) λ_ _ z=>Ao z
theorem PT.nox {e:Bp}{t:TT}(h:PT X.nox e t):PT X e t:=λaj s σ H Q I U =>
 Hw (h aj s σ H Q (I.wish _) U) (λ_ _ ⟨J,Y,q⟩=>⟨J,Y.unwish,q⟩) λ_ _ z=>Ao z
theorem il.nox {st:Aa Ey}{t:TS}(h:il X.nox st t):il X st t:=λaj s σ H D I Q =>
 Hw (h aj s σ H D (I.wish _) Q) (λ_ _ q=>q.unwish) λ_ _ z=>Ao z
end
section
variable {X:Cx}{st:Ey}{qI:Aa Ey}{t u:TS}{e:Bp}{te:TE}{ar:En}
def CV:TS:=λD σ H=>D.nx σ H
def OI (t u:TS):TS:=λD σ H=>t { D with nx:=u D } σ H
theorem F4:il X [] CV:=λ_ _ σ H _ I h=>Pg ⟨σ,H,I,h⟩
theorem U5 (h1:PS X st t)(h2:il X qI u):il X (st::qI) (OI t u):=by
 intro Y s σ H D I h;refine Zu (bo (h1 Y s σ H { D with nx:=u D } I h) λf G q=>?_)
 cases f with
 |next =>
  obtain⟨Q,U,J,q⟩:=q;exact h2 Y G Q U D J q
 |ret v=>exact q
 |brk=>exact q
 |cont=>exact q
theorem F5 (h1:PS X st t):il X [st] t:=by
 intro Q s σ H D I h;refine Zu (bo (h1 Q s σ H D I h) λf Y q=>?_);cases f with
 |next=>exact Pg q
 |ret v=>exact q
 |brk=>exact q
 |cont=>exact q
theorem Inv.quiet {aj:aa}{σ:St}{H:Hp}{s:Ag}(I:Inv X aj σ H s):interactive X.env=false:=by simp[interactive,I.ok.kind]
end
abbrev TG:=V->St->Hp->(St->Hp->Prop)->Prop
abbrev so:=Aa V->St->Hp->(St->Hp->Prop)->Prop
def PG (X:Cx)(Y:Bp)(t:TG):Prop:=
 ∀ (G:aa) (s:Ag) (σ : St) (H:Hp) (v:V) (u:Ac) (Q:St->Hp->Prop),Inv X G σ H s->qK v u->t v σ H Q ->
  Ap (Au X.prog X.w) X.A (assign Y X.env u) (λ_ N=>∃ J U,Inv X G J U N/\Q J U) X.xe s
def rf (X:Cx)(O:Aa Bp)(t:so):Prop:=
 ∀ (N:aa) (s:Ag) (σ : St) (H:Hp) (G:Aa V) (J:ah) (Q:St->Hp->Prop),Inv X N σ H s->qJ G J->t G σ H Q ->
  Ap (Au X.prog X.w) X.A (Wt ((Gv O X.env).map (·.2)) J) (λ_ C=>∃ Y U,Inv X N Y U C/\Q Y U) X.xe s
abbrev MJ:=V->V->V->Hp->(Hp->Prop)->Prop
def dU (X:Cx)(t:MJ):Prop:=
 ∀ (U:aa) (s:Ag) (σ : St) (H:Hp) (o i v:V) (G Y u:Ac) (Q:Hp->Prop),Inv X U σ H s->qK o G->qK i Y->qK v u->t o i v H Q ->
  Ap (Au X.prog X.w) X.A (setItem G Y u) (λ_ N=>∃ J,Inv X U σ J N/\Q J) X.xe s
section
variable {X:Cx}{ar:En}
def ER (i:Ah):TG:=λv σ H Q=>Q (σ.set i (Ab v)) H
theorem BY {i:Ah}{x:An}(G:X.N.Nodup)(hi:X.N[i]? = Ab x)(J:Loc X.env.scope x)(U:X.fn x=true\/X.env.scope.names.lookup x=Ab .local:=by first|exact .inl rfl|exact .inr rfl|assumption):PG X (.Name x ar) (ER i):=by
 intro O s σ H v u Q I r h;exact Yt (uO I G hi J r (λN Y=>⟨_,H,Y,h⟩) U)
def IF:so:=λY σ H Q=>Y=[]/\Q σ H
def EO (t:TG)(u:so):so:=λJ σ H Q=>∃ v r,J=v::r/\t v σ H λY U=>u r Y U Q
theorem BZ:rf X [] IF:=by
 intro U s σ H J Y Q I r h;obtain⟨e,h⟩:=h;subst e;cases r;exact Yu ⟨σ,H,I,h⟩
theorem U3 {e:Bp}{t:TG}{u:so}(h1:PG X e t)(h2:rf X es u)
  (hs:(Gv (e::es) X.env).map (·.2)=assign e X.env::(Gv es X.env).map (·.2):=by rfl):rf X (e::es) (EO t u):=by
 intro J s σ H E L Q I r h;obtain⟨v,T,G,h⟩:=h;subst G;cases r with
 |cons r U =>
  rw[hs];refine Qw (bo (h1 J s σ H _ _ _ I r h) λ_ C ⟨Y,O,N,B⟩=>?_);exact h2 J C Y O _ _ Q N U B
def IG (K:Ai)(n:Ah)(t:so):TG:=λv σ H Q=>∃ a Y,v=.ref a/\iy K H a Y/\Y.length=n/\t Y σ H Q
theorem DU {k:Ah}{t:so}{n:Ah}(A:X.calm=true)(h:rf X es t)
  (E:(Gv es X.env).length=n:=by rfl) (Y:(Gv es X.env).findIdx? (·.1)=none:=by rfl):PG X (.Tuple es k ar) (IG X.K n t):=by
 intro G s σ H v u Q I r J;obtain⟨a,M,O,L,z,J⟩:=J;subst O;cases r;obtain⟨j,U,B,y⟩:=I.tuple L;refine assign_Tuple_tuple (I.ok.hd A) B (by simp[E,<- z,U.length]) Y λT N=>?_
 have C:Inv X G σ H { s with heap:=T }:=I.kept (t':=s.toks) λb o e=>N b o (Cp (Bh e)) e
 exact h G _ σ H M _ Q C (by simpa using U) J
def OH (i j:Ah)(Y:TA):TS:=λD σ H=>Y σ H λJ Q=>∃ v w,J=[v,w]/\D.nx ((σ.set i (Ab v)).set j (Ab w)) Q
theorem DZ {i j:Ah}{x y:An}{a b:Bp}{M:TA}{B N U:En} {kt k2 pt2} (m:X.calm=true) (E:X.N.Nodup) (hi:X.N[i]? = Ab x) (l:X.N[j]? = Ab y) (C:i≠j)
  (A:X.env.scope.names.lookup x=Ab .local) (k:X.env.scope.names.lookup y=Ab .local) (ha:PA X [a,b] M)
  (hw:Ma [.Tuple [.Name x B,.Name y N] kt U] (.Tuple [a,b] k2 pt2) X.env=pure (Ab [x,y]))
  (hs:Mb [.Tuple [.Name x B,.Name y N] kt U] (.Tuple [a,b] k2 pt2) ar.line X.env=pure false:=by rfl) :
  PS X (.Assign [.Tuple [.Name x B,.Name y N] kt U] (.Tuple [a,b] k2 pt2) ar) (OH i j M):=by
 intro z s σ H D I h;rw[exec_Assign_arm];refine Ad (Oh ?_);rw[hs];refine Ad (Al ?_);rw[Bb (by decide)]
 refine Ad (Tuple_ (bo (ha _ z s σ H _ I h) λn Q ⟨vs,u,c,r1,G⟩=>?_));obtain⟨v,w,d,G⟩:=G;subst d;obtain⟨J,Y,rfl,g,L⟩:∃ J Y,n=[J,Y]/\qK v J/\qK w Y:=by
  cases r1 with
  |cons p q =>
   cases q with
   |cons p' q' =>
    cases q';exact⟨_,_,rfl,p,p'⟩
 refine Dm ?_ (by show 2<=sizeLine;decide)
 have r:Inv X z σ u { Q with heap:=Q.heap.push { cls:=.type "tuple",data:=.seq [J,Y].toArray } }:=c.kept (t':=Q.toks) λb o e=>Aj _ e
 rw[hw];refine Ad (Al ?_);show Ap (Au X.prog X.w) X.A (do rule "assign.swapped-stores";let items <- unpackItems (.ref Q.heap.objs.size) 2 none;Wt [λv=>Xu X.env y v,λv=>Xu X.env x v] items.reverse;pure Flow.next) _ _ _
 refine Ad (Gw (Ad (unpackItems_tuple (items:=#[J,Y]) (I.ok.hd m) (Yv Q.heap _) λh' O=>?_)));have t:=r.kept (h':=h') (t':=Q.toks) λb o e=>O b o (Cp (Bh e)) e;show Ap _ _ (Wt [λv=>Xu X.env y v,λv=>Xu X.env x v] [Y,J] >>= λ_=>pure Flow.next) _ _ _;refine Ad (Qw (wpAny_bindName (uO t E l (.inl k) L (λs2 f=>?_) (.inr k))));refine Qw (wpAny_bindName (uO f E hi (.inl A) g (λs3 T=>Yu (Al ?_)) (.inr A)));rw[List.set_comm _ _ (Fm C)] at T;exact⟨_,u,T,G⟩
end
structure It where
 go:Ah->Hp->Prop
 yld:Ah->Hp->V->Hp->Prop
 stop:Ah->Hp->Prop
def xM (X:Cx)(aj:aa)(H:Hp)(b:Af):Prop:=
 H b=none/\b≠X.env.locals/\b ∉ X.fs/\(b∈X.ex\/X.s₀.heap.objs.size<=b)/\(∀ x c,X.env.cells.lookup x=Ab c->c≠b)/\∀ p∈X.pn++aj,p.1≠b
theorem Inv.fpOk {X:Cx}{aj:aa}{σ:St}{H Y:Hp}{s:Ag}{b:Af}(I:Inv X aj σ H s)(Q:s.heap.objs.size<=b)(J:Y b=none):xM X aj Y b:=by
 refine⟨J,Hn (Az I.lt Q),I.nofs Q,.inr (Bq I.sz Q),λx c e z=>?_,λp U z=>?_⟩
 .obtain⟨v,q⟩:=I.cell x c e
  exact absurd (Az q.lt (by rw[z];exact Q)) (Fz _)
 .exact absurd (Az (Bh (I.pin p U).1) (by rw[z];exact Q)) (Fz _)
structure lj (P:Be)(w:Br)(K:Ai)(tg:Bp)(J:It)(fp:ag)(it:Af)(tn:Ah->Bn->Prop):Prop where
 mem:it∈fp
 obj:∀ i h,tn i h->∀ b∈fp,∃ o,h.get? b=Ab o/\∀ v,o.data≠.cell v
 keep:∀ i h h',tn i h->(∀ b∈fp,∀ o,h.get? b=Ab o->h'.get? b=Ab o)->tn i h'
 item:∀ (X:Cx),X.prog=P->X.w=w->X.K=K->X.calm=true->∀ (i:Ah) (pins:aa) (s:Ag) (σ : St) (H:Hp) (E:ae),Inv X pins σ H s->(∀ b∈fp,xM X pins H b)->tn i s.heap->J.go i H ->
  Ap (Au P w) X.A (Py (.ref it)) (λr s1=>∃ u,r=Ab u /\
   Ap (Au P w) X.A (Kr tg (.ref it) u) (λ_ s2=>∃ x H',Inv X pins σ H' s2/\qK x u/\J.yld i H x H'/\tn (i+1) s2.heap/\∀ b∈fp,H' b=none) E s1) E s
 done:∀ (X:Cx),X.prog=P->X.w=w->X.K=K->X.calm=true->∀ (i:Ah) (pins:aa) (s:Ag) (σ : St) (H:Hp) (E:ae),Inv X pins σ H s->(∀ b∈fp,xM X pins H b)->tn i s.heap->J.stop i H ->
  Ap (Au P w) X.A (Py (.ref it)) (λr s1=>r=none/\Inv X pins σ H s1) E s
 self:∀ (A:Bk) (i:Ah) (s:Ag) (Q:ae) (E:ae),tn i s.heap->Q (.ref it) s->Ap (Au P w) A (Ri (.ref it)) Q E s
abbrev TI:=St->Hp->(It->Hp->Prop)->Prop
inductive uv (X:Cx)(pins:aa)(σ : St)(tg:Bp)(R:It->Hp->Prop)(itv:Ac)(s2:Ag):Prop
 |mk (it:Af) (fp:ag) (tn:Ah->Bn->Prop) (J:It) (H':Hp) (e:itv=.ref it) (I:Inv X pins σ H' s2) (t:lj X.prog X.w X.K tg J fp it tn) (z:tn 0 s2.heap) (f:∀ b∈fp,xM X pins H' b) (q:R J H'):uv X pins σ tg R itv s2
def PI (X:Cx)(tg U:Bp)(Y:TI):Prop:=
 ∀ (Q:aa) (s:Ag) (σ : St) (H:Hp) (R:It->Hp->Prop),Inv X Q σ H s->Y σ H R ->
  Ap (Au X.prog X.w) X.A (eval U X.env) (λv J=>Ap (Au X.prog X.w) X.A (Ri v) (uv X Q σ tg R) X.xe J) X.xe s
theorem dG {M:Kq}{A:Bk}{E:ae}{s:Ag}{it:Af}{u:Ac}{o:Ch}{n:Eg}{vs:Aw Ac}{Q:Pa->Ag->Prop}(U:s.heap.get? it=Ab o)(N:o.cls=.type n)(J:o.data=.fields vs)
    (G:["enumerate","zip","dict_itemiterator","dict_reverseitemiterator","odict_iterator","itertools.zip_longest","itertools.pairwise"].contains n=false) (Y:Q () s):Ap M A (Kr tg (.ref it) u) Q E s:=by
  unfold Kr;cases tg <;> first
    |exact Al Y
    |(cases u <;> first
        |exact Al Y
        | (refine Ad (wpAny_load U ?_)
           rw[N,J];show Ap M A (if (["enumerate","zip","dict_itemiterator","dict_reverseitemiterator","odict_iterator","itertools.zip_longest","itertools.pairwise"].contains n&&vs[0]? == Ab (Ly _))=true then _ else _) Q E s
           rw[Bb (by intro h;rw[G,Hx] at h;cases h)]
           exact Al Y))
def yf (K:Ai)(a:Af):It:=
 ⟨λi H=>∃ Q x,jg K H a Q/\Q[i]? = Ab x,λi H x Y=>Y=H/\∀ Q,jg K H a Q->Q[i]? = Ab x,λi H=>∃ Q,jg K H a Q/\Q.length<=i⟩
def zk (K:Ai)(a:Af):It:=
 ⟨λi H=>∃ Q x,iy K H a Q/\Q[i]? = Ab x,λi H x Y=>Y=H/\∀ Q,iy K H a Q->Q[i]? = Ab x,λi H=>∃ Q,iy K H a Q/\Q.length<=i⟩
def wc (lo:Am)(n:Ah):It:=⟨λi _=>i<n,λi H x Q=>Q=H/\x=.int (lo+i),λi _=>n<=i⟩
theorem lW (a it:Af):lj P w K tg (yf K a) [it] it (λi h=>h.IsListIter it a i) where
 mem:=by simp
 obj:=λi h st b Q=>by
  have e:b=it:=by simpa using Q
  subst e;obtain⟨o,e,c,d⟩:=st;exact⟨o,e,λv z=>by rw[d] at z;cases z⟩
 keep:=λi h G st k=>st.at λo e=>k it (by simp) o e
 item:=by
  intro X M q y l i g s σ H E I J st T;subst M q y;obtain⟨xs,x,U,N⟩:=T;obtain⟨ao,O,p,r⟩:=I.list U;obtain⟨u,hu,f⟩:=O.get N;obtain⟨C,j,f2,L,B,A⟩:=J it (by simp)
  refine wpAny_pyNext_list_item st p.isList (x:=u) (by simpa using hu) λG Y n=>?_
  have t:Inv X g σ H { s with heap:=G }:=I.turned (t':=s.toks) (λb o Q e=>(n.2 b Q).trans e) C j L B A
  obtain⟨o,e,c,d⟩:=id Y;exact⟨u,rfl,dG (s:={ s with heap:=G }) e c d (by decide) ⟨x,H,t,f,⟨rfl,λys hy=>by rw[I.list_inj hy U];exact N⟩,Y,λb Q=>(J b Q).1⟩⟩
 done:=by
  intro X M q y l i g s σ H E I J st T;subst M q y;obtain⟨xs,U,N⟩:=T;obtain⟨ao,O,p,r⟩:=I.list U;obtain⟨C,j,f2,L,B,A⟩:=J it (by simp)
  have hl:=O.length;exact wpAny_pyNext_list_end (I.ok.hd l) st p.isList (by simp;lia) λG m=>⟨rfl,I.turned (t':=s.toks) (λb o Q e=>m b o Q e) C j L B A⟩
 self:=λ_ _ _ _ _ st h=>wpAny_pyIter_listiter st h
theorem Q2 (a it:Af):lj P w K tg (zk K a) [it] it (λi h=>h.IsTupleIter it a i) where
 mem:=by simp
 obj:=λi h st b Q=>by
  have e:b=it:=by simpa using Q
  subst e;obtain⟨o,e,c,d⟩:=st;exact⟨o,e,λv z=>by rw[d] at z;cases z⟩
 keep:=λi h G st k=>st.at λo e=>k it (by simp) o e
 item:=by
  intro X j l q g i f s σ H E I J st T;subst j l q;obtain⟨xs,x,U,N⟩:=T;obtain⟨M,O,p,t⟩:=I.tuple U;obtain⟨u,hu,r⟩:=O.get N;obtain⟨C,y,f2,L,B,A⟩:=J it (by simp)
  refine wpAny_pyNext_tuple_item st (show s.heap.IsTuple a M.toArray from p) (x:=u) (by simpa using hu) λG Y sb=>?_
  have m:Inv X f σ H { s with heap:=G }:=I.turned (t':=s.toks) (λb o Q e=>(sb.2 b Q).trans e) C y L B A
  obtain⟨o,e,c,d⟩:=id Y;exact⟨u,rfl,dG (s:={ s with heap:=G }) e c d (by decide) ⟨x,H,m,r,⟨rfl,λys hy=>by rw[I.tuple_inj hy U];exact N⟩,Y,λb Q=>(J b Q).1⟩⟩
 done:=by
  intro X j l q g i f s σ H E I J st T;subst j l q;obtain⟨xs,U,N⟩:=T;obtain⟨M,O,p,t⟩:=I.tuple U;obtain⟨C,y,f2,L,B,A⟩:=J it (by simp)
  have hl:=O.length;exact wpAny_pyNext_tuple_end (I.ok.hd g) st (show s.heap.IsTuple a M.toArray from p) (by simp;lia) λG n=>⟨rfl,I.turned (t':=s.toks) (λb o Q e=>n b o Q e) C y L B A⟩
 self:=λ_ _ _ _ _ st h=>wpAny_pyIter_tupleiter st h
theorem Q1 (it:Af)(lo:Am)(n:Ah):lj P w K tg (wc lo n) [it] it (λi h=>IsRangeIter h it (lo+(i:Ah)*1) ((n:Am)-(i:Ah)) 1) where
 mem:=by simp
 obj:=λi h st b Q=>by
  have e:b=it:=by simpa using Q
  subst e;exact⟨_,st,λv z=>by
   have c:Data.fields _=Data.cell v:=z;cases c⟩
 keep:=λi h U st k=>k it (by simp) _ st
 item:=by
  intro X T j M C i u s σ H E I J st B;subst T j M;obtain⟨G,A,g,O,N,L⟩:=J it (by simp)
  have W:=Walks.range (prog:=X.prog) (w:=X.w) (I.ok.hd C) it lo 1 n;refine W.item i s _ _ B st λv U y hv Y p=>?_;obtain⟨t,rfl⟩:=hv;have q:Inv X u σ H { s with heap:=U,toks:=y }:=I.turned (λb o Q e=>p b o (by simpa using Q) e) G A O N L
  refine⟨_,rfl,dG (s:={ s with heap:=U,toks:=y }) (n:="range_iterator") Y rfl rfl (by decide) ⟨.int (lo+i),H,q,⟨t,?_⟩,⟨rfl,rfl⟩,Y,λb Q=>(J b Q).1⟩⟩
  rw[Int.mul_one]
 done:=by
  intro X T j M C i u s σ H E I J st B;subst T j M;obtain⟨G,A,g,O,N,L⟩:=J it (by simp)
  exact wpAny_pyNext_range_end (I.ok.hd C) st (by have:n<=i:=B;lia) λU l=>⟨rfl,I.turned (t':=s.toks) (λb o Q e=>l b o Q e) G A O N L⟩
 self:=λ_ _ _ _ _ st h=>wpAny_pyIter_rangeiter st h
end _L
namespace _L
variable {aj:aa}{fp:ag}{s:Ag}{H:Hp}{σ:St}
section
variable {X:Cx}{tg:Bp}
theorem rY {R:It->Hp->Prop}{E:ae}{lo hi:Am}{t u v:Qc}{Y:Ah}(I:Inv X aj σ H s)(h1 : -(2 ^ 62)<=lo)(h2:lo<2 ^ 62)(h3 : -(2 ^ 62)<=hi)(N:hi<2 ^ 62)
  (q:R (wc lo (hi-lo).toNat) H):Ap (Au X.prog X.w) X.A (Ri (.ref s.heap.objs.size)) (uv X aj σ tg R) E { s with heap:=s.heap.push { cls:=.type "range",data:=.fields #[.int lo t,.int hi u,.int 1 v] },toks:=Y }:=by
 refine wpAny_pyIter_range (IsRange.new ..) (small_one h1 h2 h3 N) ?_;have Q:Inv X aj σ H { s with heap:=s.heap.push { cls:=.type "range",data:=.fields #[.int lo t,.int hi u,.int 1 v] },toks:=Y }:=I.kept λb o e=>Aj _ e
 refine⟨(s.heap.push { cls:=.type "range",data:=.fields #[.int lo t,.int hi u,.int 1 v] }).objs.size,[(s.heap.push { cls:=.type "range",data:=.fields #[.int lo t,.int hi u,.int 1 v] }).objs.size],_,_,H,rfl,
  Q.kept (t':=Y) λb o e=>Aj _ e,Q1 _ lo (hi-lo).toNat,?_,λb G=>?_,q⟩
 .have J:lo+((0:Ah):Am)*1=lo:=by simp
  have U:(((hi-lo).toNat:Ah):Am)-((0:Ah):Am)=Builtin.Range.rangeSize lo hi 1:=by rw[rangeSize_one];split <;> lia
  show IsRangeIter _ _ (lo+((0:Ah):Am)*1) ((((hi-lo).toNat:Ah):Am)-((0:Ah):Am)) 1;rw[J,U];exact Bj _ rfl
 .have e:b=(s.heap.push { cls:=.type "range",data:=.fields #[.int lo t,.int hi u,.int 1 v] }).objs.size:=by simpa using G
  subst e;exact Q.fpOk (Av _) (Q.hok.fresh (Av _))
def OE (C:TI)(g:TG)(L:TS):TS:=λD σ H=>C σ H λJ B=>∃ W:Ah->Ah->St->Hp->Prop,(∃ m,W 0 m σ B)/\∀ i m σ H,W i m σ H ->
 (J.stop i H/\D.nx σ H)\/(J.go i H/\∃ N:St->Hp->Prop,(∀ Y Q,N Y Q->∃ G,G<m/\W (i+1) G Y Q)/\∀ x Q,J.yld i H x Q->g x σ Q λU O=>L { D with nx:=N,ct:=N,bk:=D.nx } U O)
def yQ (fp:ag)(h:Bn):Aa (Af × Ch):=fp.filterMap λb=>(h.get? b).map λo=>(b,o)
theorem vV {h:Bn}{b:Af}{o:Ch}(Q:b∈fp)(e:h.get? b=Ab o):(b,o)∈yQ fp h:=IN.mpr ⟨b,Q,by rw[e];rfl⟩
theorem lL {h:Bn}{p:Af × Ch}(hp:p∈yQ fp h):p.1∈fp/\h.get? p.1=Ab p.2:=by
 obtain⟨b,Y,e⟩:=IN.mp hp;cases q:h.get? b with
 |none=>rw[q] at e;cases e
 |some o =>
  rw[q] at e;have Q:(b,o)=p:=Dc e;subst Q;exact⟨Y,q⟩
theorem Inv.pinned (I:Inv X aj σ H s)(O:∀ b∈fp,xM X aj H b)(J:∀ b∈fp,∃ o,s.heap.get? b=Ab o/\∀ v,o.data≠.cell v):Inv X (aj++yQ fp s.heap) σ H s:=
 I.pins_of λp U=>(Bw.mp U).elim (λz=>I.pin p (Cf _ z)) λz=>by
  obtain⟨Y,e⟩:=lL z;obtain⟨G,N,C,_⟩:=O p.1 Y;obtain⟨o,Q,d⟩:=J p.1 Y;rw[e] at Q;cases Q;exact⟨e,G,N,C,d⟩
theorem Inv.unpinned {pl:aa}(I:Inv X (aj++pl) σ H s):Inv X aj σ H s:=I.pins_of λp Q=>I.pin p (Cf _ (Dq _ Q))
inductive ui (X:Cx)(pins:aa)(fp:ag)(tn:Ah->Bn->Prop)(W:Ah->Ah->St->Hp->Prop)(n:Ah)(s':Ag):Prop
 |mk (i:Ah) (σ' : St) (H':Hp) (I:Inv X pins σ' H' s') (t:tn i s'.heap) (f:∀ b∈fp,H' b=none) (w:W i n σ' H'):ui X pins fp tn W n s'
theorem DY {q:Bp}{cx:Aa Ey}{wi:TI}{g:TG}{tb:TS}{ar:En}(hp:Vh (Au X.prog X.w) X.A X.env X.xe)(hc:X.calm=true)(hi:PI X tg q wi)(hg:PG X tg g)(O:il X cx tb)
  (hs:∀ x,Fw q X.env x=pure x:=by intro _;rfl):PS X (.For tg q cx [] ar) (OE wi g tb):=by
 intro aj s σ H D I h;refine wpAny_For (bo (hi aj s σ H _ I h) λv s1 h1=>bo h1 λzb s2 h2=>?_) hs;obtain⟨it,fp,tn,J,H2,e,I2,T,p,f2,W,⟨m0,w0⟩,A⟩:=h2;subst e;have U:∀ {H':Hp},(∀ b∈fp,H' b=none)->∀ b∈fp,xM X aj H' b:=λhn b O=>⟨hn b O,(f2 b O).2⟩;refine codeAny_forLoop_any (ui X aj fp tn W) ?_ m0 ⟨0,σ,H2,I2,p,λb O=>(f2 b O).1,w0⟩;rintro n a ⟨i,Y,j,I3,w,z,w3⟩;rcases A i n Y j w3 with⟨M,qn⟩|⟨go,N,hN,step⟩
 .refine Mp hp (bo (T.done X rfl rfl rfl hc i aj a Y j X.xe I3 (U z) w M) λr s4 ⟨y,I4⟩=>?_)
  subst y;exact Pg ⟨Y,j,I4,qn⟩
 .refine Mp hp (bo (T.item X rfl rfl rfl hc i aj a Y j X.xe I3 (U z) w go) λr s4 ⟨u,y,h4⟩=>?_)
  subst y;refine Mp hp (bo h4 λ_ s5 ⟨x,H5,I5,r5,y5,L,l⟩=>?_);have k:=I5.pinned (U l) (T.obj _ _ L);refine Mp hp (bo (hg _ s5 Y H5 x u _ k r5 (step x H5 y5)) λ_ s6 ⟨c,H6,I6,q6⟩=>?_);refine Mp hp (bo (O _ s6 c H6 _ I6 q6) λf t B=>?_);have again:∀ {Q:St} {G:Hp},Inv X (aj++yQ fp s5.heap) Q G t->N Q G->∃ m,m<n/\ui X aj fp tn W m t:=λ{Q G} C E=>by
   obtain⟨m',hm,w7⟩:=hN Q G E;refine⟨m',hm,i+1,Q,G,C.unpinned,T.keep _ _ _ L λb O o e=>(C.pin (b,o) (Cf _ (Cf _ (vV O e)))).1,λb O=>?_,w7⟩;obtain⟨o,e,d⟩:=T.obj _ _ L b O;exact(C.pin (b,o) (Cf _ (Cf _ (vV O e)))).2.1
  cases f with
  |next=>obtain⟨Q,G,C,E⟩:=B;exact again C E
  |cont=>obtain⟨Q,G,C,E⟩:=B;exact again C E
  |brk=>obtain⟨Q,G,C,B⟩:=B;exact⟨Q,G,C.unpinned,B⟩
  |ret v=>obtain⟨x7,Q,G,C,r7,B⟩:=B;exact⟨x7,Q,G,C.unpinned,r7,B⟩
end
end _L
namespace _L
variable {us:ah}{f:Ac->Ac->Jl Ac}{g:Am->Am->Am}
abbrev R2:=V->V->Hp->VK->Prop
def kr (X:Cx)(f:Ac->Ac->Jl Ac)(r:R2):Prop:=
 ∀ (Y:aa) (s:Ag) (σ : St) (H:Hp) (x y:V) (v u:Ac) (Q:VK),Inv X Y σ H s->qK x v->qK y u->r x y H Q ->
  Ap (Au X.prog X.w) X.A (f v u) (EP X Y σ Q) X.xe s
def zf (X:Cx)(f:Ac->Jl Ac)(r:V->Hp->VK->Prop):Prop:=
 ∀ (Y:aa) (s:Ag) (σ : St) (H:Hp) (x:V) (v:Ac) (Q:VK),Inv X Y σ H s->qK x v->r x H Q ->
  Ap (Au X.prog X.w) X.A (f v) (EP X Y σ Q) X.xe s
def vS (X:Cx)(f:Ac)(r:Aa V->Hp->VK->Prop):Prop:=
 ∀ (J:aa) (s:Ag) (σ : St) (H:Hp) (Y:Aa V) (us:ah) (Q:VK),Inv X J σ H s->qJ Y us->r Y H Q ->
  Ap (Au X.prog X.w) X.A (call f us) (EP X J σ Q) X.xe s
def AQ (X:Cx)(r:V->Hp->(As->Hp->Prop)->Prop):Prop:=
 ∀ (Y:aa) (s:Ag) (σ : St) (H:Hp) (x:V) (v:Ac) (Q:As->Hp->Prop),Inv X Y σ H s->qK x v->r x H Q ->
  Ap (Au X.prog X.w) X.A (truthy v) (TP X Y σ Q) X.xe s
def zv (r:R2)(U G:TE):TE:=λσ H Q=>U σ H λx Y=>G σ Y λy J=>r x y J Q
def rI (C:Am->Am->Prop)(g:Am->Am->V):R2:=λx y H Q=>∃ i j,x=.int i/\y=.int j/\C i j/\Q (g i j) H
def qo (g:Am->Am->V):R2:=λx y H Q=>∃ i j,x=.int i/\y=.int j/\Q (g i j) H
def rU (g:Am->V):V->Hp->VK->Prop:=λx H Q=>∃ i,x=.int i/\Q (g i) H
section
variable {X:Cx}{a b c:Bp}{ta tb tc:TE}{ar:En}
theorem AY (z:PE X a ta)(M:PE X b tb){aj:aa}{s:Ag}{σ : St}{H:Hp}{R:V->V->Hp->Prop}(I:Inv X aj σ H s)
  (h:ta σ H λx N=>tb σ N λy Y=>R x y Y) {Q:ae} {f:Ac->Ac->Jl Ac}
  (L:∀ v u G x y Y,Inv X aj σ Y G->qK x v->qK y u->R x y Y->Ap (Au X.prog X.w) X.A (f v u) Q X.xe G) :
  Ap (Au X.prog X.w) X.A (eval a X.env) (λv U=>Ap (Au X.prog X.w) X.A (eval b X.env) (λu J=>Ap (Au X.prog X.w) X.A (f v u) Q X.xe J) X.xe U) X.xe s:=by
 refine bo (z aj s σ H _ I h) λv T ⟨x,N,B,A,E⟩=>?_;refine bo (M aj T σ N _ B E) λu G ⟨y,Y,C,O,w⟩=>?_;exact L v u G x y Y C A O w
theorem wt {f:Ac->Ac->Jl Ac}{C:Am->Am->Prop}
  (rule:∀ (i j:Am) (t u:Qc) (s:Ag) (Q:ae) (E:ae),C i j->Q (.int (g i j) s.toks) { s with toks:=s.toks+1 } -> Ap (Au X.prog X.w) X.A (f (.int i t) (.int j u)) Q E s) :
  kr X f (rI C λi j=>.int (g i j)):=by
 intro N s σ H x y v u Q I U G h;obtain⟨i,j,rfl,rfl,J,q⟩:=h;obtain⟨t,rfl⟩:=U;obtain⟨Y,rfl⟩:=G;exact rule i j t Y s _ _ J ⟨.int (g i j),H,I.tok _,⟨_,rfl⟩,q⟩
theorem D5 {f:Ac->Ac->Jl Ac}
  (rule:∀ (i j:Am) (t u:Qc) (s:Ag) (Q:ae) (E:ae),Q (.int (g i j) s.toks) { s with toks:=s.toks+1 } -> Ap (Au X.prog X.w) X.A (f (.int i t) (.int j u)) Q E s) :
  kr X f (qo λi j=>.int (g i j)):=by
 intro G s σ H x y v u Q I J U h;obtain⟨i,j,rfl,rfl,q⟩:=h;obtain⟨t,rfl⟩:=J;obtain⟨Y,rfl⟩:=U;exact rule i j t Y s _ _ ⟨.int (g i j),H,I.tok _,⟨_,rfl⟩,q⟩
theorem oI {g:Am->Am->As}
  (rule:∀ (i j:Am) (t u:Qc) (s:Ag) (Q:ae) (E:ae),Q (.bool (g i j)) s->Ap (Au X.prog X.w) X.A (f (.int i t) (.int j u)) Q E s) :
  kr X f (qo λi j=>.bl (g i j)):=by
 intro G s σ H x y v u Q I J U h;obtain⟨i,j,rfl,rfl,q⟩:=h;obtain⟨t,rfl⟩:=J;obtain⟨Y,rfl⟩:=U;exact rule i j t Y s _ _ ⟨.bl (g i j),H,I,rfl,q⟩
def AK (i j:Am):Prop:=0<j/\j<1073741824
def AL (i j:Am):Prop:=0<=j/\j<=1000000/\i.natAbs<2 ^ 64
def Y4 (i j:Am):Prop:=(-(2 ^ 64)<i/\i<2 ^ 64)\/(-(2 ^ 64)<j/\j<2 ^ 64)
theorem Y4.ok {i j:Am}(h:Y4 i j):IntMulOk i j:=by
 rcases h with⟨Y,Q⟩|⟨Y,Q⟩
 .exact .of_left (intBits_le_64 Y Q)
 .exact .of_right (intBits_le_64 Y Q)
theorem D6:kr X (Ee .Add) (qo λi j=>.int (i+j)):=D5 λ_ _ _ _ _ _ _ q=>add_int q
theorem DC:kr X (Ee .Sub) (qo λi j=>.int (i-j)):=D5 λ_ _ _ _ _ _ _ q=>sub_int q
theorem D9:kr X (Ee .Mult) (rI Y4 λi j=>.int (i*j)):=wt λ_ _ _ _ _ _ _ Q q=>mul_int q Q.ok
theorem BS:kr X (Ee .FloorDiv) (rI AK λi j=>.int (i/j)):=wt λi j _ _ _ _ _ Q q=>by
 have J:(0:Am)<j:=Q.1;have Y:j<1073741824:=Q.2;exact floordiv_int li (by rw[Int.fdiv_eq_ediv_of_nonneg i li];exact q) (.inl (PyProof.noPylong_small li))
theorem D8:kr X (Ee .Mod) (rI (λ_ j=>0<j) λi j=>.int (i % j)):=wt λi j _ _ _ _ _ Q q=>by
 have Y:(0:Am)<j:=Q;exact mod_int' li (by rw[Int.fmod_eq_emod_of_nonneg i li];exact q)
theorem DB:kr X (Ee .Pow) (rI AL λi j=>.int (i ^ j.toNat)):=wt λ_ _ _ _ _ _ _ Q q=>pow_int_small Q.1 Q.2.1 Q.2.2 q
theorem zt {f:Ac->Jl Ac}{g:Am->Am}
  (rule:∀ (i:Am) (t:Qc) (s:Ag) (Q:ae) (E:ae),Q (.int (g i) s.toks) { s with toks:=s.toks+1 } -> Ap (Au X.prog X.w) X.A (f (.int i t)) Q E s) :
  zf X f (rU λi=>.int (g i)):=by
 intro J s σ H x v Q I Y h;obtain⟨i,rfl,q⟩:=h;obtain⟨t,rfl⟩:=Y;exact rule i t s _ _ ⟨.int (g i),H,I.tok _,⟨_,rfl⟩,q⟩
theorem RK:zf X (Zv .USub) (rU λi=>.int (-i)):=zt λ_ _ _ _ _ q=>neg_int q
end
section
variable {X:Cx}{a b c:Bp}{ta tb tc:TE}{ar:En}
theorem NO {aj:aa}{σ:St}{H:Hp}{s:Ag}{Q:VK}{k Y:As}(I:Inv X aj σ H s)(q:Q (.bl k) H)(e:k=Y):EP X aj σ Q (.bool Y) s:=by
 subst e;exact⟨.bl k,H,I,rfl,q⟩
theorem CA:kr X (Dh .Lt) (qo λi j=>.bl (decide (i<j))):=oI λ_ _ _ _ _ _ _ q=>lt_int q
theorem HZ:kr X (Dh .LtE) (qo λi j=>.bl (decide (i<=j))):=oI λ_ _ _ _ _ _ _ q=>le_int q
theorem HY:kr X (Dh .Gt) (qo λi j=>.bl (decide (j<i))):=oI λ_ _ _ _ _ _ _ q=>gt_int q
theorem HX:kr X (Dh .GtE) (qo λi j=>.bl (decide (j<=i))):=oI λ_ _ _ _ _ _ _ q=>ge_int q
theorem D7:kr X (Dh .Is) (λx y H Q=>y=.non/\Q (.bl (decide (x=.non))) H):=by
 intro U s σ H x y v u Q I Y J h;obtain⟨rfl,q⟩:=h;cases J;refine is_none_gen (NO I q ?_);cases x <;> first
  |(cases Y;rfl)
  |(obtain⟨t,rfl⟩:=Y;rfl)
theorem kr.or {r Y:R2}(h:kr X f r)(h':kr X f Y):kr X f (λx y H Q=>r x y H Q\/Y x y H Q):=by
 intro U s σ H x y v u Q I G J q;rcases q with q|q
 .exact h U s σ H x y v u Q I G J q
 .exact h' U s σ H x y v u Q I G J q
theorem k8 (b:Bp){op:Wu}(h:op≠.In:=by decide)(h2:op≠.NotIn:=by decide):Mc op b=false:=by
 have Y:(op == CmpOp.In)=false:=by cases op <;> first|rfl|exact absurd rfl h
 have Q:(op == CmpOp.NotIn)=false:=by cases op <;> first|rfl|exact absurd rfl h2
 cases b <;> simp[Mc,Y,Q]
def iI (K:Ai)(x:V)(H:Hp)(k:As):Prop:=
 match x with
 |.non=>k=false
 |.bl b=>k=b
 |.int i=>k=(i != 0)
 |.str y=>y.length<=sizeLine/\k=((y.length:Am) != 0)
 |.byt y=>y.size<=sizeLine/\k=((y.size:Am) != 0)
 |.ref p=>(∃ Q,jg K H p Q/\k=!Q.isEmpty)\/(∃ Q,iy K H p Q/\k=!Q.isEmpty)\/∃ Y,H p=Ab (.dK Y)/\k=!Y.isEmpty
 |_=>Fb
theorem o6 {κ:Type}{Q:Aa (κ × V)}{vs:Aa (κ × Ac)}(r:KV Q vs):(!vs.isEmpty)=!Q.isEmpty:=by
 cases r <;> rfl
theorem mD {xs:Aa V}{ao:ah}(r:qJ xs ao):(!ao.toArray.isEmpty)=!xs.isEmpty:=by
 cases r <;> simp
theorem jW:(sizeLine:Ah)<2 ^ 63:=by rw[Gq];decide
theorem pI:AQ X (λx H Q=>∃ k,iI X.K x H k/\Q k H):=by
 intro w s σ H x v Q I N h;obtain⟨k,e,q⟩:=h;have M:=jW;have A:sizeLine=16777216:=Gq;cases x with
 |non =>
  cases N;have Y:k=false:=e;subst Y;exact truthy_none ⟨H,I,q⟩
 |bl b =>
  cases N;have Y:k=b:=e;subst Y;exact Yw ⟨H,I,q⟩
 |int i =>
  obtain⟨t,rfl⟩:=N;have Y:k=(i != 0):=e;subst Y;exact PySem.P.truthy_int ⟨H,I,q⟩
 |str y =>
  obtain⟨t,rfl⟩:=N;obtain⟨E,Y⟩:y.length<=sizeLine/\k=((y.length:Am) != 0):=e;subst Y;exact PySem.P.truthy_str li ⟨H,I.tok _,q⟩
 |byt y =>
  obtain⟨t,rfl⟩:=N;obtain⟨E,Y⟩:y.size<=sizeLine/\k=((y.size:Am) != 0):=e;subst Y;exact PySem.W.truthy_bytes li ⟨H,I.tok _,q⟩
 |ref p =>
  cases N;have Y:(∃ U,jg X.K H p U/\k=!U.isEmpty)\/(∃ U,iy X.K H p U/\k=!U.isEmpty)\/∃ G,H p=Ab (.dK G)/\k=!G.isEmpty:=e;rcases Y with⟨U,O,Y⟩|⟨U,O,Y⟩|⟨G,O,Y⟩
  .subst Y
   obtain⟨T,r,pl,B⟩:=I.list O;have J:=r.length;exact wpAny_truthy_list pl.isList (by simp only[Bg];lia) ⟨H,I.tok _,by rw[mD r];exact q⟩
  .subst Y
   obtain⟨T,r,pl,B⟩:=I.tuple O;have J:=r.length;exact truthy_tuple pl (by simp only[Bg];lia) ⟨H,I.tok _,by rw[mD r];exact q⟩
  .subst Y
   obtain⟨B,L,C,r,m⟩:G.length<=sizeLine/\(p == Jj)=false/\∃ C,KV G C/\s.heap.DictOf (xF X.prog X.w) p C:=I.hok p _ O;have J:G.length=C.length:=Paired.length r;exact wpAny_truthy_dict L m li ⟨H,I.tok _,by rw[o6 r];exact q⟩
 |_=>exact(show Fb from e).elim
theorem oJ:kr X (Ee .Add) (λx y H Q=>∃ i j,x=.str i/\y=.str j/\i.length+j.length<=sizeLine/\Q (.str (i++j)) H):=by
 intro O s σ H x y v u Q I U G h;obtain⟨i,j,rfl,rfl,Y,q⟩:=h;obtain⟨t,rfl⟩:=U;obtain⟨J,rfl⟩:=G;exact add_str (λJ N=>⟨.str (i++j),H,I.tok _,⟨_,rfl⟩,q⟩) Y
theorem vZ {x:V}(r:qJ [x] us):∃ u,us=[u]/\qK x u:=by
 cases r with
 |cons Y Q=>cases Q;exact⟨_,rfl,Y⟩
theorem Q4 {x y:V}(r:qJ [x,y] us):∃ u Q,us=[u,Q]/\qK x u/\qK y Q:=by
 cases r with
 |cons G U =>
  cases U with
  |cons Y J=>cases J;exact⟨_,_,rfl,G,Y⟩
theorem l5:vS X (.type "int") (λxs H Q=>(∃ i,xs=[.int i]/\Q (.int i) H)\/∃ k,xs=[.bl k]/\Q (.int (if k then 1 else 0)) H):=by
 intro J s σ H xs us Q I r h;rcases h with⟨i,rfl,q⟩|⟨k,rfl,q⟩
 .obtain⟨u,rfl,t,rfl⟩:=vZ r
  exact call_int_int ⟨.int i,H,I,⟨_,rfl⟩,q⟩
 .obtain⟨u,rfl,Y⟩:=vZ r
  cases Y;exact call_int_bool ⟨.int (if k then 1 else 0),H,I.tok _,⟨_,rfl⟩,q⟩
theorem sF:vS X (.type "str") (λxs H Q=>∃ i,xs=[.int i]/\i.natAbs.log2<1920/\Q (.str (toString i)) H):=by
 intro J s σ H xs us Q I r h;obtain⟨i,rfl,Y,q⟩:=h;obtain⟨u,rfl,t,rfl⟩:=vZ r;exact PySem.P.str_of_int Y ⟨.str _,H,I.tok _,⟨_,rfl⟩,q⟩
def MF (K:Ai)(x:V)(H:Hp)(n:Ah):Prop:=
 match x with
 |.str y=>y.length<=sizeLine/\n=y.length
 |.byt y=>y.size<=sizeLine/\n=y.size
 |.ref p=>(∃ Q,jg K H p Q/\n=Q.length)\/∃ Q,iy K H p Q/\n=Q.length
 |_=>Fb
theorem YA:vS X (.builtin "len") (λxs H Q=>∃ x n,xs=[x]/\MF X.K x H n/\Q (.int n) H):=by
 intro E s σ H xs us Q I r h;obtain⟨x,n,rfl,e,q⟩:=h;obtain⟨u,rfl,N⟩:=vZ r;have T:=jW;have L:sizeLine=16777216:=Gq;cases x with
 |str y =>
  obtain⟨t,rfl⟩:=N;obtain⟨B,J⟩:y.length<=sizeLine/\n=y.length:=e;subst J;exact len_str li ⟨.int _,H,I.tok _,⟨_,rfl⟩,q⟩
 |byt y =>
  obtain⟨t,rfl⟩:=N;obtain⟨B,J⟩:y.size<=sizeLine/\n=y.size:=e;subst J;exact PySem.W.len_bytes li ⟨.int _,H,I.tok _,⟨_,rfl⟩,q⟩
 |ref p =>
  cases N;have J:(∃ xs,jg X.K H p xs/\n=xs.length)\/∃ xs,iy X.K H p xs/\n=xs.length:=e;rcases J with⟨xs,U,J⟩|⟨xs,U,J⟩
  .subst J
   obtain⟨C,G,pl,O⟩:=I.list U;have Y:=G.length;exact Calls.call_len_list pl.isList (by simp only[Bg];lia) ⟨.int xs.length,H,I.tok _,⟨_,by simp only[Bg];rw[Y]⟩,q⟩
  .subst J
   obtain⟨C,G,pl,O⟩:=I.tuple U;have Y:=G.length;exact len_tuple pl (by simp only[Bg];lia) ⟨.int xs.length,H,I.tok _,⟨_,by simp only[Bg];rw[Y]⟩,q⟩
 |_=>exact(show Fb from e).elim
end
end _L
namespace _L
variable {mA:ai}
structure uf (h:Bn)(x dx C:Af)(mA:ai):Prop where
 obj:h.get? x=Ab (Uk C dx)
 ns:h.Ns1 dx mA
 ne:dx≠x
set_option tactic.hygienic true in
theorem X2 {h:Bn}{Y:Af}(n:h.Ns1 Y mA):∃ U,h.get? Y=Ab U/\∀ name,Wb name U=Ab (mA name):=by
 obtain⟨o,J,T,N,G,B,_,O⟩:=n;refine⟨o,N,λname=>?_⟩;have e:=O name;unfold nsFind findBy at e;rw[<- Array.find?_toList] at e;unfold Wb;rw[G];dsimp only
 split
 .rename_i y q
  rw[q] at e;exact congrArg Ab e
 .rename_i q
  rw[q] at e;have a:J.toList.any (·.refKey)=false:=by
   rw[List.any_eq_false];intro y L;obtain⟨z,t,Q⟩:=B y (Pb.mp L);simp[DictEntry.refKey,Q]
  have C:¬ J.toList.any (·.refKey)=true:=by rw[a];exact Gc
  rw[Bb C];exact congrArg Ab e
theorem uf.look {h:Bn}{x Y C:Af}(I:uf h x Y C mA):∃ Q,PySem.W.InstAt h x (Uk C Y) C (Ab Q)/\∀ name,Wb name Q=Ab (mA name):=
 let ⟨Q,J,U⟩:=X2 I.ns
 ⟨Q,⟨I.obj,rfl,rfl,J⟩,U⟩
section
variable {P:Be}{w:Br}{H H':Hp}{h h':Bn}{a C dx:Af}{fs G_:Aa (An × V)}
theorem PF (Q:gj P w H h)(e:H a=Ab (.ins C dx fs)):∃ mA,uf h a dx C mA/\(∀ f,jF (fs.lookup f) (mA f))/\Yg mA (fs.map (·.1))/\fs.length<=1000/\H dx=Ab (.own a):=by
 obtain⟨d,z,J,Y,mA,n,r,q⟩:=(show zG P w H h a (.ins C dx fs) from Q a _ e)
 exact⟨mA,⟨Y,n,J⟩,r,q,z,d⟩
end
structure yj (K:Ai)(C:Af):Prop where
 pg:Zw K C Rw=true
 hd:PySem.W.hasDictIn K C=true
 po:PySem.W.plainOver K C=true
 sa:Nq K (.ref C) "__setattr__" = Ab (Ab (.builtin "object.__setattr__"))
theorem yj.get {K:Ai}{C:Af}(c:yj K C)(f:An):Zw K C f=true:=c.pg
section
variable {X:Cx}{aj:aa}{σ : St}{H:Hp}{s:Ag}{A:Bk}{E:ae}{Q:ae}{c:Ac}{b:As}
inductive jf (K:Ai)(H:Hp):V->Ac->Prop where
 |non:jf K H .non (.type "NoneType")
 |bl (x:As):jf K H (.bl x) (.type "bool")
 |int (i:Am):jf K H (.int i) (.type "int")
 |str (x:An):jf K H (.str x) (.type "str")
 |flt (x:UInt64):jf K H (.flt x) (.type "float")
 |lst {a:Af} {xs:Aa V} (e:H a=Ab (.lst xs)):jf K H (.ref a) (.type "list")
 |frz {a:Af} {o:Ch} {xs:Aa V} (e:H a=Ab (.frz o (.lst xs))):jf K H (.ref a) (.type "list")
 |tup {a:Af} {xs:Aa V} (e:H a=Ab (.tup xs)):jf K H (.ref a) (.type "tuple")
 |dK {a:Af} {kvs:Aa (ci × V)} (e:H a=Ab (.dK kvs)):jf K H (.ref a) (.type "dict")
 |dT {a:Af} {kvs:Aa (Aa ci × V)} (e:H a=Ab (.dT kvs)):jf K H (.ref a) (.type "dict")
 |ins {a C dx:Af} {fs:Aa (An × V)} (e:H a=Ab (.ins C dx fs)) (cl:yj K C) (ha:Nq K (.ref C) "__class__" = Ab (Ab (.builtin "object.__class__")))
   (hn:Yx K (.builtin "object.__class__") "__get__" = Ab (Ab (.builtin "getset_descriptor.__get__"))) (htk:Aa0 K (.builtin "object.__class__")=Ab true)
   (hm:Wv K C (.type "object")=Ab true):jf K H (.ref a) (.ref C)
theorem ZS {x:V}{u t:Ac}(I:Inv X aj σ H s)(Y:qK x u)(ty:jf X.K H x t)(e:Lq X.K t c=Ab b)(h:∀ w,Q (.bool b) { s with toks:=w }) :
  Ap (Au X.prog X.w) A (call (.builtin "isinstance") [u,c]) Q E s:=by
 cases ty with
 |non=>cases (show u=De from Y);exact Eh PySem.W.kitx_none I.kIn Ld e (λz=>nomatch z) h
 |bl y=>cases (show u=Fu y from Y);exact Eh PySem.W.kitx_bool I.kIn Ld e (λz=>nomatch z) h
 |int i=>obtain⟨t,q⟩:=(show ∃ t,u=Ru i t from Y);cases q;exact Eh PySem.W.kitx_int I.kIn Ld e (λz=>nomatch z) h
 |str y=>obtain⟨t,q⟩:=(show ∃ t,u=Ys y t from Y);cases q;exact Eh PySem.W.kitx_str I.kIn Ld e (λz=>nomatch z) h
 |flt y=>obtain⟨t,q⟩:=(show ∃ t,u=Value.float y t from Y);cases q;exact Eh PySem.W.kitx_float I.kIn Ld e (λz=>nomatch z) h
 |@lst a N U =>
  cases (show u=Dk a from Y)
  obtain⟨_,_,n,_,G⟩:=(show zG X.prog X.w H s.heap a (.lst N) from I.hok a _ U)
  exact Eh Rx I.kIn ⟨_,G,rfl⟩ e (λz=>nomatch z) h
 |@frz a l N U =>
  cases (show u=Dk a from Y)
  obtain⟨_,_,_,n,_,G⟩:=(show zG X.prog X.w H s.heap a (.frz l (.lst N)) from I.hok a _ U)
  exact Eh Rx I.kIn ⟨_,G,rfl⟩ e (λz=>nomatch z) h
 |@tup a N U =>
  cases (show u=Dk a from Y)
  obtain⟨_,_,_,p⟩:=(show zG X.prog X.w H s.heap a (.tup N) from I.hok a _ U)
  obtain⟨o,G,B,_⟩:=p;exact Eh Xz I.kIn ⟨o,G,B⟩ e (λz=>nomatch z) h
 |@dK a L U =>
  cases (show u=Dk a from Y)
  obtain⟨_,_,r,_,p⟩:=(show zG X.prog X.w H s.heap a (.dK L) from I.hok a _ U)
  obtain⟨o,k,d,G,B,_⟩:=p;exact Eh Yy I.kIn ⟨o,G,B.1⟩ e (λz=>nomatch z) h
 |@dT a L U =>
  cases (show u=Dk a from Y)
  obtain⟨_,_,N,_,o,k,d,G,B,_⟩:=(show zG X.prog X.w H s.heap a (.dT L) from I.hok a _ U)
  exact Eh Yy I.kIn ⟨o,G,B.1⟩ e (λz=>nomatch z) h
 |@ins a C m f U M v j T g =>
  cases (show u=Dk a from Y)
  obtain⟨mA,O,_⟩:=PF I.hok U;obtain⟨od,J,_⟩:=O.look;exact Eh (PySem.W.kitx_own (M.get _) M.hd v j T g) I.kIn J e (λz=>nomatch z) h
end
end _L
namespace _L
variable {ps:Aa An}{ap:Aa Iu}{f:Af}{K:Ai}{mg:ai}{kindOf:An->Ak HT}{P:Be}{A:Bk}{w:Br}{am:Eu}
structure gt (k:Ah)(A:Bk):Prop where
 hd:A.handled=none
 dp:A.depth+3*k+5<Qn
 un:A.units+16*k+200<Fo
 gd:A.guards=Ab []
theorem gt.deeper {k:Ah}(r:gt (k+1) A)(ak:Iu):gt k (A.deeper ak):=
 ⟨r.hd,by have:=r.dp;show A.depth+1+3*k+5<_;lia,by have:=r.un;show A.units+3+16*k+200<_;lia,r.gd⟩
theorem gt.in1 {k:Ah}(r:gt (k+1) A):gt k A.in1:=
 ⟨r.hd,by have:=r.dp;show A.depth+3*k+5<_;lia,by have:=r.un;show A.units+1+16*k+200<_;lia,r.gd⟩
theorem gt.depth {k:Ah}(r:gt k A):A.depth<Qn:=by have:=r.dp;lia
theorem gt.units {k:Ah}(r:gt k A):A.units+64<Fo:=by have:=r.un;lia
def OG:TA:=λ_ H Q=>Q [] H
section
variable {X:Cx}{e:Bp}{es:Aa Bp}{te:TE}{t:TA}{ar:En}
theorem DD:PA X [] OG:=λ_ _ _ _ H Q I h=>Lg ⟨[],H,I,.nil,h⟩
def OJ (t:TA):TE:=λσ H Q=>t σ H λJ Y=>J.length<=sizeLine/\∀ p,Y p=none->Q (.ref p) (cc Y p (.tup J))
def OF (t:TA):TE:=λσ H Q=>t σ H λJ Y=>J.length<=sizeLine/\∀ p,Y p=none->Q (.ref p) (cc Y p (.lst J))
theorem DP  (h:PA X es t):PE X (.Tuple es x1 ar) (OJ t):=by
 intro O s σ H Q I N;refine wpAny_Tuple_spliced (bo (h ar O s σ H _ I N) λC Y ⟨B,U,J,r,z,q⟩=>⟨by rw[<- r.length];exact z,?_⟩)
 have G:U Y.heap.objs.size=none:=J.hok.fresh (Av _);refine⟨.ref Y.heap.objs.size,cc U Y.heap.objs.size (.tup B),J.laid (t':=Y.toks) (λb u e=>Aj _ e) (Av _) ?_,rfl,q _ G⟩;exact⟨z,C,r,⟨_,Bj _ rfl,rfl,_,rfl⟩⟩
theorem XR (h:PA X es t):PE X (.List es ar) (OF t):=by
 intro O s σ H Q I N;refine wpAny_List_spliced (bo (h ar O s σ H _ I N) λC Y ⟨B,U,J,r,z,q⟩=>⟨by rw[<- r.length];exact z,?_⟩)
 have G:U Y.heap.objs.size=none:=J.hok.fresh (Av _);refine⟨.ref Y.heap.objs.size,cc U Y.heap.objs.size (.lst B),J.laid (t':=Y.toks) (λb u e=>Aj _ e) (Av _) ?_,rfl,q _ G⟩;exact⟨z,C,0,r,Bj _ rfl⟩
end
abbrev Sp:=Aa V->Hp->VK->XK->Prop
abbrev sy:=Aa Iu->Hp->Ag->XK->Ac->Ag->Prop
variable {CX:sy}
structure lr (P:Be)(w:Br)(K:Ai)(mg:ai)(base:Bn)(A:Bk)(outer:Aa Iu)(s:Ag)(H:Hp):Prop where
 frames:A.frames=Ab outer
 mod:Mod K mg base
 bs:∀ b o,base.get? b=Ab o->s.heap.get? b=Ab o/\H b=none
 bsz:base.objs.size<=s.heap.objs.size
 funs:s.heap.FunFrames base outer
 frf:∀ b∈gx outer,H b=none
 hok:gj P w H s.heap
 bare:Og s.gens
def CE (ap:Aa Iu)(P:Be)(w:Br)(H:Hp)(s:Ag)(Q:VK)(u:Ac)(s':Ag):Prop:=
 ∃ v Y,s'.os=s.os/\Og s'.gens/\Un (gx ap) [] H Y s.heap s'.heap/\gj P w Y s'.heap/\qK v u/\Q v Y
def CR (CX:sy)(ap:Aa Iu)(P:Be)(w:Br)(H:Hp)(s:Ag)(Q:VK)(E:XK)(r:Xv)(s':Ag):Prop:=
 match r with
 |.ok (.ret u)=>CE ap P w H s Q u s'
 |.ok _=>Fb
 |.error e=>CX ap H s E e s'
structure kw (P:Be)(w:Br)(K:Ai)(mg:ai)(base:Bn)(CX:sy)(k:Ah)(f:Af)(fd:Fh)(ps:Aa An)(sp:Sp):Prop where
 len:∀ vs H Q E,sp vs H Q E->vs.length=ps.length
 run:∀ (A:Bk) (outer:Aa Iu) (s:Ag) (H:Hp) (args:Args) (us:ah) (vs:Aa V) (Q:VK) (E:XK),gt k A->lr P w K mg base A outer s H->Ol s fd args (ps.zip us)->qJ vs us->sp vs H Q E ->
  Ja (Au P w) A (.call (.ref f) args) (CR CX outer P w H s Q E) s
theorem kw.imp {base:Bn}{k:Ah}{fd:Fh}{sp Y:Sp}(F:kw P w K mg base CX k f fd ps sp)
  (h:∀ vs H Q E,Y vs H Q E->sp vs H Q E):kw P w K mg base CX k f fd ps Y:=
 ⟨λvs H Q E q=>F.len vs H Q E (h _ _ _ _ q),λA ap s H J U vs Q E O G C hv N=>F.run A ap s H J U vs Q E O G C hv (h _ _ _ _ N)⟩
theorem lr.in1 {base:Bn}{s:Ag}{H:Hp}(e:lr P w K mg base A ap s H) :
  lr P w K mg base A.in1 ap s H:=⟨e.frames,e.mod,e.bs,e.bsz,e.funs,e.frf,e.hok,e.bare⟩
section
variable {X:Cx}{aj:aa}{σ : St}{H:Hp}{s s':Ag}
theorem Inv.env0 (I:Inv X aj σ H s):lr X.prog X.w X.K X.mg X.base X.A X.stack s H:=
 ⟨I.ok.frames,I.ok.mod,I.bs,Bq I.ok.bsz I.sz,I.stack,I.stkFree,I.hok,I.bare⟩
theorem Inv.after {Q:VK}{u:Ac}(I:Inv X aj σ H s)(h:CE X.stack X.prog X.w H s Q u s'):EP X aj σ Q u s':=by
 obtain⟨v,G,os,Y,N,U,r,q⟩:=h;obtain⟨O,g,d,t,J⟩:=s';obtain rfl:J=s.os:=os;exact⟨v,G,I.call (h':=O) (g':=g) (d':=d) (t':=t) (ch:=[]) N U Y (λb z=>absurd z (by simp)),r,q⟩
end
def v8 (K:Ai)(fd:Fh)(ps:Aa An)(Y:ah):Prop:=
 ∀ (s:Ag) (Q:ah),K.In s.heap->(Q++Y).length=ps.length->Ol s fd ⟨Q,[]⟩ (ps.zip (Q++Y))
theorem v8.all {fd:Fh}(h:∀ us:Aa Ac,us.length=ps.length->Aa1 fd ⟨us,[]⟩=pure (ps.zip us)):v8 K fd ps []:=λs us _ Q=>by
 rw[Hg] at Q ⊢;exact .of_eq (h us Q)
structure cu (N P:Aa An)(sc:Eu):Prop where
 kind:sc.kind=.function
 co:sc.isCoroutine=false
 gen:sc.isGenerator=false
 nd:N.Nodup
 pre:N.take P.length=P
 par:∀ x∈P,sc.names.lookup x=Ab .local \/ sc.names.lookup x=Ab .cell
 nofree:∀ y∈sc.names,y.2≠.free
theorem nZ {x:An}:∀ {Q:Aa (An × Ac)} {m:ai},(∀ v,(x,v) ∉ Q)->Ww kindOf Q m x=m x
 |[],_,_=>rfl
 |(n,v)::r,m,h=>by
  unfold Ww;rw[nZ λw Y=>h w (Bt _ Y)]
  split
  .have:x≠n:=by rintro rfl;exact h v Cq
   simp[this]
  .rfl
theorem nX {x:An}:∀ {Q:Aa (An × Ac)} {m:ai},(∀ v,(x,v) ∉ Q)->Wx kindOf Q m x=m x
 |[],_,_=>rfl
 |(n,v)::r,m,h=>by
  unfold Wx;rw[nX λw Y=>h w (Bt _ Y)]
  split
  .rfl
  .have:x≠n:=by rintro rfl;exact h v Cq
   simp[this]
theorem nY {x:An}{v:Ac}:∀ {P:Aa An} {vs:ah} {i:Ah} {m:ai},P.Nodup->P[i]? = Ab x->vs[i]? = Ab v->kindOf x=Ab .local ->
  Ww kindOf (P.zip vs) m x=Ab v
 |[],_,_,_,_,h,_,_=>by simp at h
 |_::_,[],_,_,_,_,h,_=>by simp at h
 |p::P,w::vs,0,m,U,Y,Q,J=>by
  simp at Y Q;subst Y;subst Q;show Ww kindOf ((p,w)::P.zip vs) m p=_;unfold Ww;rw[nZ λv hv=>(Ph.mp U).1 (Pi hv).1,Ax J];simp
 |p::P,w::vs,i+1,m,U,Y,Q,J=>by
  show Ww kindOf ((p,w)::P.zip vs) m x=_;unfold Ww;exact nY (i:=i) (Ph.mp U).2 (by simpa using Y) (by simpa using Q) J
theorem nW {x:An}{v:Ac}:∀ {P:Aa An} {vs:ah} {i:Ah} {m:ai},P.Nodup->P[i]? = Ab x->vs[i]? = Ab v->kindOf x≠Ab .local ->
  Wx kindOf (P.zip vs) m x=Ab v
 |[],_,_,_,_,h,_,_=>by simp at h
 |_::_,[],_,_,_,_,h,_=>by simp at h
 |p::P,w::vs,0,m,U,Y,Q,J=>by
  simp at Y Q;subst Y;subst Q;show Wx kindOf ((p,w)::P.zip vs) m p=_;unfold Wx;rw[nX λv hv=>(Ph.mp U).1 (Pi hv).1,Bb J];simp
 |p::P,w::vs,i+1,m,U,Y,Q,J=>by
  show Wx kindOf ((p,w)::P.zip vs) m x=_;unfold Wx;exact nW (i:=i) (Ph.mp U).2 (by simpa using Y) (by simpa using Q) J
noncomputable def xV (N:Aa An)(vs:Aa V):St:=vs.map Ab++Di (N.length-vs.length) none
noncomputable def tK (CX:sy)(P:Be)(w:Br)(K:Ai)(mg:ai)(base:Bn)(N:Aa An)(Y:An)(am:Eu)(f:Af)(J:Ac)(A:Bk)(ap:Aa Iu)(s:Ag)(H:Hp)(E:XK):Cx where
 prog:=P
 w:=w
 K:=K
 mg:=mg
 base:=base
 A:=A.deeper (Gx Y am s.heap.objs.size f J)
 N:=N
 s₀:=s
 H₀:=H
 env:=Gx Y am s.heap.objs.size f J
 outer:=ap
 stack:=Gx Y am s.heap.objs.size f J::ap
 ex:=[]
 calm:=true
 fn:=λ_=>true
 pn:=[]
 xe:=λe G=>Ap (Au P w) (A.deeper (Gx Y am s.heap.objs.size f J)) (leaving (Gx Y am s.heap.objs.size f J) e) (λ_ Q=>CX ap H s E e Q) (λU Q=>CX ap H s E U Q) G
theorem sG {Q:Eu}{n:Ah}{x:An}(h:Q.names.lookup x=Ab .cell):∃ c,(Ho n Q.names []).lookup x=Ab c:=by
 have q:=Ks Q.names n [] (.inl h);exact Mw.mp q
theorem lG {base:Bn}{N:Aa An}{C:An}{B:Ac}{s T:Ag}{H:Hp}{E:XK}{us:ah}{vs:Aa V}
  (S:cu N ps am) (j:A.handled=none) (Y:lr P w K mg base A ap s H) (m:vs.length=ps.length) (r:qJ vs us)
  (x:InCallC s s.heap.objs.size (Ww (Gx C am s.heap.objs.size f B).kindOf (ps.zip us) λ_=>none) (Ho (s.heap.objs.size+1) am.names []) (Wx (Gx C am s.heap.objs.size f B).kindOf (ps.zip us) λ_=>none) T) :
  Inv (tK CX P w K mg base N C am f B A ap s H E) [] (xV N vs) H T:=by
 have l:ps.length<=N.length:=by have:=congrArg Ie S.pre;rw[Dn] at this;lia
 obtain⟨L,t,rfl,M⟩:=x.done;have J:∀ b:Af,b ∉ (tK CX P w K mg base N C am f B A ap s H E).ex:=λb z=>absurd (show b∈([]:ag) from z) (by simp)
 refine⟨⟨Y.mod,S.kind,rfl,rfl,Av _,λy z c L Q=>?_,λy hy=>?_,λy c _ h=>?_,λ_=>j,Wj Y.frames,.inr ⟨rfl,rfl⟩,λb z=>absurd z (J b),Y.bs,Y.bsz,λb _ _=>J b,λb z=>absurd z (J b),Y.funs,Y.frf⟩,
  rfl,Y.bare,Un.kept M,⟨_,x.toInCall.ns,λi y v L Q d=>?_⟩,λy c h=>⟨_,x.cell y c h⟩,Y.hok.fresh (Av _),λy c h=>?_,λp U=>absurd (show p∈([]:aa) from U) (by simp),Y.hok.kept M,?_⟩
 .exact name_of_addr x.apart (Gh L) (Gh Q)
 .have hy:am.names.lookup y=Ab .cell\/am.names.lookup y=Ab .free:=hy
  rcases hy with hy|hy
  .exact sG hy
  .exact absurd rfl (S.nofree _ (Gh hy))
 .exact Fc (x.above y c (Gh h))
 .have O:i<vs.length:=by
   unfold xV at Q;by_cases O:i<vs.length
   .exact O
   .rw[Cw (by simpa using O)] at Q
    rw[Nh] at Q
    split at Q <;> cases Q
  have g:vs[i]? = Ab v:=by
   unfold xV at Q;rw[Ci (by simpa using O),Ea] at Q
   cases e:vs[i]? with
   |none=>rw[e] at Q;cases Q
   |some a=>rw[e] at Q;cases Q;rfl
  obtain⟨u,I,o⟩:=r.get g;have U:ps[i]? = Ab y:=by
   rw[<- S.pre,Mx li];exact L
  have G:ps.Nodup:=by rw[<- S.pre];exact S.nd.sublist (List.take_sublist _ _)
  refine⟨u,o,?_⟩;rcases S.par y (Cb U) with k|k
  .exact .inl ⟨k,nY G U I k⟩
  .obtain⟨c,e⟩:=sG (n:=s.heap.objs.size+1) k
   refine .inr ⟨.inl k,c,e,?_⟩;have q:=x.cell y c e;rw[nW G U I (by show am.names.lookup y≠_;rw[k];decide)] at q
   exact q
 .exact Y.hok.fresh (Fc (x.above y c (Gh h)))
 .unfold xV
  show _=N.length;rw[Ca,Aq,List.length_replicate]
  lia
theorem EN {base:Bn}{k:Ah}{name O:An}{ii:Vi}{d:Aa Ey}{dV kV M pm Y ct oc:Ac}{a od:Ak Af}
  {l:Aw (Ak Ac)} {N ps:Aa An} {sp:Sp} (lk:K.lookup f=Ab ⟨oc,od,.func (Gn name O ii d am dV kV M pm a Y ct),l⟩) (m:Lr K Y O=true) (S:cu N ps am)
  (p:∀ vs H Q E,sp vs H Q E->vs.length=ps.length)
  (C:∀ (A:Bk) (ap:Aa Iu) (s:Ag) (H:Hp) (vs:Aa V) (Q:VK) (E:XK),gt k (A.deeper (Gx O am s.heap.objs.size f Y))->sp vs H Q E ->
   ∃ t,il (tK CX P w K mg base N O am f Y A ap s H E) d t/\t { nx:=λ_ G=>Q .non G,rt:=Q } (xV N vs) H) :
  kw P w K mg base CX (k+1) f (Gn name O ii d am dV kV M pm a Y ct) ps sp:=by
 refine⟨p,λA ap s H zb us vs Q E g z hb r j=>?_⟩;have hl:=p _ _ _ _ j;have KX:K.In s.heap:=z.mod.kin.keeps λb o e=>(z.bs b o e).1;have bb:s.heap.NoLimit:=z.mod.nolimit.keeps λb o e=>(z.bs b o e).1;have B:∀ y∈ps.zip us,am.names.lookup y.1=Ab .local \/ (am.names.lookup y.1=Ab .cell/\((Ho (s.heap.objs.size+1) am.names []).lookup y.1).isSome=true):=λ⟨n,v⟩ hy=>by
  rcases S.par n (Pi hy).1 with q|q
  .exact .inl q
  .exact .inr ⟨q,Ks _ _ _ (.inl q)⟩
 refine Vj g.depth (KX _ _ lk) rfl S.co S.gen rfl (XV KX m) (hb _ _ _ _ ?_);refine Rj S.kind B λak he h x=>?_;subst he;refine⟨bb.keeps x.toInCall.keep,codeAny_func ?_⟩;obtain⟨t,ht,hq⟩:=C A ap s H vs Q E (g.deeper _) j;have I:Inv (tK CX P w K mg base N O am f Y A ap s H E) [] (xV N vs) H h:=lG S g.hd z hl r x;refine Hw (ht [] h (xV N vs) H _ I hq) (λfl i L=>?_) λe i L=>L;have T:∀ {U : St} {G:Hp} {v:V} {u:Ac},Inv (tK CX P w K mg base N O am f Y A ap s H E) [] U G i->qK v u->Q v G->CE ap P w H s Q u i:=
  λ{U G v u} J c q=>⟨v,G,J.os,J.bare,J.base,J.hok,c,q⟩
 cases fl with
 |ret u =>
  obtain⟨v,U,G,J,c,q⟩:=L;exact T J c q
 |next =>
  obtain⟨U,G,J,q⟩:=L;exact T (v:=V.non) (u:=De) J rfl q
 |brk =>
  obtain⟨_,_,_,q⟩:=L;exact Ao q
 |cont =>
  obtain⟨_,_,_,q⟩:=L;exact Ao q
end _L
namespace _H
variable {Q:ae}{lo hi:Ak Am}{items:Aw Ac}
noncomputable def lexLt:Aa Am->Aa Am->As
 |[],[]=>false
 |[],_::_=>true
 |_::_,[]=>false
 |x::J,y::Y=>if x=y then lexLt J Y else decide (x<y)
theorem bf (x y:Am)(xs ys:Aa Am):lexLt (x::xs) (y::ys)=if x=y then lexLt xs ys else decide (x<y):=rfl
theorem gz:lexLt [] []=false:=rfl
theorem n9 (y:Am)(ys:Aa Am):lexLt [] (y::ys)=true:=rfl
theorem n8 (x:Am)(xs:Aa Am):lexLt (x::xs) [] = false:=rfl
theorem YZ (A:Bk)(s:Ag)(a:Am)(t:Qc)(c:Am)(u:Qc):∃ e,SeqAt.EqAt A s (.int a t) (.int c u) e/\(e=true↔a=c):=
 ⟨(a == c),SeqAt.EqAt.int_int a t c u,by simp⟩
theorem UK (A:Bk)(s:Ag)(a:Am)(t:Qc)(c:Am)(u:Qc)(prog:Be)(w:Br)(E:ae)(Q:ae)(h:Q (.bool (decide (a<c))) s) :
  Ap (Au prog w) A (richCompare .Lt (.int a t) (.int c u)) Q E s:=
 (Qf h:Ap (Au prog w) A (Dh .Lt (.int a t) (.int c u)) Q E s)
section
open PySem.SeqAt
open PySem.AutoSeq1 (wpAny_loadPart')
open PySem.MeetsSeq PySem.MeetsSeq2 PySem.MeetsSeq3
theorem d7 (l b:Af)(items Y:Aw Ac)(n n2:Ah)(dd i:Ak Af)(sl f:Aw (Ak Ac))(k z:Aa Am)(hi:Kt items.toList k)(hj:Kt Y.toList z) :
  Meets (Jo.«tuple.__lt__» ⟨[.ref l,.ref b],[]⟩)
   (λ_ R s=>s.heap.get? l=Ab { cls:=.type "tuple",dict:=dd,data:=.seq items n,slots:=sl } /\ s.heap.get? b=Ab { cls:=.type "tuple",dict:=i,data:=.seq Y n2,slots:=f } /\
    R (.ok (.ret (.bool (lexLt k z)))) s):=
 .of_wp λC w A R s h=>by
  obtain⟨j,g,d,o,os⟩:=s;obtain⟨hl,hb,h⟩:=h;have f2:=Sx;have z1:items.size=k.length:=by rw[<- hi.length];simp
  have z2:Y.size=z.length:=by rw[<- hj.length];simp
  wp_walk using wpAny_loadPart' hl,wpAny_loadPart' hb,Io _ (λqI b s'=>b.1=none/\s'=⟨j,g,d,o,os⟩/\∃ (p v:ah) (G U:Aa Am),qI=p.zip v /\
   Kt p G/\Kt v U/\G.length+Y.size=U.length+items.size/\R (.ok (.ret (.bool (lexLt G U)))) ⟨j,g,d,o,os⟩) _
  case turn =>
   rintro⟨y,x⟩ qI b s' ⟨T,rfl,p,v,G,U,N,E,O,J,B⟩;cases E with
   |nil=>rw[List.zip_nil_left] at N;cases N
   |cons a t M =>
    cases O with
    |nil=>rw[List.zip_nil_right] at N;cases N
    |cons c u H =>
     rw[Kj] at N;injection N with r I
     injection r with hy hx
     subst hy hx;rw[bf] at B;simp only[Bc] at J;obtain⟨e,he,L⟩:=YZ A.in1 ⟨j,g,d,o,os⟩ a t c u;refine Ad (he C w _ _ ?_);cases e with
     |true =>
      rw[Ax (L.mp rfl)] at B
      wp_walk
      exact⟨rfl,rfl,_,_,_,_,I,M,H,by lia,B⟩
     |false =>
      rw[Bb (λq=>absurd (L.mpr q) Gc)] at B;have m:=UK A.in1 ⟨j,g,d,o,os⟩ a t c u C w
      wp_walk using m
      exact⟨_,rfl,by simpa using B⟩
  case fin =>
   rintro⟨b1,b2⟩ s' ⟨T,rfl,p,v,G,U,N,E,O,J,B⟩;simp only at T;subst T;have hv:lexLt G U=decide (items.size<Y.size):=by
    cases E with
    |nil =>
     cases O with
     |nil =>
      simp only[Dd] at J;rw[gz];exact(Co li).symm
     |cons c u hw =>
      simp only[Dd,Bc] at J;rw[n9];exact(Dl li).symm
    |cons a t hv =>
     cases O with
     |nil =>
      simp only[Dd,Bc] at J;rw[n8];exact(Co li).symm
     |cons c u hw =>
      rw[Kj] at N;cases N
   rw[hv] at B
   wp_walk
   exact⟨_,rfl,by simpa [Om] using B⟩
  case h =>
   exact⟨rfl,rfl,items.toList,Y.toList,k,z,rfl,hi,hj,by lia,h⟩
end
section
variable {prog:Be}{w:Br}{A:Bk}{E:ae}{s:Ag}
theorem mv {l b:Af}{Y:Aw Ac}{U J:Aa Am}(z:Qm s.heap l items)(y:Qm s.heap b Y)(hi:Kt items.toList U)(M:Kt Y.toList J)
  (j:A.units<Fo) (h:Q (.bool (lexLt U J)) s):Ap (Au prog w) A (Dh .Lt (.ref l) (.ref b)) Q E s:=by
 obtain⟨⟨cls,q,data,u⟩,I,H,n,L⟩:=id z;obtain⟨⟨T,B,data2,C⟩,N,G,k,O⟩:=id y;simp only at H L G O;subst H L G O;exact Um (op:=.Lt) ⟨_,I,rfl⟩ ⟨_,N,rfl⟩ Vk Uo (Tz _ _) (d7 l b items Y n k q B u C U J hi M)
  ⟨I,N,show Fu (lexLt U J)≠Wk/\Q (.bool (lexLt U J)) s from⟨(λx=>nomatch x),h⟩⟩ j
theorem qt {t b:Af}{vs Y:ah}(y:Qm s.heap t vs.toArray)(j:Qm s.heap b Y.toArray)(hv:vs≠[])
  (h1:Y=[]->Q (.ref t) s) (h2:Y≠[]->Q (.ref s.heap.objs.size) { s with heap:=s.heap.push { cls:=.type "tuple",data:=.seq (vs++Y).toArray } })
  (hsz:vs.length+Y.length<=sizeLine):Ap (Au prog w) A (Ee .Add (.ref t) (.ref b)) Q E s:=by
 obtain⟨⟨cls,z,data,M⟩,C,I,n,L⟩:=id y;obtain⟨⟨T,G,data2,U⟩,J,N,H,O⟩:=id j;simp only at I L N O;subst I L N O;have e:vs.toArray++Y.toArray=(vs++Y).toArray:=by simp
 by_cases B:Y=[]
 .exact Yi ⟨_,C,rfl⟩ ⟨_,J,rfl⟩ Tj Wy Oa Ni (My _ _)
   (tuple_addW1 t b vs.toArray Y.toArray n H z G M U (by simpa using hv) (by simp[B])) ⟨C,J,h1 B⟩
 .refine Yi ⟨_,C,rfl⟩ ⟨_,J,rfl⟩ Tj Wy Oa Ni (My _ _)
   (tuple_addW2 t b vs.toArray Y.toArray n H z G M U (by simpa using hv) (by simpa using B) (by rw[Bg,Bg];exact hsz)) ⟨C,J,?_⟩
  rw[e];exact h2 B
noncomputable def bx (n d:Ah):Ak Am->Ah
 |none=>d
 |some v=>if v<0 then (v+(n:Am)).toNat else min v.toNat n
theorem R5 (n d:Ah)(Y:d<=n)(o:Ak Am):bx n d o<=n:=by
 cases o with
 |none=>exact Y
 |some v =>
  show (if v<0 then (v+(n:Am)).toNat else min v.toNat n)<=n
  by_cases hv:v<0
  .rw[Ax hv];lia
  .rw[Bb hv];exact Nat.min_le_right _ _
theorem cA (v:Am)(n d:Ah):(if v<0 then max (v+(n:Am)) 0 else min v (n:Am))=((bx n d (Ab v):Ah):Am):=by
 show (if v<0 then max (v+(n:Am)) 0 else min v (n:Am))=(((if v<0 then (v+(n:Am)).toNat else min v.toNat n):Ah):Am)
 by_cases hv:v<0
 .simp only[Ax hv];lia
 .simp only[Bb hv];lia
theorem iK (lo hi:Ak Am)(n:Ah):Gi lo hi 1 (n:Am)=(((bx n 0 lo:Ah):Am),((bx n n hi:Ah):Am)):=by
 have Y:¬ ((1:Am)<0):=by lia
 unfold Gi;simp only[Y,Ds];refine Prod.ext ?_ ?_
 .cases lo with
  |none=>rfl
  |some v=>exact cA v n 0
 .cases hi with
  |none=>rfl
  |some v=>exact cA v n n
theorem oK (i j:Ah):Gj (i:Am) (j:Am) 1=j-i:=by
 unfold Gj;have Y:(1:Am)>0:=by lia
 simp only[Y,Du,Yj]
 split <;> lia
theorem mZ {v:Ac}{o:Ak Am}{Q:Ak Am->Ag->Prop}(p:Pz v o)(h:Q o s):Ap (Au prog w) A (Builtin.Slice.slicePartIndex v) Q E s:=by
 cases p with
 |none=>exact Qo h
 |int i t=>exact slicePart_int h
theorem uL {N:Af}{G U:Ac}{n:Ah}{Q:Am × Am × Ah->Ag->Prop}(hs:s.heap.IsSliceOf N G U .none)(pl:Pz G lo)(O:Pz U hi)
  (h:Q (((bx n 0 lo:Ah):Am),1,bx n n hi-bx n 0 lo) s):Ap (Au prog w) A (Jd (.ref N) (pure (n:Am))) Q E s:=by
 obtain⟨os,Y,C,J⟩:=id hs;unfold Jd Ry;refine Ad (Ad (Ed Y J (x:=G) rfl (Ad (Ed Y J (x:=U) rfl (Ad (Ed Y J (x:=.none) rfl (Al ?_)))))));refine Ad (Qo ?_);show Ap _ _ (if ((1:Am) == 0)=true then _ else _) _ _ s
 rw[Bb (by decide)]
 refine Ad (mZ pl (Ad (mZ O (Ad (Al ?_)))));show Ap _ _ (match Gi lo hi 1 (n:Am) with|(lo,hi)=>pure (lo,(1:Am),Gj lo hi 1)) _ _ s
 rw[iK lo hi n];show Ap _ _ (pure (((bx n 0 lo:Ah):Am),(1:Am),Gj ((bx n 0 lo:Ah):Am) ((bx n n hi:Ah):Am) 1)) _ _ s;rw[oK];exact Al h
theorem U4 (xs:Aw Ac)(i k:Ah):((Cg k).filterMap λ(m:Ah)=>xs[((i:Am)+(m:Am)*1).toNat]?).toArray=((xs.toList.drop i).take k).toArray:=by
 have e:(λ(m:Ah)=>xs[((i:Am)+(m:Am)*1).toNat]?)=λm=>xs[i+m]?:=by
  funext m
  have:((i:Am)+(m:Am)*1).toNat=i+m:=by lia
  rw[this]
 rw[e];have:=pick_run xs i k;rw[Qx] at this;have Y:((λx=>xs[x]?)∘λx=>i+x)=λm=>xs[i+m]?:=rfl;rw[Y] at this;rw[this]
theorem ip {t C:Af}{B L:Ac}(J:Qm s.heap t items)(hs:s.heap.IsSliceOf C B L .none)(pl:Pz B lo)(T:Pz L hi)
  (hw:¬ (bx items.size 0 lo=0/\bx items.size items.size hi=items.size))
  (h:Q (.ref s.heap.objs.size) { s with heap:=s.heap.push { cls:=.type "tuple",data:=.seq ((items.toList.drop (bx items.size 0 lo)).take (bx items.size items.size hi-bx items.size 0 lo)).toArray } })
  (hsz:items.size<=sizeLine):Ap (Au prog w) A (On (.ref t) (.ref C)) Q E s:=by
 have Y:sizeOk (.seq ((items.toList.drop (bx items.size 0 lo)).take (bx items.size items.size hi-bx items.size 0 lo)).toArray):=by
  show ((items.toList.drop (bx items.size 0 lo)).take (bx items.size items.size hi-bx items.size 0 lo)).toArray.size<=sizeLine;rw[Bg,Dn,Ez,Bi]
  lia
 have H:bx items.size items.size hi<=items.size:=R5 _ _ (Av _) hi;obtain⟨os,O,U,I⟩:=id hs;have N:s.TypeIs (.ref C) "slice":=⟨os,O,U⟩;unfold On
 try with_reducible refine Ef ?_
 first|refine Ad (Al ?_)|skip
 refine Ad (Rz J.typeIs (by decide) ?_)
 refine Ad (El (name:=Ga "__getitem__") J.typeIs Do
  (Eo Do J.typeIs Qg ?_ (Qy _ _)))
 show Ap _ _ (Je (.ref t) >>= _) _ _ s;refine Ad (Wz J ?_);refine Ad (Kc N ?_);rw[Ax (by decide)]
 refine Ad (uL hs pl T ?_);have G:¬ ((((bx items.size 0 lo:Ah):Am) == 0&&(1:Am) == 1&&(bx items.size items.size hi-bx items.size 0 lo) == items.size)=true):=by
  intro q;rw[Bd,Bd] at q;have M:((bx items.size 0 lo:Ah):Am)=0:=eq_of_beq q.1.1;have z:bx items.size items.size hi-bx items.size 0 lo=items.size:=eq_of_beq q.2;exact hw ⟨by lia,by lia⟩
 show Ap _ _ (if (((bx items.size 0 lo:Ah):Am) == 0&&(1:Am) == 1&&(bx items.size items.size hi-bx items.size 0 lo) == items.size)=true then _ else _) _ _ s
 rw[Bb G,U4]
 first
  |exact Ad (m:=Ev _) (Dm (Al ⟨_,rfl,Al h⟩) Y)
  |exact Ad (m:=Ev _) (Dm (Ad (Al (Al ⟨_,rfl,Al h⟩))) Y)
  |exact Ad (Ad (m:=Ev _) (Dm (Al (Al ⟨_,rfl,Al h⟩)) Y))
  |exact Ad (Ad (m:=Ev _) (Dm (Al ⟨_,rfl,Al h⟩) Y))
end
end _H
namespace _L
abbrev TO:=St->Hp->(Ak Am->Hp->Prop)->Prop
def PO (X:Cx)(e:Ak Bp)(t:TO):Prop:=
 ∀ (J:aa) (s:Ag) (σ : St) (H:Hp) (Q:Ak Am->Hp->Prop),Inv X J σ H s->t σ H Q ->
  Ap (Au X.prog X.w) X.A (evalPart e X.env) (λu U=>∃ o Y,Inv X J σ Y U/\Pz u o/\Q o Y) X.xe s
def FY:TO:=λ_ H Q=>Q none H
def CW (t:TE):TO:=λσ H Q=>t σ H λx Y=>∃ i,x=.int i/\Q (Ab i) Y
theorem mB {Q:Aa Am}:∀ {us:ah},qJ (Q.map V.int) us->Kt us Q:=by
 induction Q with
 |nil=>intro us r;rw[Yk] at r;cases r;exact .nil
 |cons n Q J =>
  intro us r;rw[Dt] at r;cases r with
  |cons U Y =>
   obtain⟨t,e⟩:=U;subst e;exact .cons n t (J Y)
section
variable {X:Cx}{e:Bp}{te:TE}{lo hi:Ak Bp}{tl th:TO}{ar p2:En}
theorem F2:PO X none FY:=by
 intro Y s σ H Q I h;rw[Sa];exact Al ⟨none,H,I,.none,h⟩
theorem F3 (h:PE X e te):PO X (Ab e) (CW te):=by
 intro U s σ H Q I O;rw[WF];refine bo (h U s σ H _ I O) λu C ⟨x,N,Y,G,J⟩=>?_;obtain⟨i,rfl,q⟩:=J;obtain⟨t,rfl⟩:=G;exact⟨Ab i,N,Y,.int i t,q⟩
def q_ (X:Cx)(r:V->Ak Am->Ak Am->Hp->VK->Prop):Prop:=
 ∀ (Y:aa) (s:Ag) (σ : St) (H:Hp) (x:V) (v J G:Ac) (lo hi:Ak Am) (U:Af) (Q:VK),Inv X Y σ H s->qK x v->s.heap.IsSliceOf U J G .none->Pz J lo->Pz G hi->r x lo hi H Q ->
  ∃ T id,typeLookup (.type T) "__getitem__" = pure (Ab (.builtin id))/\s.TypeIs v T/\Ap (Au X.prog X.w) X.A (On v (.ref U)) (EP X Y σ Q) X.xe s
theorem q_.or {r U:V->Ak Am->Ak Am->Hp->VK->Prop}(h:q_ X r)(h':q_ X U):q_ X (λx lo hi H Q=>r x lo hi H Q\/U x lo hi H Q):=by
 intro G s σ H x v O B lo hi C Q I N J pl Y q;rcases q with q|q
 .exact h G s σ H x v O B lo hi C Q I N J pl Y q
 .exact h' G s σ H x v O B lo hi C Q I N J pl Y q
def zu (r:V->Ak Am->Ak Am->Hp->VK->Prop)(te:TE)(tl th:TO):TE:=λσ H Q=>te σ H λx Y=>tl σ Y λl J=>th σ J λu U=>r x l u U Q
theorem rR {r:V->Ak Am->Ak Am->Hp->VK->Prop}(C:q_ X r)(o:PE X e te)(c:PO X lo tl)(f:PO X hi th):PE X (.Subscript e (.Slice lo hi none p2) ar) (zu r te tl th):=by
 intro J s σ H Q I h;refine WP (bo (o J s σ H _ I h) λv E ⟨x,m,L,t,A⟩=>?_);refine Zx (bo (c J E σ m _ L A) λG d ⟨l,k,p,pl,z⟩=>bo (f J d σ k _ p z) λU Y ⟨u,N,g,O,y⟩=>?_);rw[Sa];refine Al ?_;have w:Inv X J σ N { Y with heap:=Y.heap.push { cls:=.type "slice",data:=.fields #[G,U,.none] } }:=g.kept (t':=Y.toks) λb n q=>Aj _ q
 obtain⟨T,id,B,j,M⟩:=C J { Y with heap:=Y.heap.push { cls:=.type "slice",data:=.fields #[G,U,.none] } } σ N x v G U l u Y.heap.objs.size Q w t (Ya ..) pl O y
 show Ap (Au X.prog X.w) X.A (Xa e (.Slice lo hi none p2) v (.ref Y.heap.objs.size)) (EP X J σ Q) X.xe { Y with heap:=Y.heap.push { cls:=.type "slice",data:=.fields #[G,U,.none] } }
 exact Aa2 (ops:=[.ref Y.heap.objs.size,v]) j B M (by with_unfolding_all rfl)
def gZ (xs:Aa V)(lo hi:Ak Am):Aa V:=(xs.drop (_H.bx xs.length 0 lo)).take (_H.bx xs.length xs.length hi-_H.bx xs.length 0 lo)
theorem bE (xs:Aa V)(lo hi:Ak Am):(gZ xs lo hi).length<=xs.length:=by
 unfold gZ;rw[Dn,Ez]
 lia
def OB (K:Ai):V->Ak Am->Ak Am->Hp->VK->Prop:=λx lo hi H Q=>∃ a Y,x=.ref a/\iy K H a Y /\
 ¬ (_H.bx Y.length 0 lo=0/\_H.bx Y.length Y.length hi=Y.length)/\∀ p,H p=none->Q (.ref p) (cc H p (.tup (gZ Y lo hi)))
theorem R8:q_ X (OB X.K):=by
 intro E s σ H x v A z lo hi M Q I B O pl N h;obtain⟨a,J,rfl,C,T,q⟩:=h;cases B;obtain⟨L,r,G,U⟩:=I.tuple C;have Y:L.toArray.size=J.length:=by rw[Bg];exact r.length.symm
 refine⟨"tuple",_,Do.lookup,G.typeIs,?_⟩;refine _H.ip G O pl N (by rw[Y];exact T) ?_ (by rw[Y];exact U)
 rw[Y];refine⟨.ref s.heap.objs.size,_,I.laid (t':=s.toks) (o:=.tup (gZ J lo hi)) (λb w q=>Aj _ q) (Av _) ?_,rfl,q _ (I.hok.fresh (Av _))⟩;exact⟨Bq (bE J lo hi) U,_,(r.drop (_H.bx J.length 0 lo)).take (_H.bx J.length J.length hi-_H.bx J.length 0 lo),Yv _ _⟩
end
end _L
namespace _L
variable {aj:aa}{s:Ag}{H:Hp}{σ:St}
noncomputable def mw (n:Ah)(i:Am):Ak Ah:=if 0<=i then (if i<n then Ab i.toNat else none) else if -(n:Am)<=i then Ab (i+n).toNat else none
def gg {α:Type}(xs:Aa α)(i:Am):Ak α:=(mw xs.length i).bind λj=>xs[j]?
theorem cU {n:Ah}{i:Am}{j:Ah}(h:mw n i=Ab j):seqIndex? i n=Ab j/\j<n /\ -(n:Am)<=i/\i<n:=by
 unfold mw at h;by_cases Y:0<=i
 .rw[Ax Y] at h
  by_cases Q:i<n
  .rw[Ax Q] at h
   have e:i.toNat=j:=Dc h;exact⟨by rw[Zy Y Q,e],by lia,by lia,Q⟩
  .rw[Bb Q] at h;cases h
 .rw[Bb Y] at h
  by_cases Q : -(n:Am)<=i
  .rw[Ax Q] at h
   have e:(i+n).toNat=j:=Dc h;exact⟨by rw[seqIndex_neg li Q,e],by lia,Q,by lia⟩
  .rw[Bb Q] at h;cases h
theorem tF {α:Type}{xs:Aa α}{i:Am}{v:α}(h:gg xs i=Ab v):∃ j,seqIndex? i xs.length=Ab j/\xs[j]? = Ab v/\j<xs.length /\ -(xs.length:Am)<=i/\i<xs.length:=by
 unfold gg at h;cases e:mw xs.length i with
 |none=>rw[e] at h;cases h
 |some j =>
  rw[e] at h;obtain⟨U,Q,Y,J⟩:=cU e;exact⟨j,U,h,Q,Y,J⟩
def u0 (b:Bp):Prop:=∀ o i,subscripted b false o i=operate [o,i] (On o i)
def rk (X:Cx)(r:R2):Prop:=
 ∀ (J Y:Bp) (aj:aa) (s:Ag) (σ : St) (H:Hp) (x y:V) (v u:Ac) (Q:VK),Inv X aj σ H s->qK x v->qK y u->r x y H Q ->
  subscripted Y false v u=operate [v,u] (On v u)->Ap (Au X.prog X.w) X.A (Xa J Y v u) (EP X aj σ Q) X.xe s
def vz (X:Cx)(id:Eg)(r:V->Aa V->Hp->VK->Prop):Prop:=
 ∀ (aj:aa) (s:Ag) (σ : St) (H:Hp) (x:V) (J:Aa V) (v:Ac) (Y:ah) (Q:VK),Inv X aj σ H s->qK x v->qJ J Y->r x J H Q ->
  Ap (Au X.prog X.w) X.A (call (.builtin id) (v::Y)) (EP X aj σ Q) X.xe s
section
variable {X:Cx}{a b:Bp}{ta tb:TE}{ar:En}
theorem rk.or {r G:R2}(h:rk X r)(h':rk X G):rk X (λx y H Q=>r x y H Q\/G x y H Q):=by
 intro Y J aj s σ H x y v u Q I N O q U;rcases q with q|q
 .exact h Y J aj s σ H x y v u Q I N O q U
 .exact h' Y J aj s σ H x y v u Q I N O q U
theorem vz.or {id:Eg}{r J:V->Aa V->Hp->VK->Prop}(h:vz X id r)(h':vz X id J):vz X id (λx xs H Q=>r x xs H Q\/J x xs H Q):=by
 intro aj s σ H x xs v Y Q I U rs q;rcases q with q|q
 .exact h aj s σ H x xs v Y Q I U rs q
 .exact h' aj s σ H x xs v Y Q I U rs q
theorem CC {r:R2}(G:rk X r)(C:PE X a ta)(N:PE X b tb)(hs:u0 b):PE X (.Subscript a b ar) (zv r ta tb):=by
 intro aj s σ H Q I h;exact WP (AY C N I h λv u Y x y J O B U q=>G a b aj Y σ J x y v u Q O B U q (hs _ _))
def O1 (K:Ai):R2:=λx y H Q=>∃ p Y i v,x=.ref p/\y=.int i/\jg K H p Y/\gg Y i=Ab v/\Q v H
def O7 (K:Ai):R2:=λx y H Q=>∃ p Y i v,x=.ref p/\y=.int i/\iy K H p Y/\gg Y i=Ab v/\Q v H
def O6:R2:=λx y H Q=>∃ z i c,x=.str z/\y=.int i/\z.length<=sizeLine/\gg z.cps.toList i=Ab c/\Q (.str ⟨#[c]⟩) H
theorem cV:rk X (O1 X.K):=by
 intro N O aj s σ H x y v u Q I M o h B;obtain⟨p,e,i,z,rfl,rfl,E,T,q⟩:=h;cases M;obtain⟨t,rfl⟩:=o;obtain⟨k,r,pl,f⟩:=I.list E;obtain⟨j,J,l,m,g,d⟩:=tF T;obtain⟨w,C,G⟩:=r.get l;have A:=r.length;have n:=jW;have Y:EP X aj σ Q w s:=⟨z,H,I,G,q⟩;by_cases L:0<=i
 .have U:i.toNat=j:=by
   rw[Zy L d] at J;exact Dc J
  exact item_listR pl.isList L li (by rw[U];simpa using C) Y B
 .have U:(i+(k.toArray.size:Am)).toNat=j:=by
   rw[seqIndex_neg li g] at J;rw[Bg,<- A];exact Dc J
  exact Uq (x:=w) pl.isList.typeIs Yz.lookup
   (wpAny_getItem_list_neg (Q:=λr c=>r=w/\EP X aj σ Q r c) pl.isList li (by rw[Bg] <;> lia) li (by rw[U];simpa using C) ⟨rfl,Y⟩) B
theorem L5:rk X (O7 X.K):=by
 intro U G aj s σ H x y v u Q I T E h C;obtain⟨p,f,i,z,rfl,rfl,B,O,q⟩:=h;cases T;obtain⟨t,rfl⟩:=E;obtain⟨c,r,pl,o⟩:=I.tuple B;obtain⟨j,k,A,l,d,m⟩:=tF O;obtain⟨w,N,J⟩:=r.get A;have L:=r.length;have g:=jW;have Y:EP X aj σ Q w s:=⟨z,H,I,J,q⟩;exact Uq (x:=w) pl.typeIs slot_tuple_getitem.lookup
  (getItem_tuple (j:=j) (Q:=λr M=>r=w/\EP X aj σ Q r M) pl li li (by rw[Bg,<- L];exact k) (by simpa using N) ⟨rfl,Y⟩) C
theorem L4:rk X O6:=by
 intro Y J aj s σ H x y v u Q I B L h N;obtain⟨z,i,c,rfl,rfl,w,G,q⟩:=h;obtain⟨t,rfl⟩:=B;obtain⟨o,rfl⟩:=L;obtain⟨j,U,T,k,A,M⟩:=tF G;have C:z.cps.toList.length=z.length:=by simp[Jw]
 rw[C] at U A M;have p:=jW;exact Aa2 (Md s z t) slot_str_getitem.lookup (getItem_str (c:=c) (by
  have O:decide (i < -(2 ^ 63:Am))=false:=Co li;have E:decide (i>=2 ^ 63)=false:=Co li;rw[O,E,Bool.or_false]) (by rw[U];simpa using T) ⟨.str ⟨#[c]⟩,H,I.tok _,⟨_,rfl⟩,q⟩) N
theorem oE (ao:ah)(n j:Ah)(u:Ac):Fj (·.setIfInBounds j u) { cls:=.type "list",data:=.seq ao.toArray n } = { cls:=.type "list",data:=.seq (ao.set j u).toArray n }:=by
 simp[Fj]
theorem Inv.lst {p:Af}{xs:Aa V}(I:Inv X aj σ H s)(h:H p=Ab (.lst xs)) :
  ∃ (ao:ah) (n:Ah),qJ xs ao/\s.heap.get? p=Ab { cls:=.type "list",data:=.seq ao.toArray n } /\ xs.length<=sizeLine:=by
 obtain⟨z,ao,n,r,e⟩:=I.hok p _ h;exact⟨ao,n,r,e,z⟩
theorem Inv.lstUpd {p:Af}{xs ys:Aa V}{ao jd:ah}{n Q:Ah}{f:Ch->Ch}(I:Inv X aj σ H s)(h:H p=Ab (.lst xs))
  (J:s.heap.get? p=Ab { cls:=.type "list",data:=.seq ao.toArray n }) (Y:f { cls:=.type "list",data:=.seq ao.toArray n } = { cls:=.type "list",data:=.seq jd.toArray Q }) (r:qJ ys jd) (hz:ys.length<=sizeLine) (t:Ah) :
  Inv X aj σ (cc H p (.lst ys)) { s with heap:=s.heap.update p f,toks:=t }:=by
 have e:(s.heap.update p f).get? p=Ab { cls:=.type "list",data:=.seq jd.toArray Q }:=by
  rw[Ek f J (by rw[Y] <;> rfl),Y]
 refine I.write (x:=p) (e:=p) (by rw[h];trivial) (.inl rfl) (λb u U q=>(Df _ _ (Fm U)).trans q) ⟨_,e⟩ ?_
 exact⟨hz,jd,Q,r,e⟩
def CJ:V->V->V->Hp->(Hp->Prop)->Prop:=λo i v H Q=>∃ p Y k j,o=.ref p/\i=.int k/\H p=Ab (.lst Y)/\mw Y.length k=Ab j/\Q (cc H p (.lst (Y.set j v)))
theorem US:dU X CJ:=by
 intro aj s σ H o i v d l u Q I y w M h;obtain⟨p,z,k,j,rfl,rfl,O,E,q⟩:=h;cases y;obtain⟨t,rfl⟩:=w;obtain⟨L,n,r,J,A⟩:=I.lst O;obtain⟨Y,c,C,T⟩:=cU E;have U:=r.length;have g:=jW;have N:Inv X aj σ (cc H p (.lst (z.set j v))) { s with heap:=s.heap.update p (Fj (·.setIfInBounds j u)) }:=
  I.lstUpd O J (oE L n j u) (r.set M j) (by rw[Aa3];exact A) s.toks
 by_cases B:0<=k
 .have G:k.toNat=j:=by
   rw[Zy B T] at Y;exact Dc Y
  exact PySem.W.ki_setAt J B li (by rw[Bg,<- U];exact T) (by rw[G];exact⟨_,N,q⟩)
 .have G:(k+(L.toArray.size:Am)).toNat=j:=by
   rw[seqIndex_neg li C] at Y;rw[Bg,<- U];exact Dc Y
  exact PySem.W.ki_setBack J li (by rw[Bg,<- U];exact C) li (by rw[G];exact⟨_,N,q⟩)
theorem eE (lo hi:Ak Am)(n:Ah):(Mq lo hi none n).1=((_H.bx n 0 lo:Ah):Am)/\(Mq lo hi none n).2.1=((_H.bx n n hi:Ah):Am)/\(Mq lo hi none n).2.2=1:=by
 refine⟨?_,?_,rfl⟩
 .cases lo with
  |none=>simp[Mq,_H.bx]
  |some i =>
   simp only[Mq,_H.bx,Zz,show (1:Am)>0 by decide,Du]
   by_cases h:i<0
   .simp only[h,Du] <;> lia
   .simp only[h,Ds] <;> lia
 .cases hi with
  |none=>simp[Mq,_H.bx]
  |some i =>
   simp only[Mq,_H.bx,Zz,show (1:Am)>0 by decide,Du]
   by_cases h:i<0
   .simp only[h,Du] <;> lia
   .simp only[h,Ds] <;> lia
theorem d0 (ao:ah)(lo hi:Ak Am):slicePick ao.toArray lo hi none=((ao.drop (_H.bx ao.length 0 lo)).take (_H.bx ao.length ao.length hi-_H.bx ao.length 0 lo)).toArray:=by
 obtain⟨J,Q,Y⟩:=eE lo hi ao.toArray.size;unfold slicePick;rw[J,Q,Y];simp only[sliceRange_one,pick_run,Bg] <;> rfl
def O9 (K:Ai):V->Ak Am->Ak Am->Hp->VK->Prop:=λx lo J H Q=>∃ a Y,x=.ref a/\jg K H a Y/\∀ p,H p=none->Q (.ref p) (cc H p (.lst (gZ Y lo J)))
theorem aU:q_ X (O9 X.K):=by
 intro aj s σ H x v E w lo U A Q I L O pl N h;obtain⟨a,Y,rfl,B,q⟩:=h;cases L;obtain⟨T,r,G,C⟩:=I.list B;have J:=r.length;refine⟨"list",_,Yz.lookup,G.isList.typeIs,?_⟩;refine wpAny_getItem_list_slice G.isList O pl N .none (by simp) ?_ (by rw[Bg] <;> lia)
 rw[d0,<- J];refine⟨.ref s.heap.objs.size,_,I.laid (t':=s.toks) (o:=.lst (gZ Y lo U)) (λb M q=>Aj _ q) (Av _) ?_,rfl,q _ (I.hok.fresh (Av _))⟩;exact⟨Bq (bE Y lo U) C,_,0,(r.drop (_H.bx Y.length 0 lo)).take (_H.bx Y.length Y.length U-_H.bx Y.length 0 lo),Bj _ rfl⟩
theorem rQ:kr X (Dh .NotIn) (λx y H Q=>∃ i j,x=.str i/\y=.str j/\Q (.bl (!(!(Nj j i 0 j.length 1).isEmpty))) H):=by
 intro aj s σ H x y v u Q I Y J h;obtain⟨i,j,rfl,rfl,q⟩:=h;obtain⟨t,rfl⟩:=Y;obtain⟨U,rfl⟩:=J;exact notIn_str ⟨.bl _,H,I,rfl,q⟩
theorem vS.or {f:Ac}{r J:Aa V->Hp->VK->Prop}(h:vS X f r)(h':vS X f J):vS X f (λxs H Q=>r xs H Q\/J xs H Q):=by
 intro aj s σ H xs Y Q I rs q;rcases q with q|q
 .exact h aj s σ H xs Y Q I rs q
 .exact h' aj s σ H xs Y Q I rs q
theorem gX:vS X (.type "list") (λxs H Q=>∃ p ys,xs=[.ref p]/\(jg X.K H p ys\/iy X.K H p ys)/\∀ l,H l=none->Q (.ref l) (cc H l (.lst ys))):=by
 intro aj s σ H xs w Q I r h;obtain⟨p,ys,rfl,hq,q⟩:=h;obtain⟨u,rfl,M⟩:=vZ r;cases M;have O:∀ (J:ah),qJ ys J->ys.length<=sizeLine->∀ (Y:Bn) (G:Ah),(∀ b A,s.heap.get? b=Ab A->Y.get? b=Ab A) ->
   Y.get? s.heap.objs.size=Ab { cls:=.type "list",dict:=none,data:=.seq J.toArray G,slots:=#[] } -> EP X aj σ Q (.ref s.heap.objs.size) { s with heap:=Y }:=λJ U N Y G B e =>
  ⟨.ref s.heap.objs.size,_,I.laid (t':=s.toks) B (Av _) (show zG X.prog X.w _ Y _ (.lst ys) from⟨N,J,G,U,e⟩),rfl,q _ (I.hok.fresh (Av _))⟩
 rcases hq with hq|hq
 .obtain⟨J,U,pl,N⟩:=I.list hq
  have C:=U.length;obtain⟨o,T,E,n,L⟩:=pl.isList;exact call_list_seq p (.inl rfl) T E L (λY G B e=>O J U N Y G B e) (by simp only[Bg] <;> lia)
 .obtain⟨J,U,pl,N⟩:=I.tuple hq
  have C:=U.length;obtain⟨o,T,E,n,L⟩:=pl;exact call_list_seq p (.inr rfl) T E L (λY G B e=>O J U N Y G B e) (by simp only[Bg] <;> lia)
theorem gU:vS X (.type "tuple") (λxs H Q=>∃ p ys,xs=[.ref p]/\((jg X.K H p ys/\∀ l,H l=none->Q (.ref l) (cc H l (.tup ys)))\/(iy X.K H p ys/\Q (.ref p) H))):=by
 intro aj s σ H xs E Q I r h;obtain⟨p,ys,rfl,h⟩:=h;obtain⟨u,rfl,L⟩:=vZ r;cases L;rcases h with⟨U,q⟩|⟨U,q⟩
 .obtain⟨G,J,pl,N⟩:=I.list U
  have C:=J.length;refine call_tuple_list pl.isList (λY T=>?_) (by simp only[Bg] <;> lia)
  have O:Inv X aj σ H { s with heap:=Y }:=I.kept (t':=s.toks) T
  have B:Inv X aj σ (cc H Y.objs.size (.tup ys)) { s with heap:=Y.push { cls:=.type "tuple",data:=.seq G.toArray } }:=
   O.laid (t':=s.toks) (λb o e=>Aj _ e) (Av _) (show zG X.prog X.w _ _ _ (.tup ys) from⟨N,G,J,Yv _ _⟩)
  exact⟨.ref Y.objs.size,_,B,rfl,q _ (O.hok.fresh (Av _))⟩
 .obtain⟨G,J,pl,N⟩:=I.tuple U
  exact call_tuple_same pl ⟨.ref p,H,I,rfl,q⟩
def yp (K:Ai)(T:Eg)(x:V)(H:Hp):Prop:=match x with
 |.str _=>T = "str"
 |.int _=>T = "int"
 |.ref p=>(T = "list" /\ ∃ Y,jg K H p Y)\/(T = "tuple" /\ ∃ o,K.lookup p=Ab o/\o.cls=.type "tuple" /\ o.dict=none) \/
   (T = "dict" /\ ((∃ Q,H p=Ab (.dK Q))\/∃ Q,H p=Ab (.dT Q)))\/(T = "set" /\ ∃ S n,H p=Ab (.set S n))
 |_=>Fb
theorem WT {T:Eg}{x:V}{v:Ac}(I:Inv X aj σ H s)(r:qK x v)(ty:yp X.K T x H) :
  s.TypeIs v T/\∀ a,v=.ref a->∃ G,s.heap.get? a=Ab G/\G.dict=none:=by
 cases x with
 |str z =>
  obtain⟨t,rfl⟩:=r;cases (show T = "str" from ty)
  exact⟨Md s z t,λ_ e=>nomatch e⟩
 |int i =>
  obtain⟨t,rfl⟩:=r;cases (show T = "int" from ty)
  exact⟨typeIs_int s i t,λ_ e=>nomatch e⟩
 |ref p =>
  cases r;rcases ty with⟨rfl,L,O⟩|⟨rfl,o,Q,C,J⟩|⟨rfl,Q⟩|⟨rfl,S,n,Q⟩
  .obtain⟨B,_,pl,_⟩:=I.list O
   refine⟨pl.isList.typeIs,λa e=>?_⟩;cases e;obtain⟨o,n,e,c,J,_⟩:=pl;exact⟨o,e,J⟩
  .refine⟨⟨o,I.kIn p o Q,C⟩,λa e=>?_⟩
   cases e;exact⟨o,I.kIn _ o Q,J⟩
  .have z:∃ o,s.heap.get? p=Ab o/\o.ExactDict:=by
    rcases Q with⟨N,Q⟩|⟨N,Q⟩
    .obtain⟨_,_,_,_,o,_,_,e,Y,_⟩:=I.hok p _ Q
     exact⟨o,e,Y⟩
    .obtain⟨_,_,_,_,o,_,_,e,Y,_⟩:=I.hok p _ Q
     exact⟨o,e,Y⟩
   obtain⟨o,e,Y⟩:=z;refine⟨⟨o,e,Y.1⟩,λa U=>?_⟩;cases U;exact⟨o,e,Y.2.1⟩
  .obtain⟨o,_,_,_,e,Y,_⟩:=I.hok p _ Q
   refine⟨⟨o,e,Y.1⟩,λa U=>?_⟩;cases U;exact⟨o,e,Y.2.1⟩
 |_=>exact Ao ty
variable {o e:Bp}{es:Aa Bp}{to:TE}{t:TA}{name:An}{eh cf:En}{T id:Eg}{r:V->Aa V->Hp->VK->Prop}
/- xs.append(e),list.index on a module's tuple .. are vz facts of 06m -/
end
end _L
namespace _L
variable {us:ah}
def Z_ (X:Cx)(id:Eg)(r:V->Aa V->Hp->VK->Prop):Prop:=
 ∀ (Y:aa) (s:Ag) (σ : St) (H:Hp) (x:V) (J:Aa V) (v:Ac) (us:ah) (Q:VK),Inv X Y σ H s->qK x v->qJ J us->r x J H Q ->
  Ap (Au X.prog X.w) X.A (call (.builtin id) (v::us)) (EP X Y σ Q) X.xe s
theorem qJ.one {x:V}(h:qJ [x] us):∃ u,us=[u]/\qK x u:=vZ h
theorem qJ.two {x y:V}(h:qJ [x,y] us):∃ u v,us=[u,v]/\qK x u/\qK y v:=Q4 h
theorem qJ.zero:∀ {us:ah},qJ [] us->us=[]
 |_,.nil=>rfl
theorem qJ.rep {xs:Aa V}(h:qJ xs us):∀ k:Ah,qJ (Di k xs).flatten (Di k us).flatten
 |0=>.nil
 |k+1=>by
  rw[Hi,Hi,Jp,Jp];exact qJ.append h (qJ.rep h k)
theorem lD (ao:ah):∀ (k:Ah) (av:ah),
  AaB (λQ Y=>Q++Y) av.toArray (Di k ao.toArray)=(av++(Di k ao).flatten).toArray
 |0,av=>by simp
 |k+1,av=>by
  have e:av.toArray++ao.toArray=(av++ao).toArray:=by simp
  have J:(av++ao)++(Di k ao).flatten=av++(Di (k+1) ao).flatten:=by
   rw[Hi,Jp,Cj]
  rw[<- J,<- lD ao k (av++ao),<- e,Hi,Pj]
section
variable {X:Cx}{aj:aa}{σ : St}{H:Hp}{s:Ag}{l b:Af}{xs ys zs:Aa V}
theorem Inv.lset {ao jd:ah}{n:Ah}{f:Aw Ac->Aw Ac}{t':Ah}(I:Inv X aj σ H s)(Y:H l=Ab (.lst xs))
  (e:s.heap.get? l=Ab { cls:=.type "list",data:=.seq ao.toArray n }) (Q:f ao.toArray=jd.toArray) (hv:qJ ys jd) (hz:ys.length<=sizeLine) :
  Inv X aj σ (cc H l (.lst ys)) { s with heap:=s.heap.update l (Fj f),toks:=t' }:=by
 have q:=ZB e f;rw[Q] at q;refine I.write (x:=l) (e:=l) (by rw[Y];exact trivial) (.inl rfl) (λG u U J=>(Df s.heap (Fj f) (Fm U)).trans J) ⟨_,q⟩ ?_
 exact⟨hz,jd,_,hv,q⟩
theorem Inv.lstM (I:Inv X aj σ H s)(Q:H l=Ab (.lst xs)):xs.length<=sizeLine/\∃ (ao:ah) (n:Ah),qJ xs ao/\xs.length=ao.length/\s.heap.get? l=Ab { cls:=.type "list",data:=.seq ao.toArray n }:=by
 obtain⟨z,ao,n,r,e⟩:=I.hok l _ Q;exact⟨z,ao,n,r,r.length,e⟩
theorem VX {n:Ah}(h:n<=sizeLine):Mz n=false:=by
 unfold Mz;exact Co li
end
section
variable {X:Cx}
def FK:V->Aa V->Hp->VK->Prop:=λx J H Q=>∃ l Y y,x=.ref l/\J=[y]/\H l=Ab (.lst Y)/\Y.length<sizeLine/\Q .non (cc H l (.lst (Y++[y])))
theorem X8:Z_ X "list.append" FK:=by
 intro L s σ H x C v us Q I N G h;obtain⟨l,T,y,rfl,rfl,Y,O,q⟩:=h;cases N;obtain⟨u,rfl,U⟩:=G.one;obtain⟨z,J,n,r,B,e⟩:=I.lstM Y;refine Lf Yb ⟨_,e,rfl⟩ Xb (Wl _ _) (Za l J.toArray n u (by rw[Bg];lia)) ⟨e,?_⟩
 refine⟨.non,_,I.lset (jd:=J++[u]) Y e (by simp) (r.append (.cons U .nil)) ?_,rfl,q⟩
 rw[Ca,Lh]
 lia
theorem n6 {α:Type}(xs:Aa α)(k:Ah):(Di k xs).flatten.length=k*xs.length:=by
 induction k with
 |zero=>simp
 |succ k Q=>rw[Hi,Jp,Ca,Q,Nat.succ_mul,Qb]
end
end _L
namespace _L
variable {xs:Aa (Aa ci × Af × Ac)}{aw:Aa (Aa ci × V)}{H':Hp}
section
variable {κ : Type}[Rg κ]
noncomputable def vR (aw:Aa (κ × V))(k:κ):Ak V:=(aw.find? λQ=>decide (Q.1=k)).map (·.2)
noncomputable def yS (aw:Aa (κ × V))(k:κ)(v:V):Aa (κ × V):=
 if (aw.any λQ=>decide (Q.1=k))=true then aw.map (λQ=>if Q.1=k then (Q.1,v) else Q) else aw++[(k,v)]
noncomputable def JK (aw:Aa (κ × V))(k:κ):Aa (κ × V):=aw.filter λQ=>decide (Q.1≠k)
theorem fN {p:κ × V}{r:Aa (κ × V)}{k:κ}(e:p.1=k):vR (p::r) k=Ab p.2:=by simp[vR,Ku,e]
theorem fM {p:κ × V}{r:Aa (κ × V)}{k:κ}(e:¬ p.1=k):vR (p::r) k=vR r k:=by simp[vR,Ku,e]
theorem eO (k:κ):∀ aw:Aa (κ × V),(aw.any λQ=>decide (Q.1=k))=(vR aw k).isSome
 |[]=>rfl
 |p::r=>by
  rw[Kv];by_cases e:p.1=k
  .simp only[fN e,Dl e,Bool.true_or,Yc]
  .rw[fM e,Co e,Bool.false_or];exact eO k r
theorem bF (aw:Aa (κ × V))(k:κ)(v:V):(yS aw k v).length<=aw.length+1:=by
 unfold yS
 split
 .rw[Aq];lia
 .rw[Ca,Bc,Dd];lia
theorem jF.isSome_eq {o:Ak V}{u:Ak Ac}(r:jF o u):o.isSome=u.isSome:=by
 cases o with
 |none=>cases u with
  |none=>rfl
  |some _=>exact(show Fb from r).elim
 |some _=>cases u with
  |none=>exact(show Fb from r).elim
  |some _=>rfl
theorem jF.getD {o:Ak V}{u:Ak Ac}{d:V}{d':Ac}(r:jF o u)(rd:qK d d'):qK (o.getD d) (u.getD d'):=by
 cases o with
 |none=>cases u with
  |none=>exact rd
  |some _=>exact(show Fb from r).elim
 |some _=>cases u with
  |none=>exact(show Fb from r).elim
  |some _=>exact r
theorem KV.val {aw:Aa (κ × V)}{vs:Aa (κ × Ac)}(r:KV aw vs)(k:κ):jF (vR aw k) (Xc vs k):=by
 unfold KV at r
 induction r with
 |nil=>exact Ld
 |@cons p q N Y h t U =>
  obtain⟨J,G⟩:=h;by_cases e:p.1=k
  .have Q:q.1=k:=J.symm.trans e
   have b:Xc (q::Y) k=Ab q.2:=by simp[Xc,Ku,Q]
   rw[fN e,b];exact G
  .have Q:¬ q.1=k:=λz=>e (J.trans z)
   have b:Xc (q::Y) k=Xc Y k:=by simp[Xc,Ku,Q]
   rw[fM e,b];exact U
theorem KV.any {aw:Aa (κ × V)}{vs:Aa (κ × Ac)}(r:KV aw vs)(k:κ):(aw.any λQ=>decide (Q.1=k))=vs.any λQ=>decide (Q.1=k):=by
 unfold KV at r
 induction r with
 |nil=>rfl
 |cons h t Y=>rw[Kv,Kv,Y,h.1]
theorem KV.repl {aw:Aa (κ × V)}{vs:Aa (κ × Ac)}(r:KV aw vs)(k:κ){y:V}{u:Ac}(J:qK y u) :
  KV (aw.map λQ=>if Q.1=k then (Q.1,y) else Q) (vs.map λQ=>if Q.1=k then (Q.1,u) else Q):=by
 unfold KV at r ⊢
 induction r with
 |nil=>exact .nil
 |@cons p q N O h t U =>
  rw[Dt,Dt];refine .cons ?_ U;obtain⟨Y,G⟩:=h;by_cases e:p.1=k
  .rw[Ax e,Ax (Y.symm.trans e)];exact⟨Y,J⟩
  .rw[Bb e,Bb (λz=>e (Y.trans z))];exact⟨Y,G⟩
theorem KV.put {aw:Aa (κ × V)}{vs:Aa (κ × Ac)}(r:KV aw vs)(k:κ){y:V}{u:Ac}(Q:qK y u):KV (yS aw k y) (stored vs k u):=by
 unfold yS stored;rw[r.any k];by_cases e:(vs.any λY=>decide (Y.1=k))=true
 .rw[Ax e,Ax e];exact r.repl k Q
 .rw[Bb e,Bb e];exact Paired.snoc r ⟨rfl,Q⟩
theorem KV.drop {aw:Aa (κ × V)}{vs:Aa (κ × Ac)}(r:KV aw vs)(k:κ):KV (JK aw k) (without vs k):=by
 unfold KV at r ⊢;unfold JK without
 induction r with
 |nil=>exact .nil
 |@cons p q G N h t Y =>
  obtain⟨Q,U⟩:=h;rw[Tk,Tk];by_cases e:p.1=k
  .have a:¬ decide (p.1≠k)=true:=by simp[e]
   have b:¬ decide (q.1≠k)=true:=by simp[Q.symm.trans e]
   rw[Bb a,Bb b];exact Y
  .have J:¬ q.1=k:=λz=>e (Q.trans z)
   have a:decide (p.1≠k)=true:=by simp[e]
   have b:decide (q.1≠k)=true:=by simp[J]
   rw[Ax a,Ax b];exact .cons ⟨Q,U⟩ Y
theorem KV.keys {aw:Aa (κ × V)}{vs:Aa (κ × Ac)}(r:KV aw vs):aw.map (·.1)=vs.map (·.1):=by
 unfold KV at r
 induction r with
 |nil=>rfl
 |cons h t Q=>rw[Dt,Dt,Q,h.1]
theorem KV.length {aw:Aa (κ × V)}{vs:Aa (κ × Ac)}(r:KV aw vs):aw.length=vs.length:=Paired.length r
end
theorem dI {P:Be}{w:Br}{k:ci}{u:Ac}(r:qK (kV k) u):(xF P w).is k u=true:=by
 cases k with
 |inl i=>obtain⟨t,e⟩:=(show ∃ t,u=Ru i t from r);subst e;exact eV P w i t
 |inr x=>obtain⟨t,e⟩:=(show ∃ t,u=Ys x t from r);subst e;exact eW P w x t
theorem lI {P:Be}{w:Br}:∀ {ks:Aa ci} {us:ah},qJ (ks.map kV) us->ItemsAre (xF P w) ks us
 |[],_,r=>by rw[Yk] at r;cases r;exact .nil
 |k::ks,_,r=>by
  rw[Dt] at r;cases r with
  |cons h t=>exact .cons (dI h) (lI t)
abbrev KT (H:Hp):Aa (Aa ci × V)->Aa (Aa ci × Af × Ac)->Prop:=Paired λp q=>p.1=q.1/\H q.2.1=Ab (.tup (p.1.map kV))/\qK p.2 q.2.2
theorem KT.val {H:Hp}(r:KT H aw xs)(k:Aa ci):jF (vR aw k) ((Zb xs k).map (·.2)):=by
 induction r with
 |nil=>exact Ld
 |@cons p q N Y h t U =>
  obtain⟨J,_,G⟩:=h;by_cases e:p.1=k
  .have Q:q.1=k:=J.symm.trans e
   have b:Zb (q::Y) k=Ab q.2:=by simp[Zb,Ku,Q]
   rw[fN e,b];exact G
  .have Q:¬ q.1=k:=λz=>e (J.trans z)
   have b:Zb (q::Y) k=Zb Y k:=by simp[Zb,Ku,Q]
   rw[fM e,b];exact U
theorem KT.repl {H:Hp}(r:KT H aw xs)(k:Aa ci){y:V}{u:Ac}(U:qK y u) :
  KT H (aw.map λY=>if Y.1=k then (Y.1,y) else Y) (xs.map (putAt k u)):=by
 induction r with
 |nil=>exact .nil
 |@cons p q O C h t G =>
  rw[Dt,Dt];refine .cons ?_ G;obtain⟨Q,J,N⟩:=h;unfold putAt;by_cases e:p.1=k
  .rw[Ax e,Ax (Q.symm.trans e)];exact⟨Q,J,U⟩
  .rw[Bb e,Bb (λz=>e (Q.trans z))];exact⟨Q,J,N⟩
theorem KT.put {H:Hp}(r:KT H aw xs)(k:Aa ci){b:Af}{y:V}{u:Ac}(Y:H b=Ab (.tup (k.map kV)))(Q:qK y u) :
  KT H (yS aw k y) (storedH xs k b u):=by
 have e:(aw.any λJ=>decide (J.1=k))=(Zb xs k).isSome:=by
  rw[eO,(r.val k).isSome_eq,Option.isSome_map]
 unfold yS storedH;rw[e];by_cases q:(Zb xs k).isSome=true
 .rw[Ax q,Ax q];exact r.repl k Q
 .rw[Bb q,Bb q];exact Paired.snoc r ⟨rfl,Y,Q⟩
theorem KT.keeps {H:Hp}(r:KT H aw xs)(Q:∀ b ys,H b=Ab (.tup ys)->H' b=Ab (.tup ys)):KT H' aw xs:=
 Paired.mapP r λ_ _ z=>⟨z.1,Q _ _ z.2.1,z.2.2⟩
section
variable {P:Be}{w:Br}{H:Hp}{h:Bn}{a:Af}
theorem KB {u:HO}(ok:gj P w H h)(e:Rd H a u):zG P w H h a u:=e.ok ok
theorem EH {aw:Aa (ci × V)}(ok:gj P w H h)(e:Rd H a (.dK aw)):aw.length<=sizeLine/\(a == Jj)=false/\∃ vs,KV aw vs/\h.DictOf (xF P w) a vs:=
 show zG P w H h a (.dK aw) from KB ok e
theorem EG {aw:Aa (ci × V)}(ok:gj P w H h)(e:H a=Ab (.dK aw)):aw.length<=sizeLine/\(a == Jj)=false/\∃ vs,KV aw vs/\h.DictOf (xF P w) a vs:=EH ok (.inl e)
theorem ZW {ks:Aa ci}(ok:gj P w H h)(e:H a=Ab (.tup (ks.map kV))):(Vg (xF P w)).is h ks a:=by
 obtain⟨_,Q,r,o,U,Y,n,J⟩:=(show zG P w H h a (.tup (ks.map kV)) from ok a _ e)
 exact⟨o,Q.toArray,n,U,Y,J,by simpa using lI r⟩
theorem EK (ok:gj P w H h)(e:Rd H a (.dT aw)):aw.length<=sizeLine/\(a == Jj)=false /\
  ∃ xs,KT H aw xs/\h.DictOfH (Vg (xF P w)) a xs:=by
 obtain⟨z,y,xs,r,o,O,G,L,N,U,C,B⟩:=(show zG P w H h a (.dT aw) from KB ok e)
 refine⟨z,y,xs,r,o,O,G,L,N,U,C,λx hx=>?_,B⟩;have Q:∀ {l:Aa (Aa ci × V)} {m:Aa (Aa ci × Af × Ac)},KT H l m->∀ x∈m,(Vg (xF P w)).is h x.1 x.2.1:=by
  intro l m q
  induction q with
  |nil=>intro x hx;exact nomatch hx
  |@cons p q T E Y t J =>
   intro x hx;rcases AT.mp hx with e|hx
   .subst e
    exact ZW ok (by rw[<- Y.1];exact Y.2.1)
   .exact J x hx
 exact Q r x hx
theorem EJ (ok:gj P w H h)(e:H a=Ab (.dT aw)):aw.length<=sizeLine/\(a == Jj)=false /\
  ∃ xs,KT H aw xs/\h.DictOfH (Vg (xF P w)) a xs:=EK ok (.inl e)
end
def iC (H:Hp)(a:Af)(y:V)(r:Ak V):Prop:=
 (∃ aw k,Rd H a (.dK aw)/\y=kV k/\r=vR aw k)\/∃ aw k b,Rd H a (.dT aw)/\y=.ref b/\H b=Ab (.tup (k.map kV))/\r=vR aw k
def tE (H:Hp)(a:Af)(y v:V)(H':Hp):Prop:=
 (∃ aw k,H a=Ab (.dK aw)/\y=kV k/\aw.length<sizeLine/\H'=cc H a (.dK (yS aw k v))) \/
 ∃ aw k b,H a=Ab (.dT aw)/\y=.ref b/\H b=Ab (.tup (k.map kV))/\aw.length<sizeLine/\H'=cc H a (.dT (yS aw k v))
theorem iC.k {H:Hp}{a:Af}{aw:Aa (ci × V)}{k:ci}(e:H a=Ab (.dK aw)):iC H a (kV k) (vR aw k):=.inl ⟨aw,k,.inl e,rfl,rfl⟩
theorem iC.t {H:Hp}{a b:Af}{k:Aa ci}(e:H a=Ab (.dT aw))(Q:H b=Ab (.tup (k.map kV))):iC H a (.ref b) (vR aw k):=.inr ⟨aw,k,b,.inl e,rfl,Q,rfl⟩
theorem tE.k {H:Hp}{a:Af}{aw:Aa (ci × V)}{k:ci}{v:V}(e:H a=Ab (.dK aw))(Q:aw.length<sizeLine):tE H a (kV k) v (cc H a (.dK (yS aw k v))):=.inl ⟨aw,k,e,rfl,Q,rfl⟩
theorem tE.t {H:Hp}{a b:Af}{k:Aa ci}{v:V}(e:H a=Ab (.dT aw))(Y:H b=Ab (.tup (k.map kV)))(Q:aw.length<sizeLine) :
  tE H a (.ref b) v (cc H a (.dT (yS aw k v))):=.inr ⟨aw,k,b,e,rfl,Y,Q,rfl⟩
section
variable {X:Cx}{aj:aa}{σ : St}{H:Hp}{s:Ag}{a:Af}{y v:V}{u r:Ac}{o:Ak V}{A:Bk}{E:ae}
theorem Inv.big (I:Inv X aj σ H s):Jj<s.heap.objs.size:=by
 have h:Cn<s.heap.objs.size:=(I.mod.glob.keeps I.bk).lt;exact Ig (by decide) h
theorem cE {h':Bn}{t':Ah}{Q:HO}(I:Inv X aj σ H s)(U:vy (H a))(hs:Gz a s.heap h')(J:∃ q,h'.get? a=Ab q)(Y:zG X.prog X.w (cc H a Q) h' a Q) :
  Inv X aj σ (cc H a Q) { s with heap:=h',toks:=t' }:=
 I.write (x:=a) (e:=a) U (.inl rfl) (λb q G z=>(hs.2 b G).trans z) J Y
theorem N4 {P:Be}{w:Br}{h':Bn}{aw:Aa (ci × V)}{vs:Aa (ci × Ac)}(z:aw.length<=sizeLine)(Y:(a == Jj)=false)(Q:KV aw vs)(dd:h'.DictOf (xF P w) a vs) :
  zG P w H' h' a (.dK aw):=⟨z,Y,vs,Q,dd⟩
theorem Z2 {Q:Pa->Ag->Prop}(hu:A.units+1<Fo)(I:Inv X aj σ H s)(g:tE H a y v H')(j:qK y u)(M:qK v r)(h:∀ s',Inv X aj σ H' s'->Q () s') :
  Ap (Au X.prog X.w) A (setItem (.ref a) u r) Q E s:=by
 rcases g with⟨aw,k,e,C,l,N⟩|⟨aw,k,b,e,C,w,l,N⟩
 .subst C N
  obtain⟨z,O,i,Y,G⟩:=EG I.hok e;have L:i.length<=sizeLine:=by rw[<- Y.length];exact z
  have T:(yS aw k v).length<=sizeLine:=by have:=bF aw k v;lia
  refine wpAny_setItem_pairs (hsz:=L) (dI j) G λp J B=>h _ ?_;have m:∃ q,p.get? a=Ab q:=let ⟨q,_,_,U,_⟩:=J;⟨q,U⟩
  exact cE I (by rw[e];exact Ld) B m (N4 T O (Y.put k M) J)
 .subst C N
  cases (show u=Dk b from j)
  obtain⟨z,O,xs,Y,G⟩:=EJ I.hok e;have L:xs.length<=sizeLine:=by rw[<- Paired.length Y];exact z
  have T:(yS aw k v).length<=sizeLine:=by have:=bF aw k v;lia
  refine wpAny_setItem_heap (hsz:=L) (tupleKind_room_in1 hu) (ZW I.hok w) G λp J B=>h _ ?_;obtain⟨q,t,x,U,f,n,h4,_,h5⟩:=J;refine cE I (by rw[e];exact Ld) B ⟨q,U⟩ ⟨T,O,_,(Y.put k w M).keeps λc ys d=>?_,q,t,x,U,f,n,h4,h5⟩
  rw[qN (HD d e (λz=>nomatch z))];exact d
end
theorem YS {P:Be}{w:Br}{H:Hp}(h:Bn)(Q:Jj<h.objs.size):zG P w H (h.push { cls:=.type "dict",data:=.dict #[] }) h.objs.size (.dK []):=
 ⟨Hc _,Jv.mpr (Fm (Cp Q)),[],.nil,Heap.DictOf.new h⟩
def RC:TE:=λ_ H Q=>∀ p,H p=none->Q (.ref p) (cc H p (.dK []))
section
variable {X:Cx}{ar:En}
theorem U2:PE X (.Dict [] [] ar) RC:=λY s σ H Q I h =>
 wpAny_Dict_empty ⟨.ref s.heap.objs.size,_,I.laid (a:=s.heap.objs.size) (o:=.dK []) (t':=s.toks) (λ_ _ q=>Aj _ q) (Av _) (YS s.heap I.big),rfl,h _ (I.hok.fresh (Av _))⟩
end
end _L
namespace _A
open PySem.W PySem.Calls
theorem mC {P:Params}{h:Bn}:∀ (Q:Aa Am) (vs:ah),WellAll P h vs (Q.map WData.int)->Kt vs Q:=by
 intro Q
 induction Q with
 |nil =>
  intro vs w;rw[Yk] at w;cases w;exact .nil
 |cons n Q Y =>
  intro vs w;rw[Dt] at w;cases w with
  |cons a b =>
   cases a;exact .cons _ _ (Y _ b)
theorem WK {l:OpenLaw}{n:Ah}(H:l.most=Ab n){P:Params}{h:Bn}{args:Aa WData}{Y:ah}
  (J:l.row.toRowW.claim.pre args=true) (C:WellAll P h Y args) :
  ∃ a vs Q,Y=[Dk a]/\args=[WData.list (Q.map WData.int)]/\h.get? a=Ab { cls:=.type "list",data:=.seq vs.toArray } /\ Kt vs Q/\Q.length<=n:=by
 have B:WShape.hasAll [] args [.list .int]=true:=(pre_splitW J).1;have L:l.pre.holds [] { args:=args } = true:=(pre_splitW J).2;obtain⟨d,r,rfl,z,w⟩:=hasAllW_cons B;obtain rfl:=hasAllW_nil w;obtain⟨j,rfl,I⟩:=hasW_list z;obtain⟨Q,rfl⟩:=items_int I;have U:Q.length<=n:=by
  unfold OpenLaw.pre at L;have N:(WTm.not (.lt (.lit (.int (n:Am))) (.len (.arg 0)))).holds [] { args:=[.list (Q.map .int)] } = true:=by
   have N:=(holds_andW L).1;rw[H] at N;exact N
  have O:=condW_of N (w_not (w_lt w_lit (w_len_list (w_arg rfl))));rw[Aq] at O;refine dL λq=>?_;have M:(n:Am)<((Q.length:Ah):Am):=by lia
  first
   |(rw[Dl M] at O;exact absurd O (by decide))
   |(simp at O;lia)
 cases C with
 |cons A T =>
  cases T;cases A with
  |list E G=>exact⟨_,_,Q,rfl,rfl,E,mC Q _ G,U⟩
theorem XT (l:OpenLaw)(args:Aa WData):l.row.toRowW.claim.post args (.bool true) args=true:=
 postW_of (r:=l.row.toRowW) (X:=(true == true))
  (show WShape.has [] (.bool true) .bool=true by first|rfl|decide|simp[WShape.has,WShape.arms,WShape.armsAll])
  (show (WTm.eq .res (.lit (.bool true))).value [] { args:=args,res:=Ab (.bool true),after:=args } = Ab (.bool (true == true)) from w_eq_bool (w_res rfl) w_lit) rfl
theorem mh {l:OpenLaw}{n:Ah}{q:Be}{u:Aa An}{v:(An->Ak Ac)->Bn->Prop}{c:Br->Bn->Prop}{d:DefRec}
  (h:l.most=Ab n) (A:d.params.defaults=[])
  (call:∀ (w:Br) (J Q:Ag) (I H:ai) (B:Af) (o:Ch) (z E N:Ac) (a:Af) (vs:ah) (T:Aa Am),
   Ground q u [] v w J I H Q.heap->c w Q.heap ->
   Q.heap.get? B=Ab o->o.data=.func (docDef d.name d.params d.body d.scope z E N)->Q.heap.CodeRec E d.name->I d.name=Ab (.ref B) ->
   Q.heap.get? a=Ab { cls:=.type "list",data:=.seq vs.toArray } -> Kt vs T->T.length<=n->Q.gens=#[] ->
   Ja (Au l.prog w) Sb (.call (.ref B) ⟨[.ref a],[]⟩) (λr s'=>r=.ok (.ret (.bool true))/\OldK Q.heap s'.heap/\s'.os=Q.os/\Og s'.gens) Q) :
  WalkO q u v c l.row.toRowW d [] (λf vs=>AaC f vs):=by
 intro w J Q I H G Y B o z E N dV kV i m j p y hg t k as L g zb M x;obtain rfl:dV=.none:=Dflts.none p A;obtain rfl:kV=.none:=Dflts.noKw p;obtain⟨a,vs,T,rfl,rfl,O,U,C⟩:=WK h L M;refine enter_call (Nk (call w J Q I H B o z E N a vs T G Y i (fd_plain m) j y O U C hg) λr s' b=>?_);obtain⟨rfl,h2,e,h4⟩:=b;exact⟨.inl ⟨.bool true,.bool true,[],rfl,λ_=>rfl,.bool true,XT l _,λ_=>⟨Nu,λ_ s=>(nomatch s)⟩⟩,h2,e,h4⟩
end _A
namespace _L
theorem WW {vs:ah}{Q:Aa Am}(h:Kt vs Q):qJ (Q.map V.int) vs:=by
 induction h with
 |nil=>exact .nil
 |cons n t h Y=>exact .cons ⟨t,rfl⟩ Y
def oo (K:Ai)(H:Hp)(a:Af)(xs:Aa V):Prop:=
 Rd H a (.lst xs)\/∃ (Q:ah) (n:Ah),K.lookup a=Ab { cls:=.type "list",data:=.seq Q.toArray n } /\ xs.length<=sizeLine/\qJ xs Q
theorem oo.l {K:Ai}{H:Hp}{a:Af}{xs:Aa V}(h:oo K H a xs):jg K H a xs:=by
 rcases h with h|⟨Q,n,e,l,v⟩
 .exact .inl h
 .exact .inr ⟨_,Q.toArray,n,e,rfl,rfl,rfl,by rw[Bg,<- v.length];exact l,by simpa using v⟩
end _L
namespace _L
variable {ps:Aa An}{f:Af}{x be:An}{H:Hp}
noncomputable def wQ (s:Ey):Vi:=match s with
 |.FunctionDef _ a _ _ _ _ _ _ _ _=>a
 |_=>{ posonlyargs:=[],args:=[],vararg:=none,kwonlyargs:=[],kw_defaults:=[],kwarg:=none,defaults:=[] }
def zV (s:Ey):Aa Ey:=match s with
 |.FunctionDef _ _ b _ _ _ _ _ _ _=>b
 |_=>[]
def qM (s:Ey):Eu:=match s with
 |.FunctionDef _ _ _ _ _ _ Q _ _ _=>Q
 |_=>{ kind:=.function,names:=[],isGenerator:=false,isCoroutine:=false }
abbrev zo:sy:=λ_ _ _ _ _ _=>Fb
structure rm (K:Ai)(x qual:An)(st:Ey)(f:Af)(fd:Fh):Prop where
 ex:∃ (oc:Ac) (od:Ak Af) (kV doc pm:Ac) (an:Ak Af) (cdv ct:Ac) (osl:Aw (Ak Ac)),
  fd=Gn x qual (wQ st) (zV st) (qM st) .none kV doc pm an cdv ct/\K.lookup f=Ab ⟨oc,od,.func fd,osl⟩/\Lr K cdv qual=true
 kp:Ep K (.ref f)=true
section
variable {P:Be}{w:Br}{K:Ai}{mg:ai}{base:Bn}
theorem rm.ok {st:Ey}{fd:Fh}{N:Aa An}{k:Ah}{sp:Sp}(F:rm K x be st f fd)(S:cu N ps (qM st))(C:∀ vs H Q E,sp vs H Q E->vs.length=ps.length)
  (J:∀ (Y:Ac) (A:Bk) (U:Aa Iu) (s:Ag) (H:Hp) (vs:Aa V) (Q:VK) (E:XK),gt k (A.deeper (Gx be (qM st) s.heap.objs.size f Y))->sp vs H Q E ->
   ∃ t,il (tK zo P w K mg base N be (qM st) f Y A U s H E).nox (zV st) t/\t { nx:=λ_ I=>Q .non I,rt:=Q } (xV N vs) H):kw P w K mg base zo (k+1) f fd ps sp:=by
 obtain⟨j,u,kV,T,z,M,Y,y,B,rfl,lk,G⟩:=F.ex;refine EN lk G S C λA U s H vs Q E L O=>?_;obtain⟨t,h,q⟩:=J Y A U s H vs Q E L O;exact⟨t,h.nox,q⟩
theorem rm.binds {st:Ey}{fd:Fh}(F:rm K x be st f fd)
  (h:∀ (kV Y G:Ac) (J:Ak Af) (Q U:Ac) (us:ah),us.length=ps.length->Aa1 (Gn x be (wQ st) (zV st) (qM st) .none kV Y G J Q U) ⟨us,[]⟩=pure (ps.zip us)):v8 K fd ps []:=by
 obtain⟨C,B,kV,Y,G,J,Q,U,N,rfl,lk,O⟩:=F.ex;exact .all (h kV Y G J Q U)
theorem NU {st:Ey}{C:Ac}{O U:Ak Af}{J:Aw (Ak Ac)}{kV Y N Q G:Ac}(l:K.lookup f=Ab ⟨C,O,.func (Gn x be (wQ st) (zV st) (qM st) .none kV Y N U Q G),J⟩)
  (c:Lr K Q be=true) (k:Ep K (.ref f)=true):rm K x be st f (Gn x be (wQ st) (zV st) (qM st) .none kV Y N U Q G):=⟨⟨C,O,kV,Y,N,U,Q,G,J,rfl,l,c⟩,k⟩
end
def qF (H Q:Hp):Prop:=∀ b o,H b=Ab o->Q b=Ab o
theorem qF.refl (H:Hp):qF H H:=λ_ _ h=>h
theorem qF.trans {Q Y:Hp}(a:qF H Q)(b:qF Q Y):qF H Y:=λc o h=>b c o (a c o h)
theorem qF.free {Q:Hp}(e:qF H Q){l:Af}(h:Q l=Ab0):H l=Ab0:=by
 cases q:H l with
 |none=>rfl
 |some o =>
  rw[e l o q] at h;cases h
theorem qF.seq {K:Ai}{Q:Hp}{a:Af}{xs:Aa V}(e:qF H Q)(h:jg K H a xs):jg K Q a xs:=by
 rcases h with (h|⟨o,h⟩)|h
 .exact .inl (.inl (e _ _ h))
 .exact .inl (.inr ⟨o,e _ _ h⟩)
 .exact .inr h
end _L
end
section
namespace _D
open _L
inductive D where
 |non|bl (b:As)|int (i:Am)|str (x:An)|ty (n:Eg)|obj (a:Af)|tup (xs:Aa D)|lst (xs:Aa D)|dct0|loc (i:Ah)|exn (c:Ac)|fd (ks:Aa ci) (ds:Aa D)|clo (a:Af) (vs:Aa V) (ds:Aa D)|exl (c:Ac) (ns:Aa An) (ds:Aa D)
def NM (a:Af)(c:Ac):HO:=.ext λh=>∃ Q,h.get? a=Ab Q/\Q.cls=c
def NL (a:Af)(c:Ac)(J:Af):HO:=.ext λh=>∃ Q,h.get? a=Ab Q/\Q.cls=c/\Q.dict=Ab J/\∃ Y,Q.data=.fields Y
def AR (a:Af)(Y:Aa (An × V))(h:Bn):Prop:=∃ Q,h.Ns1 a Q/\(∀ f,jF (Y.lookup f) (Q f))/\Yg Q (Y.map (·.1))
def ym (a:Af)(Q:Aa (An × V)):HO:=.ext (AR a Q)
inductive MO where
 |dead|lst (xs:Aa D)|dct (kvs:Aa (ci × D))|dcT (kvs:Aa (Aa Am × D))|ins (C:Af) (fs:Aa (An × D))
abbrev aq:=Aa MO
inductive ba (β : Type) where
 |ok (d:β) (S:aq)|ex (c:Ac) (x:D) (S:aq)|bad
@[inline] noncomputable def ba.bind {β γ:Type}(r:ba β)(f:β->aq->ba γ) : ba γ:=
 match r with
 |.ok d S=>f d S
 |.ex c x S=>.ex c x S
 |.bad=>.bad
theorem ba.bind_ok {β γ:Type}(d:β)(S:aq)(f:β->aq->ba γ) : (ba.ok d S).bind f=f d S:=rfl
section
variable (K:Ai)(P:Hp)(α : Aa Af)
mutual
def au:D->V->Prop
 |.non,v=>v=.non
 |.bl b,v=>v=.bl b
 |.int i,v=>v=.int i
 |.str x,v=>v=.str x
 |.ty n,v=>v=.ty n
 |.obj a,v=>v=.ref a/\Ep K (.ref a)=true
 |.tup Y,v=>∃ a Q,v=.ref a/\iy K P a Q/\qD Y Q
 |.lst Y,v=>∃ a Q,v=.ref a/\oo K P a Q/\qD Y Q
 |.dct0,v=>∃ a,v=.ref a/\P a=Ab (.dK [])
 |.loc i,v=>∃ a,v=.ref a/\α[i]? = Ab a
 |.exn c,v=>∃ a,v=.ref a/\P a=Ab (NM a c)
 |.fd G Y,v=>∃ a o Q,v=.ref a/\P a=Ab (.frz o (.dK (G.zip Q)))/\G.length=Q.length/\qD Y Q
 |.clo a Q Y,v=>v=.ref a/\qD Y Q
 |.exl c U Y,v=>∃ a J Q,v=.ref a/\P a=Ab (NL a c J)/\P J=Ab (ym J (U.zip Q))/\U.length=Q.length/\qD Y Q
def qD:Aa D->Aa V->Prop
 |[],Q=>Q=[]
 |d::J,Q=>∃ w Y,Q=w::Y/\au d w/\qD J Y
end
end
section
variable {K:Ai}{P P':Hp}{α α':ag}
theorem yB (e:qF P P'){a:Af}{xs:Aa V}(h:iy K P a xs):iy K P' a xs:=by
 rcases h with (h|⟨o,h⟩)|h
 .exact .inl (.inl (e _ _ h))
 .exact .inl (.inr ⟨o,e _ _ h⟩)
 .exact .inr h
theorem aI (e:qF P P'){a:Af}{u:HO}(h:Rd P a u):Rd P' a u:=by
 rcases h with h|⟨o,h⟩
 .exact .inl (e _ _ h)
 .exact .inr ⟨o,e _ _ h⟩
theorem xP (e:qF P P'){a:Af}{xs:Aa V}(h:oo K P a xs):oo K P' a xs:=by
 rcases h with h|h
 .exact .inl (aI e h)
 .exact .inr h
theorem pZ {i:Ah}{a:Af}(h:α<+:α')(e:α[i]? = Ab a):α'[i]? = Ab a:=by
 obtain⟨r,rfl⟩:=h;rw[Ci (Ce.mp e).1];exact e
mutual
theorem au.mono (e:qF P P')(h:α<+:α'):∀ (d:D) (v:V),au K P α d v->au K P' α' d v
 |.non,_,r=>by simpa only [au] using r
 |.bl _,_,r=>by simpa only [au] using r
 |.int _,_,r=>by simpa only [au] using r
 |.str _,_,r=>by simpa only [au] using r
 |.ty _,_,r=>by simpa only [au] using r
 |.obj _,_,r=>by simpa only [au] using r
 |.tup Y,v,r=>by
  simp only[au] at r ⊢;obtain⟨a,Q,rfl,q,t⟩:=r;exact⟨a,Q,rfl,yB e q,qD.mono e h Y Q t⟩
 |.lst Y,v,r=>by
  simp only[au] at r ⊢;obtain⟨a,Q,rfl,q,t⟩:=r;exact⟨a,Q,rfl,xP e q,qD.mono e h Y Q t⟩
 |.dct0,v,r=>by
  simp only[au] at r ⊢;obtain⟨a,rfl,q⟩:=r;exact⟨a,rfl,e _ _ q⟩
 |.loc i,v,r=>by
  simp only[au] at r ⊢;obtain⟨a,rfl,q⟩:=r;exact⟨a,rfl,pZ h q⟩
 |.exn c,v,r=>by
  simp only[au] at r ⊢;obtain⟨a,rfl,q⟩:=r;exact⟨a,rfl,e _ _ q⟩
 |.fd O Y,v,r=>by
  simp only[au] at r ⊢;obtain⟨a,o,Q,rfl,q,J,t⟩:=r;exact⟨a,o,Q,rfl,e _ _ q,J,qD.mono e h Y Q t⟩
 |.clo a Q Y,v,r=>by
  simp only[au] at r ⊢;exact⟨r.1,qD.mono e h Y Q r.2⟩
 |.exl c N Y,v,r=>by
  simp only[au] at r ⊢;obtain⟨a,U,Q,rfl,q,G,J,t⟩:=r;exact⟨a,U,Q,rfl,e _ _ q,e _ _ G,J,qD.mono e h Y Q t⟩
theorem qD.mono (e:qF P P')(h:α<+:α'):∀ (Q:Aa D) (vs:Aa V),qD K P α Q vs->qD K P' α' Q vs
 |[],vs,r=>by simpa only [qD] using r
 |d::Q,vs,r=>by
  simp only[qD] at r ⊢;obtain⟨w,Y,rfl,U,J⟩:=r;exact⟨w,Y,rfl,au.mono e h d w U,qD.mono e h Q Y J⟩
end
theorem qD.nil:qD K P α [] []:=by simp only[qD]
theorem qD.cons {d:D}{v:V}{Q:Aa D}{vs:Aa V}(r:au K P α d v)(t:qD K P α Q vs):qD K P α (d::Q) (v::vs):=by
 simp only[qD];exact⟨v,vs,rfl,r,t⟩
theorem qD.nil_inv {vs:Aa V}(r:qD K P α [] vs):vs=[]:=by simpa only [qD] using r
theorem qD.cons_inv {d:D}{Y:Aa D}{vs:Aa V}(r:qD K P α (d::Y) vs):∃ w Q,vs=w::Q/\au K P α d w/\qD K P α Y Q:=by simpa only [qD] using r
theorem qD.length:∀ {Q:Aa D} {vs:Aa V},qD K P α Q vs->Q.length=vs.length
 |[],vs,r=>by rw[r.nil_inv];rfl
 |d::Q,vs,r=>by
  obtain⟨w,Y,rfl,_,t⟩:=r.cons_inv;rw[Bc,Bc,t.length]
theorem qD.append:∀ {Y es:Aa D} {vs Q:Aa V},qD K P α Y vs->qD K P α es Q->qD K P α (Y++es) (vs++Q)
 |[],es,vs,Q,r,t=>by rw[r.nil_inv];exact t
 |d::Y,es,vs,Q,r,t=>by
  obtain⟨w,G,rfl,U,J⟩:=r.cons_inv;exact .cons U (J.append t)
theorem qD.get:∀ {Q:Aa D} {vs:Aa V} {i:Ah} {d:D},qD K P α Q vs->Q[i]? = Ab d->∃ v,vs[i]? = Ab v/\au K P α d v
 |[],_,_,_,_,e=>by simp at e
 |d::Q,vs,i,Y,r,e=>by
  obtain⟨w,O,rfl,G,J⟩:=r.cons_inv;cases i with
  |zero=>simp at e;subst e;exact⟨w,rfl,G⟩
  |succ i =>
   obtain⟨v,N,U⟩:=J.get (i:=i) (d:=Y) (by simpa using e)
   exact⟨v,by simpa using N,U⟩
theorem qD.drop:∀ {Q:Aa D} {vs:Aa V} (n:Ah),qD K P α Q vs->qD K P α (Q.drop n) (vs.drop n)
 |Q,vs,0,r=>by simpa using r
 |[],vs,n+1,r=>by rw[r.nil_inv];exact .nil
 |d::Q,vs,n+1,r=>by
  obtain⟨w,J,rfl,_,Y⟩:=r.cons_inv;simpa using Y.drop n
theorem qD.take:∀ {Q:Aa D} {vs:Aa V} (n:Ah),qD K P α Q vs->qD K P α (Q.take n) (vs.take n)
 |Q,vs,0,r=>by simpa using qD.nil
 |[],vs,n+1,r=>by rw[r.nil_inv];exact .nil
 |d::Q,vs,n+1,r=>by
  obtain⟨w,U,rfl,J,Y⟩:=r.cons_inv;simpa using qD.cons J (Y.take n)
theorem qD.set {d:D}{v:V}(q:au K P α d v):∀ {Q:Aa D} {vs:Aa V} (n:Ah),qD K P α Q vs->qD K P α (Q.set n d) (vs.set n v)
 |[],vs,n,r=>by rw[r.nil_inv];exact .nil
 |e::Q,vs,0,r=>by
  obtain⟨w,U,rfl,J,Y⟩:=r.cons_inv;exact .cons q Y
 |e::Q,vs,n+1,r=>by
  obtain⟨w,U,rfl,J,Y⟩:=r.cons_inv;exact .cons J (Y.set q n)
end
abbrev qE:=Aa (Ak D)
def z9 (K:Ai)(P:Hp)(α : Aa Af)(σ : _L.St)(ak:qE):Prop:=ak.length=σ.length/\∀ (i:Ah) (d:D),ak[i]? = Ab (Ab d)->∃ v,σ[i]? = Ab (Ab v)/\au K P α d v
def oq (K:Ai)(P:Hp)(α : Aa Af){κ : Type}:Aa (κ × D)->Aa (κ × V)->Prop:=Paired λ(p:κ × D) (q:κ × V)=>p.1=q.1/\au K P α p.2 q.2
def o3 (Q:Aa Am):Am:=Xd (Hq (Q.map hashInt))
def AM (a:Af)(xs:Aa (Aa Am × Af × V))(h:Bn):Prop:=∃ Y:Aa (Aa Am × Af × Ac),Paired (λ(p:Aa Am × Af × V) (q:Aa Am × Af × Ac)=>p.1=q.1/\p.2.1=q.2.1/\qK p.2.2 q.2.2) xs Y /\
 ∃ o Q J,h.get? a=Ab o/\o.ExactDict/\o.data=.dict Q J/\Q.toList=Y.map λx=>⟨o3 x.1,.ref x.2.1,x.2.2⟩
abbrev J_ (a:Af)(xs:Aa (Aa Am × Af × V)):HO:=.ext (AM a xs)
def xo (K:Ai)(P:Hp)(α : Aa Af):Aa (Aa Am × D)->Aa (Aa Am × Af × V)->Prop:=Paired λ(p:Aa Am × D) (q:Aa Am × Af × V)=>p.1=q.1/\iy K P q.2.1 (q.1.map V.int)/\au K P α p.2 q.2.2
def rh (K:Ai)(H P:Hp)(α : Aa Af)(a:Af):MO->Prop
 |.dead=>NE
 |.lst G=>∃ Q,H a=Ab (.lst Q)/\qD K P α G Q
 |.dct J=>∃ Q,H a=Ab (.dK Q)/\oq K P α J Q
 |.dcT J=>∃ Y,H a=Ab (J_ a Y)/\(a == Jj)=false/\Y.length<=sizeLine/\(Y.map (·.1)).Nodup/\xo K P α J Y
 |.ins C U=>∃ N Q,H a=Ab (.ins C N Q)/\oq K P α U Q
inductive vo (x:An)(H P:Hp)(α : Aa Af)(T:Af):Prop
 |mk (ps:Aw Ac) (e:H T=Ab (.tbl ps)) (pn:P T=none) (an:T ∉ α) (ok:TriplesOk ps.toList) (cd:∀ pos cv,codeAmong pos ps.toList=Ab cv->∃ c oc vs t,cv=.ref c/\H c=Ab (.frz oc (.frz oc (.own 0)))/\oc.data=.fields vs/\vs[1]? = Ab (.str (x ++ ".<locals>." ++ "<lambda>") t)):vo x H P α T
def iH (K:Ai)(H P:Hp)(α : Aa Af):Prop:=∀ x∈yM,∀ c T,Ej K x=Ab (c,T)->vo x H P α T
def L0 (u:HO):Prop:=(∃ Q,u=.tbl Q)\/∃ o,u=.frz o (.frz o (.own 0))
theorem iH.keep {K:Ai}{H Y P U:Hp}{α Q:ag}(r:iH K H P α)(e:∀ b u,H b=Ab u->L0 u->Y b=Ab u)(hp:∀ b u,H b=Ab u->L0 u->P b=none->b ∉ α->U b=none/\b ∉ Q):iH K Y U Q:=λx O c T h =>
 let ⟨N,J,A,L,ok,E⟩:=r x O c T h
 let z:=hp _ _ J (.inl ⟨_,rfl⟩) A L
 ⟨N,e _ _ J (.inl ⟨_,rfl⟩),z.1,z.2,ok,λG I q=>let ⟨c,C,B,t,a,b,d⟩:=E G I q;⟨c,C,B,t,a,e _ _ b (.inr ⟨_,rfl⟩),d⟩⟩
structure bh (K:Ai)(H P:Hp)(α : Aa Af)(S:aq):Prop where
 tb:iH K H P α
 sub:qF P H
 len:α.length=S.length
 nd:α.Nodup
 sep:∀ (i:Ah) (a:Af) (o:MO),α[i]? = Ab a->S[i]? = Ab o->o≠.dead->P a=none
 at':∀ (i:Ah) (a:Af) (o:MO),α[i]? = Ab a->S[i]? = Ab o->rh K H P α a o
 own:∀ (i:Ah) (a:Af),α[i]? = Ab a->H a≠none
section
variable {K:Ai}{H P P':Hp}{α α':ag}{S:aq}
theorem z9.mono {σ : _L.St}{ak:qE}(e:qF P P')(h:α<+:α')(r:z9 K P α σ ak):z9 K P' α' σ ak:=
 ⟨r.1,λi d q=>let ⟨v,Y,Q⟩:=r.2 i d q;⟨v,Y,au.mono e h d v Q⟩⟩
theorem oq.mono {κ : Type}(e:qF P P')(h:α<+:α'){Q:Aa (κ × D)}{vs:Aa (κ × V)}(r:oq K P α Q vs):oq K P' α' Q vs:=by
 refine Paired.mapP r λp q z=>⟨z.1,au.mono e h _ _ z.2⟩
theorem xo.mono (e:qF P P')(h:α<+:α'){Q:Aa (Aa Am × D)}{xs:Aa (Aa Am × Af × V)}(r:xo K P α Q xs):xo K P' α' Q xs:=
 Paired.mapP r λp q z=>⟨z.1,yB e z.2.1,au.mono e h _ _ z.2.2⟩
theorem rh.mono {a:Af}(e:qF P P')(h:α<+:α'):∀ {o:MO},rh K H P α a o->rh K H P' α' a o
 |.dead,_=>trivial
 |.lst _,⟨Q,q,r⟩=>⟨Q,q,qD.mono e h _ _ r⟩
 |.dct _,⟨Q,q,r⟩=>⟨Q,q,r.mono e h⟩
 |.dcT _,⟨Q,q,d,l,n,r⟩=>⟨Q,q,d,l,n,r.mono e h⟩
 |.ins _ _,⟨Y,Q,q,r⟩=>⟨Y,Q,q,r.mono e h⟩
theorem bh.grow {Y:Hp}(r:bh K H P α S)(e:qF H Y):bh K Y P α S where
 tb:=r.tb.keep (λb u q _=>e _ _ q) λ_ _ _ _ p n=>⟨p,n⟩
 sub:=r.sub.trans e
 len:=r.len
 nd:=r.nd
 sep:=r.sep
 at':=λi a o U N=>by
  have m:=r.at' i a o U N;cases o with
  |dead=>trivial
  |lst B=>obtain⟨Q,q,t⟩:=m;exact⟨Q,e _ _ q,t⟩
  |dct J=>obtain⟨Q,q,t⟩:=m;exact⟨Q,e _ _ q,t⟩
  |dcT J=>obtain⟨Q,q,t⟩:=m;exact⟨Q,e _ _ q,t⟩
  |ins C O=>obtain⟨G,Q,q,t⟩:=m;exact⟨G,Q,e _ _ q,t⟩
 own:=λi a q=>by
  have m:=r.own i a q;cases z:H a with
  |none=>exact absurd z m
  |some o=>rw[e _ _ z];intro w;cases w
theorem fK {H:Hp}{a:Af}{o:HO}(h:H a=none):qF H (cc H a o):=λb u e=>by rw[qN (qX e h)];exact e
theorem bh.pure {a:Af}{o:HO}(r:bh K H P α S)(h:H a=none):bh K (cc H a o) (cc P a o) α S/\qF P (cc P a o):=by
 have N:P a=none:=by
  cases z:P a with
  |none=>rfl
  |some u=>rw[r.sub _ _ z] at h;cases h
 have G:qF P (cc P a o):=fK N;have U:=r.grow (fK (o:=o) h);refine⟨⟨r.tb.keep (λb u q _=>(qN (qX q h)).trans q) λb u q _ p n=>⟨(qN (qX q h)).trans p,n⟩,λb u e=>?_,r.len,r.nd,λi b u Q J O=>?_,λi b u Q J=>(U.at' i b u Q J).mono G (Bu _),U.own⟩,G⟩
 .by_cases Y:b=a
  .subst Y;rw[zK] at e ⊢;exact e
  .rw[qN Y] at e ⊢;exact r.sub _ _ e
 .have Y:b≠a:=by rintro rfl;exact r.own i b Q h
  rw[qN Y];exact r.sep i b u Q J O
theorem bh.new {a:Af}{o:HO}{m:MO}(r:bh K H P α S)(h:H a=none)(hm:rh K (cc H a o) P (α ++ [a]) a m):bh K (cc H a o) P (α ++ [a]) (S++[m]):=by
 have C:P a=none:=by
  cases z:P a with
  |none=>rfl
  |some u=>rw[r.sub _ _ z] at h;cases h
 have J:=r.grow (fK (o:=o) h);have O:α<+:α++[a]:=Na _ _;have split:∀ (i:Ah) (b:Af),(α++[a])[i]? = Ab b->(i<α.length/\α[i]? = Ab b)\/(i=α.length/\b=a):=λi b q=>by
  by_cases Q:i<α.length
  .rw[Ci Q] at q;exact .inl ⟨Q,q⟩
  .rw[Cw om] at q
   cases G:i-α.length with
   |zero=>rw[G] at q;simp at q;exact .inr ⟨by fin2,q.symm⟩
   |succ k=>rw[G] at q;simp at q
 refine⟨r.tb.keep (λb u q _=>(qN (qX q h)).trans q) λb u q _ p n=>⟨p,λz=>(Bw.mp z).elim n λw=>qX q h (by simpa using w)⟩,J.sub,by simp[r.len],?_,λi b u U Y L=>?_,λi b u U Y=>?_,λi b q=>?_⟩
 .rw[Zc]
  refine⟨r.nd,by simp,λb B c N e=>?_⟩
  simp at N;subst N;subst e;obtain⟨i,Q,e⟩:=Cz.mp B;exact r.own i b (by rw[Ar Q,e]) h
 .rcases split i b U with⟨Q,z⟩|⟨Q,rfl⟩
  .rw[Ci (by rw[<- r.len];exact Q)] at Y
   exact r.sep i b u z Y L
  .exact C
 .rcases split i b U with⟨Q,z⟩|⟨Q,rfl⟩
  .rw[Ci (by rw[<- r.len];exact Q)] at Y
   exact(J.at' i b u z Y).mono (qF.refl _) O
  .rw[Q,r.len,Cw (Av _)] at Y
   simp at Y;subst Y;exact hm
 .rcases split i b q with⟨_,z⟩|⟨_,rfl⟩
  .exact J.own i b z
  .rw[zK];intro z;cases z
theorem XC {N:ag}(J:N.Nodup){i j:Ah}{x:Af}(a:N[i]? = Ab x)(b:N[j]? = Ab x):i=j:=by
 obtain⟨G,Y⟩:=Ce.mp a;obtain⟨U,Q⟩:=Ce.mp b;exact(Ti J).mp (Y.trans Q.symm)
theorem bh.put {a:Af}{i:Ah}{o:HO}{m m':MO}(r:bh K H P α S)(N:α[i]? = Ab a)(hs:S[i]? = Ab m)(L:m≠.dead)(hm:rh K (cc H a o) P α a m'):bh K (cc H a o) P α (S.set i m'):=by
 have E:=r.sep i a m N hs L;have I:i<S.length:=(Ce.mp hs).1;refine⟨r.tb.keep (λb u q O=>?_) λ_ _ _ _ p n=>⟨p,n⟩,λb u e=>?_,by simp[r.len],r.nd,λj b u J U w=>?_,λj b u J U=>?_,λj b q=>?_⟩
 .refine(qN ?_).trans q
  rintro rfl;have z:=r.at' i _ m N hs;cases m with
  |dead=>exact L rfl
  |lst M=>obtain⟨Q,z,_⟩:=z;rw[q] at z;rcases O with⟨_,rfl⟩|⟨_,rfl⟩ <;> cases z
  |dct B=>obtain⟨Q,z,_⟩:=z;rw[q] at z;rcases O with⟨_,rfl⟩|⟨_,rfl⟩ <;> cases z
  |dcT B=>obtain⟨Q,z,_⟩:=z;rw[q] at z;rcases O with⟨_,rfl⟩|⟨_,rfl⟩ <;> cases z
  |ins C A=>obtain⟨T,Q,z,_⟩:=z;rw[q] at z;rcases O with⟨_,rfl⟩|⟨_,rfl⟩ <;> cases z
 .have Y:b≠a:=by rintro rfl;rw[E] at e;cases e
  rw[qN Y];exact r.sub _ _ e
 .by_cases G:j=i
  .subst G;rw[N] at J;cases J;exact E
  .rw[Er (Fm G)] at U;exact r.sep j b u J U w
 .by_cases G:j=i
  .subst G;rw[N] at J;cases J
   rw[Fn I] at U;cases U;exact hm
  .rw[Er (Fm G)] at U
   have Y:b≠a:=by rintro rfl;exact G (XC r.nd J N)
   have z:=r.at' j b u J U;cases u with
   |dead=>trivial
   |lst M=>obtain⟨Q,q,t⟩:=z;exact⟨Q,by rw[qN Y];exact q,t⟩
   |dct B=>obtain⟨Q,q,t⟩:=z;exact⟨Q,by rw[qN Y];exact q,t⟩
   |dcT B=>obtain⟨Q,q,t⟩:=z;exact⟨Q,by rw[qN Y];exact q,t⟩
   |ins C A=>obtain⟨T,Q,q,t⟩:=z;exact⟨T,Q,by rw[qN Y];exact q,t⟩
 .by_cases Y:b=a
  .subst Y;rw[zK];intro z;cases z
  .rw[qN Y];exact r.own j b q
end
theorem nn {β : Type}{a:β}{p:Prop}(h:(none:Ak β) = Ab a):p:=by cases h
theorem gB {β : Type}{c:Prop}[Gg c]{a b:β}(h:(if c then Ab a else none)=Ab b):c/\a=b:=by
 by_cases z:c
 .rw[Ax z] at h;exact⟨z,Dc h⟩
 .rw[Bb z] at h;exact nn h
end _D
end
namespace _D
open _L
variable {ge:aa}{us cs:ah}{cx:Aa Ey}{u vv fl:Ac}{p C:Af}{dd od:Ak Af}{sl:Aw (Ak Ac)}{np:En}{R:It->Hp->Prop}{M:Kq}{sp:Sp}{S S1:aq}{Q:VK}
abbrev DE:=qE->aq->ba D
abbrev DT:=qE->aq->ba As
abbrev DA:=qE->aq->ba (Aa D)
inductive jh where
 |nx (env:qE) (S:aq)|rt (d:D) (S:aq)|bk (env:qE) (S:aq)|ct (env:qE) (S:aq)|ex (c:Ac) (x:D) (env:qE) (S:aq)|bad
abbrev DS:=qE->aq->jh
def pf (X:Cx)(aj:aa)(H:Hp)(b:Af):Prop:=
 (∃ o,X.s₀.heap.get? b=Ab o)\/H b≠none\/(∃ p∈X.pn++aj,p.1=b)\/∃ x,X.env.cells.lookup x=Ab b
def Cv (X:Cx)(aj:aa)(H:Hp)(B h:Bn):Prop:=∀ b o,h.get? b=Ab o->pf X aj H b->b ∉ gx X.stack->B.get? b=Ab o
inductive zg (B:Bn)(e:Af)(c:Ac)(dd:Ak Af)(fl:Ac)(h:Bn):Prop
 |mk (oe:Ch) (vs:Aw Ac) (T:Af) (oT:Ch) (ts:Aw Ac) (he:h.get? e=Ab oe) (hc:oe.cls=c) (hdd:oe.dict=dd) (hd:oe.data=.fields vs) (h1:vs[1]? = Ab (.ref T)) (nT:B.get? T=none) (ne:T≠e) (hT:h.get? T=Ab oT) (hdT:oT.data=.fields ts) (h3:ts[3]? = Ab fl):zg B e c dd fl h
def pi (B:Bn)(l:Aa Iu)(e:Af)(c:Ac)(dd:Ak Af)(fl:Ac)(h:Bn):Prop:=B.StaysIn h/\B.get? e=none/\h.FunFrames B l/\zg B e c dd fl h
inductive jx (X:Cx)(pins:aa)(H:Hp)(c:Ac)(dd:Ak Af)(e:Af)(h:Bn):Prop where
 |new (ob:Ch) (t:Af) (he:h.get? e=Ab ob) (hc:ob.cls=c) (hdd:ob.dict=dd) (hd:ob.data=.fields #[.ref t,.none,.none,.none,.bool false,.none]) (no:¬ pf X pins H e) (nf:e ∉ gx X.stack):jx X pins H c dd e h
 |fly (B:Bn):pi B X.stack e c dd .none h->Cv X pins H B h->jx X pins H c dd e h
def uz (K:Ai)(P:Hp)(α : Aa Af)(c:Ac)(x:D)(dd:Ak Af):Prop:=match x with
 |.exl N U G=>N=c/\∃ Y J,dd=Ab Y/\P Y=Ab (ym Y (U.zip J))/\U.length=J.length/\qD K P α G J
 |_=>NE
inductive tz (X:Cx)(P:Hp)(α : Aa Af)(c:Ac)(x:D)(S:aq)(u:Ac)(s:Ag):Prop
 |mk (e:Af) (pins:aa) (σ : _L.St) (H:Hp) (P':Hp) (α' : Aa Af) (e1:u=.ref e) (I:Inv X pins σ H s) (r:bh X.K H P' α' S) (q1:qF P P') (q2:α<+:α') (q3:X.ex=[]/\X.stack=X.env::X.outer/\X.env.frame=Ab X.env.locals) (dd:Ak Af) (q4:jx X pins H c dd e s.heap) (q5:uz X.K P' α' c x dd):tz X P α c x S u s
theorem tz.base {X:Cx}{P P1:Hp}{α Y:ag}{c:Ac}{x:D}{s:Ag}(e:qF P P1)(h:α<+:Y)(k:tz X P1 Y c x S u s):tz X P α c x S u s:=by
 obtain⟨a,O,σ,H,T,J,G,I,r,N,L,E,dd,U,B⟩:=k;exact⟨a,O,σ,H,T,J,G,I,r,e.trans N,h.trans L,E,dd,U,B⟩
section
variable (X:Cx)
def qG {β:Type}(P:Hp)(α : Aa Af)(r:ba β)(Ok:β->aq->Prop):Prop:=
 match r with
 |.ok d Y=>Ok d Y
 |.ex c x Y=>∀ u J,tz X P α c x Y u J->X.xe u J
 |.bad=>Fb
def gw (P:Hp)(α : Aa Af)(Q:VK)(d:D)(S':aq):Prop:=∀ v U J Y,bh X.K U J Y S'->qF P J->α<+:Y->au X.K J Y d v->Q v U
def xi (P:Hp)(α : Aa Af)(Q:As->Hp->Prop)(b:As)(S':aq):Prop:=∀ U J Y,bh X.K U J Y S'->qF P J->α<+:Y->Q b U
def xj (P:Hp)(α : Aa Af)(Q:Aa V->Hp->Prop)(N:Aa D)(S':aq):Prop:=∀ G U J Y,bh X.K U J Y S'->qF P J->α<+:Y->qD X.K J Y N G->Q G U
abbrev qT (P:Hp)(α : Aa Af)(r:ba D)(Q:VK):Prop:=qG X P α r (gw X P α Q)
abbrev wF (P:Hp)(α : Aa Af)(r:ba As)(Q:As->Hp->Prop):Prop:=qG X P α r (xi X P α Q)
abbrev jJ (P:Hp)(α : Aa Af)(r:ba (Aa D))(Q:Aa V->Hp->Prop):Prop:=qG X P α r (xj X P α Q)
def zD (P:Hp)(α : Aa Af)(r:jh)(D:Ends):Prop:=
 match r with
 |.nx O N=>∀ J G U Y,bh X.K G U Y N->z9 X.K U Y J O->qF P U->α<+:Y->D.nx J G
 |.bk O N=>∀ J G U Y,bh X.K G U Y N->z9 X.K U Y J O->qF P U->α<+:Y->D.bk J G
 |.ct O N=>∀ J G U Y,bh X.K G U Y N->z9 X.K U Y J O->qF P U->α<+:Y->D.ct J G
 |.rt d N=>∀ v G U Y,bh X.K G U Y N->qF P U->α<+:Y->au X.K U Y d v->D.rt v G
 |.ex c x _ N=>∀ u B,tz X P α c x N u B->X.xe u B
 |.bad=>Fb
inductive tD (f:DE)(σ : _L.St)(H:Hp)(Q:VK):Prop
 |mk (P:Hp) (α : Aa Af) (env:qE) (S:aq) (r:bh X.K H P α S) (re:z9 X.K P α σ env) (af:qT X P α (f env S) Q):tD f σ H Q
inductive me (f:DT)(σ : _L.St)(H:Hp)(Q:As->Hp->Prop):Prop
 |mk (P:Hp) (α : Aa Af) (env:qE) (S:aq) (r:bh X.K H P α S) (re:z9 X.K P α σ env) (af:wF X P α (f env S) Q):me f σ H Q
inductive jy (f:DA)(σ : _L.St)(H:Hp)(Q:Aa V->Hp->Prop):Prop
 |mk (P:Hp) (α : Aa Af) (env:qE) (S:aq) (r:bh X.K H P α S) (re:z9 X.K P α σ env) (af:jJ X P α (f env S) Q):jy f σ H Q
inductive im (f:DS)(D:Ends)(σ : _L.St)(H:Hp):Prop
 |mk (P:Hp) (α : Aa Af) (env:qE) (S:aq) (r:bh X.K H P α S) (re:z9 X.K P α σ env) (af:zD X P α (f env S) D):im f D σ H
end
section
variable {X:Cx}{P P1:Hp}{α α1:ag}
theorem qT.base {r:ba D}(e:qF P P1)(h:α<+:α1)(k:qT X P α r Q):qT X P1 α1 r Q:=by
 cases r with
 |ok d S=>exact λv B U Y r O J N=>k v B U Y r (e.trans O) (h.trans J) N
 |ex c x S=>exact λu G q=>k u G (q.base e h)
 |bad=>exact k
theorem wF.base {r:ba As}{Q:As->Hp->Prop}(e:qF P P1)(h:α<+:α1)(k:wF X P α r Q):wF X P1 α1 r Q:=by
 cases r with
 |ok d S=>exact λJ G Y r O U=>k J G Y r (e.trans O) (h.trans U)
 |ex c x S=>exact λu N q=>k u N (q.base e h)
 |bad=>exact k
theorem jJ.base {r:ba (Aa D)}{Q:Aa V->Hp->Prop}(e:qF P P1)(h:α<+:α1)(k:jJ X P α r Q):jJ X P1 α1 r Q:=by
 cases r with
 |ok d S=>exact λv J G Y r B U O=>k v J G Y r (e.trans B) (h.trans U) O
 |ex c x S=>exact λu N q=>k u N (q.base e h)
 |bad=>exact k
theorem zD.base {r:jh}{D:Ends}(e:qF P P1)(h:α<+:α1)(k:zD X P α r D):zD X P1 α1 r D:=by
 cases r with
 |nx B S=>exact λv J G Y r O N U=>k v J G Y r O (e.trans N) (h.trans U)
 |bk B S=>exact λv J G Y r O N U=>k v J G Y r O (e.trans N) (h.trans U)
 |ct B S=>exact λv J G Y r O N U=>k v J G Y r O (e.trans N) (h.trans U)
 |rt d S=>exact λv J G Y r N U T=>k v J G Y r (e.trans N) (h.trans U) T
 |ex c x B S=>exact λu L q=>k u L (q.base e h)
 |bad=>exact k
theorem xr {v:V}{H:Hp}{d:D}(k:gw X P α Q d S)(r:bh X.K H P α S)(q:au X.K P α d v):Q v H:=k v H P α r (qF.refl _) (Bu _) q
end
section
variable {X:Cx}{a b e:Bp}{ar:En}
theorem mz {t t':TE}(h:PE X e t)(w:∀ σ H Q,t' σ H Q->t σ H Q):PE X e t':=λY s σ H Q I q=>h Y s σ H Q I (w σ H Q q)
theorem yv {st:Ey}{t t':TS}(h:PS X st t)(w:∀ D σ H,t' D σ H->t D σ H):PS X st t':=λY s σ H D I q=>h Y s σ H D I (w D σ H q)
theorem S8 {st:Aa Ey}{t t':TS}(h:il X st t)(w:∀ D σ H,t' D σ H->t D σ H):il X st t':=λY s σ H D I q=>h Y s σ H D I (w D σ H q)
theorem B_ {es:Aa Bp}{t t':TA}(h:PA X es t)(w:∀ σ H Q,t' σ H Q->t σ H Q):PA X es t':=λar Y s σ H Q I q=>h ar Y s σ H Q I (w σ H Q q)
structure Got (X:Cx)(pins:aa)(σ : _L.St)(env:qE)(P:Hp)(α : Aa Af)(u:Ac)(s1:Ag)(v:V)(H1 P1:Hp)(α1:ag)(d:D)(S1:aq):Prop where
 inv:Inv X pins σ H1 s1
 val:qK v u
 rel:bh X.K H1 P1 α1 S1
 env:z9 X.K P1 α1 σ env
 rep:au X.K P1 α1 d v
 same:qF P P1
 pre:α<+:α1
inductive uh (X:Cx)(pins:aa)(σ : _L.St)(env:qE)(P:Hp)(α : Aa Af)(u:Ac)(s1:Ag){γ : Type}(g:D->aq->ba γ)(Ok:γ->aq->Prop):Prop
 |mk (v:V) (H1 P1:Hp) (α1:ag) (d:D) (S1:aq) (G:Got X pins σ env P α u s1 v H1 P1 α1 d S1) (q:qG X P α (g d S1) Ok):uh X pins σ env P α u s1 g Ok
inductive sw (X:Cx)(pins:aa)(σ : _L.St)(env:qE)(P:Hp)(α : Aa Af)(us:ah)(s1:Ag){γ : Type}(g:Aa D->aq->ba γ)(Ok:γ->aq->Prop):Prop
 |mk (vs:Aa V) (H1 P1:Hp) (α1:ag) (ds:Aa D) (S1:aq) (I:Inv X pins σ H1 s1) (rv:qJ vs us) (r:bh X.K H1 P1 α1 S1) (re:z9 X.K P1 α1 σ env) (rp:qD X.K P1 α1 ds vs) (e1:qF P P1) (e2:α<+:α1) (q:qG X P α (g ds S1) Ok):sw X pins σ env P α us s1 g Ok
inductive we (X:Cx)(pins:aa)(σ : _L.St)(env:qE)(P:Hp)(α : Aa Af)(b:As)(s1:Ag){γ : Type}(g:As->aq->ba γ)(Ok:γ->aq->Prop):Prop
 |mk (H1 P1:Hp) (α1:ag) (S1:aq) (I:Inv X pins σ H1 s1) (r:bh X.K H1 P1 α1 S1) (re:z9 X.K P1 α1 σ env) (e1:qF P P1) (e2:α<+:α1) (q:qG X P α (g b S1) Ok):we X pins σ env P α b s1 g Ok
theorem zM {γ:Type}{f:DE}{g:D->aq->ba γ}{Ok:γ->aq->Prop}{aj:aa}{s:Ag}{σ:_L.St}{H P:Hp}{α:ag}{ak:qE}(w:PE X e (tD X f))(I:Inv X aj σ H s)(r:bh X.K H P α S)
  (E:z9 X.K P α σ ak) (U:qG X P α ((f ak S).bind g) Ok) :
  Ap (Au X.prog X.w) X.A (eval e X.env) (λu B=>uh X aj σ ak P α u B g Ok) X.xe s:=by
 refine bo (w aj s σ H (λv N=>∃ J Y d S1,bh X.K N J Y S1/\z9 X.K J Y σ ak/\au X.K J Y d v/\qF P J/\α<+:Y/\qG X P α (g d S1) Ok) I ⟨P,α,ak,S,r,E,?_⟩) λu B ⟨v,N,j,z,J,Y,d,S1,k,m,i,A,t,o⟩=>⟨v,N,J,Y,d,S1,⟨j,z,k,m,i,A,t⟩,o⟩;cases q:f ak S with
 |bad=>rw[q] at U;exact U
 |ex c x L=>rw[q] at U;exact U
 |ok d L =>
  rw[q] at U;exact λv h n G y O T l=>⟨n,G,d,L,y,E.mono O T,l,O,T,U⟩
theorem wZ {γ:Type}{es:Aa Bp}{f:DA}{g:Aa D->aq->ba γ}{Ok:γ->aq->Prop}{aj:aa}{s:Ag}{σ:_L.St}{H P:Hp}{α:ag}{ak:qE}(z:PA X es (jy X f))(I:Inv X aj σ H s)(r:bh X.K H P α S)
  (A:z9 X.K P α σ ak) (U:qG X P α ((f ak S).bind g) Ok) (ar:En) :
  Ap (Au X.prog X.w) X.A (spliced (Gp ar (Bl es X.env))) (λus B=>sw X aj σ ak P α us B g Ok) X.xe s:=by
 refine bo (z ar aj s σ H (λo N=>∃ J Y L S1,bh X.K N J Y S1/\z9 X.K J Y σ ak/\qD X.K J Y L o/\qF P J/\α<+:Y/\qG X P α (g L S1) Ok) I ⟨P,α,ak,S,r,A,?_⟩) λu B ⟨v,N,y,j,J,Y,d,S1,l,i,q3,w,n,t⟩=>⟨v,N,J,Y,d,S1,y,j,l,i,q3,w,n,t⟩;cases q:f ak S with
 |bad=>rw[q] at U;exact U
 |ex c x T=>rw[q] at U;exact U
 |ok d T =>
  rw[q] at U;exact λv H' h G k O E m=>⟨h,G,d,T,k,A.mono O E,m,O,E,U⟩
theorem jU {γ:Type}{f:DT}{g:As->aq->ba γ}{Ok:γ->aq->Prop}{aj:aa}{s:Ag}{σ:_L.St}{H P:Hp}{α:ag}{ak:qE}{m:Jl As}
  (o:∀ (Q:As->Hp->Prop),me X f σ H Q->Ap (Au X.prog X.w) X.A m (TP X aj σ Q) X.xe s) (r:bh X.K H P α S) (E:z9 X.K P α σ ak) (J:qG X P α ((f ak S).bind g) Ok) :
  Ap (Au X.prog X.w) X.A m (λb B=>we X aj σ ak P α b B g Ok) X.xe s:=by
 refine bo (o (λb N=>∃ U Y S1,bh X.K N U Y S1/\z9 X.K U Y σ ak/\qF P U/\α<+:Y/\qG X P α (g b S1) Ok) ⟨P,α,ak,S,r,E,?_⟩) λb B ⟨N,I,U,Y,S1,w,j,k,l,z⟩=>⟨N,U,Y,S1,I,w,j,k,l,z⟩;cases q:f ak S with
 |bad=>rw[q] at J;exact J
 |ex c x L=>rw[q] at J;exact J
 |ok d L =>
  rw[q] at J;exact λv y G A O T=>⟨y,G,L,A,E.mono O T,O,T,J⟩
def dC (d:D):DE:=λ_ S=>.ok d S
def qB (i:Ah):DE:=λY S=>match Y[i]? with
 |some (Ab d)=>.ok d S
 |_=>.bad
theorem TL:PE X (.Constant (.int i) j ar) (tD X (dC (.int i))):=mz DH λσ H Q ⟨P,α,J,S,r,U,Y⟩=>xr Y r (by simp only[au])
theorem E9:PE X (.Constant (.bool i) j ar) (tD X (dC (.bl i))):=mz CB λσ H Q ⟨P,α,J,S,r,U,Y⟩=>xr Y r (by simp only[au])
theorem TU:PE X (.Constant (.str i) j ar) (tD X (dC (.str i))):=mz DN λσ H Q ⟨P,α,J,S,r,U,Y⟩=>xr Y r (by simp only[au])
theorem TM:PE X (.Constant .none j ar) (tD X (dC .non)):=mz DJ λσ H Q ⟨P,α,J,S,r,U,Y⟩=>xr Y r (by simp only[au])
set_option tactic.hygienic true in
theorem FZ {i:Ah}{σ:_L.St}{H:Hp}(h:tD X (qB i) σ H Q):RD i σ H Q:=by
 obtain⟨P,α,N,S,r,J,Y⟩:=h;unfold qB at Y
 split at Y
 .rename_i d q
  obtain⟨v,G,U⟩:=J.2 i d q;exact⟨v,G,xr Y r U⟩
 .exact Ao Y
theorem dv (i:Ah){x:An}(U:X.N[i]? = Ab x:=by rfl)(hv:qv X.env.scope x:=by first|exact AaL rfl|exact f8 (AaL rfl)|exact f8 (f8 rfl))(J:(x == ("__debug__" : An))=false:=by decide)
  (Y:(x == ("__classdict__" : An))=false:=by decide):PE X (.Name x ar) (tD X (qB i)):=mz (DQ U hv J Y) λσ H Q h=>FZ h
theorem cG {x:An}{d:D}{v:V}(U:Gl X x)(hm:X.mg x=Ab u)(r:qK v u)(q:∀ P α,au X.K P α d v)(Y:(x == ("__debug__" : An))=false:=by decide):PE X (.Name x ar) (tD X (dC d)):=
 mz (BW U hm r Y) λσ H Q ⟨P,α,G,S,r,N,J⟩=>xr J r (q _ _)
theorem GA {x:An}{n:Eg}(G:Gl X x)(hm:X.mg x=none)(hv:Gm x=Ab (.type n))(U:x ≠ "__name__":=by decide)(Y:(x == ("__debug__" : An))=false:=by decide):PE X (.Name x ar) (tD X (dC (.ty n))):=
 mz (BV (v:=.ty n) G hm hv rfl U Y) λσ H Q ⟨P,α,N,S,r,O,J⟩=>xr J r (by simp only[au])
abbrev G2:=D->D->aq->ba D
def gh (X:Cx)(f:Ac->Ac->Jl Ac)(g:G2):Prop:=
 ∀ (J:aa) (σ : _L.St) (H:Hp) (s:Ag) (P:Hp) (α : Aa Af) (S:aq) (v u:V) (vv Y:Ac) (a b:D) (Q:VK),Inv X J σ H s->bh X.K H P α S->qK v vv->qK u Y->au X.K P α a v->au X.K P α b u->qT X P α (g a b S) Q ->
  Ap (Au X.prog X.w) X.A (f vv Y) (EP X J σ Q) X.xe s
theorem gh.of {f:Ac->Ac->Jl Ac}{r:R2}{g:G2}(h:kr X f r)(w:∀ H P α S v u a b Q,bh X.K H P α S->au X.K P α a v->au X.K P α b u->qT X P α (g a b S) Q->r v u H Q):gh X f g:=
 λB σ H s P α S v u vv Y a b Q I J O U N L G=>h B s σ H v u vv Y Q I O U (w H P α S v u a b Q J N L G)
def yc (X:Cx)(f:Ac->Jl Ac)(g:D->aq->ba D):Prop:=
 ∀ (Y:aa) (σ : _L.St) (H:Hp) (s:Ag) (P:Hp) (α : Aa Af) (S:aq) (v:V) (vv:Ac) (a:D) (Q:VK),Inv X Y σ H s->bh X.K H P α S->qK v vv->au X.K P α a v->qT X P α (g a S) Q ->
  Ap (Au X.prog X.w) X.A (f vv) (EP X Y σ Q) X.xe s
def xm (X:Cx)(g:G2):Prop:=
 ∀ (J Y:Bp) (G:aa) (σ : _L.St) (H:Hp) (s:Ag) (P:Hp) (α : Aa Af) (S:aq) (v u:V) (vv U:Ac) (a b:D) (Q:VK),Inv X G σ H s->bh X.K H P α S->qK v vv->qK u U->au X.K P α a v->au X.K P α b u->qT X P α (g a b S) Q ->
  subscripted Y false vv U=operate [vv,U] (On vv U)->Ap (Au X.prog X.w) X.A (Xa J Y vv U) (EP X G σ Q) X.xe s
def wC (X:Cx)(f:Ac)(g:Aa D->aq->ba D):Prop:=
 ∀ (J:aa) (σ : _L.St) (H:Hp) (s:Ag) (P:Hp) (α : Aa Af) (S:aq) (Y:Aa V) (us:ah) (U:Aa D) (Q:VK),Inv X J σ H s->bh X.K H P α S->qJ Y us->qD X.K P α U Y->qT X P α (g U S) Q ->
  Ap (Au X.prog X.w) X.A (call f us) (EP X J σ Q) X.xe s
def d2 (g:G2)(G U:DE):DE:=λY S=>(G Y S).bind λx S1=>(U Y S1).bind λy J=>g x y J
def d1 (g:D->aq->ba D)(J:DE):DE:=λY S=>(J Y S).bind g
variable {fa fb:DE}
theorem sQ {g:G2}{f:Ac->Ac->Jl Ac}{aj:aa}{s:Ag}{σ:_L.St}{H:Hp}(j:gh X f g)(c:PE X a (tD X fa))(o:PE X b (tD X fb))(I:Inv X aj σ H s)(h:tD X (d2 g fa fb) σ H Q) :
  Ap (Au X.prog X.w) X.A (eval a X.env) (λv G=>Ap (Au X.prog X.w) X.A (eval b X.env) (λu U=>Ap (Au X.prog X.w) X.A (f v u) (EP X aj σ Q) X.xe U) X.xe G) X.xe s:=by
 obtain⟨P,α,t,S,r,l,q⟩:=h;refine bo (zM c I r l q) λvv m ⟨v,n,T,J,d,S1,Y,L⟩=>?_;refine bo (zM o Y.inv Y.rel Y.env (P:=T) (α:=J) (Ok:=gw X T J Q) (g:=λy N=>g d y N) ?_) λE k ⟨u,z,w,O,A,N,G2,B⟩=>?_
 .exact qT.base Y.same Y.pre L
 .exact j aj σ z k w O N v u vv E d A Q G2.inv G2.rel Y.val G2.val (au.mono G2.same G2.pre _ _ Y.rep) G2.rep (qT.base G2.same G2.pre B)
theorem EC {op:Aa4}{g:G2}(Y:gh X (Ee op) g)(U:PE X a (tD X fa))(J:PE X b (tD X fb)):PE X (.BinOp a op b ar) (tD X (d2 g fa fb)):=
 λG s σ H Q I h=>wpAny_BinOp (sQ Y U J I h)
theorem TJ {op:Wu}{g:G2}(Y:gh X (Dh op) g)(U:PE X a (tD X fa))(J:PE X b (tD X fb))(hm:Mc op b=false:=by first|exact k8 _|with_unfolding_all rfl):PE X (.Compare a [op] [b] ar) (tD X (d2 g fa fb)):=
 λG s σ H Q I h=>wpAny_Compare1 (sQ Y U J I h) hm
theorem ED {op:UnaryOp}{g:D->aq->ba D}(N:yc X (Zv op) g)(A:PE X a (tD X fa)):PE X (.UnaryOp op a ar) (tD X (d1 g fa)):=by
 intro B s σ H Q I h;obtain⟨P,α,w,S,r,E,L⟩:=h;exact UnaryOp_ (bo (zM A I r E L) λvv O ⟨v,T,G,J,d,S1,Y,U⟩=>N B σ T O G J S1 v vv d Q Y.inv Y.rel Y.val Y.rep (qT.base Y.same Y.pre U))
theorem JJ {g:G2}(n:xm X g)(ha:PE X a (tD X fa))(hb:PE X b (tD X fb))(hs:u0 b:=by intro _ _;rfl):PE X (.Subscript a b ar) (tD X (d2 g fa fb)):=by
 intro o s σ H Q I h;obtain⟨P,α,G,S,r,B,J⟩:=h;have O:rk X (λx y H Q=>∃ P α S a b,bh X.K H P α S/\au X.K P α a x/\au X.K P α b y/\qT X P α (g a b S) Q):=λN U o s σ H x y v u Q I rx ry ⟨P,α,S,a,b,r,p1,p2,J⟩ l =>
  n N U o σ H s P α S x y v u a b Q I r rx ry p1 p2 J l
 refine mz (CC O ha hb hs) (t':=tD X (d2 g fa fb)) (λσ H Q h=>?_) o s σ H Q I ⟨P,α,G,S,r,B,J⟩;obtain⟨P,α,G,S,r,B,J⟩:=h;refine⟨P,α,G,S,r,B,?_⟩;unfold d2 at J;cases q:fa G S with
 |bad=>rw[q] at J;exact J
 |ex c x S'=>rw[q] at J;exact J
 |ok d S1 =>
  rw[q] at J;intro v H1 P1 A r1 T w rp;refine⟨P1,A,G,S1,r1,B.mono T w,?_⟩;have Y:qT X P α ((fb G S1).bind λy L=>g d y L) Q:=J;cases j:fb G S1 with
  |bad=>rw[j] at Y;exact Y
  |ex c x S'=>rw[j] at Y;exact λu s' z=>Y u s' (z.base T w)
  |ok d' L =>
   rw[j] at Y;intro u H2 m k i f t E;exact⟨m,k,L,d,d',i,au.mono f t _ _ rp,E,qT.base (T.trans f) (w.trans t) Y⟩
def qC:DA:=λ_ S=>.ok [] S
def qA (f:DE)(g:DA):DA:=λY S=>(f Y S).bind λx S1=>(g Y S1).bind λU J=>.ok (x::U) J
theorem Z3:PA X [] (jy X qC):=B_ DD λσ H Q ⟨P,α,J,S,r,U,Y⟩=>Y [] H P α r (qF.refl _) (Bu _) .nil
theorem cF {es:Aa Bp}{g:DA}(l:PE X e (tD X fa))(E:PA X es (jy X g))(hs:Bl (e::es) X.env=(false,eval e X.env)::Bl es X.env:=by rfl):PA X (e::es) (jy X (qA fa g)):=by
 intro ar m s σ H Q I h;obtain⟨P,α,t,S,r,y,w⟩:=h;rw[hs];show Ap _ _ (spliced ((false,eval e X.env)::Gp ar (Bl es X.env))) _ _ s;refine Ht (bo (zM l I r y w) λu f ⟨x,H1,L,J,d,S1,Y,N⟩=>?_);refine bo (wZ E Y.inv Y.rel Y.env (P:=L) (α:=J) (Ok:=xj X L J Q) (jJ.base Y.same Y.pre N) ar) λus n ⟨k,q,v,j,i,c,o,A,T,z,U,O,B,G⟩=>?_;exact⟨x::k,q,o,.cons Y.val A,G _ _ _ _ T O B (.cons (au.mono O B _ _ Y.rep) U)⟩
noncomputable def bb:Ah:=16777216
theorem zB:bb=sizeLine:=Gq.symm
def xI (f:DA):DE:=λJ S=>(f J S).bind λY S1=>if Y.length<=bb then .ok (.tup Y) S1 else .bad
def zL (f:DA):DE:=λJ S=>(f J S).bind λY S1=>if Y.length<=bb then .ok (.lst Y) S1 else .bad
def dD (f:DA):DE:=λJ S=>(f J S).bind λY S1=>if Y.length<=bb then .ok (.loc S1.length) (S1++[.lst Y]) else .bad
theorem aK {K:Ai}{P:Hp}{α:ag}{a:Af}{Y:Aa D}{vs:Aa V}(h:iy K P a vs)(r:qD K P α Y vs):au K P α (.tup Y) (.ref a):=by simp only[au];exact⟨a,vs,rfl,h,r⟩
theorem nJ {K:Ai}{P:Hp}{α:ag}{a:Af}{Y:Aa D}{vs:Aa V}(h:oo K P a vs)(r:qD K P α Y vs):au K P α (.lst Y) (.ref a):=by simp only[au];exact⟨a,vs,rfl,h,r⟩
theorem gH {H P:Hp}{α:ag}{Y:Aa D}{vs:Aa V}(r:bh X.K H P α S)(hp:H p=none)(U:qD X.K P α Y vs)(G:gw X P α Q (.tup Y) S):Q (.ref p) (cc H p (.tup vs)):=by
 obtain⟨N,J⟩:=r.pure (o:=.tup vs) hp;exact G _ _ _ α N J (Bu _) (aK (.of zK) (qD.mono J (Bu _) _ _ U))
theorem w8 {H P:Hp}{α:ag}{Y:Aa D}{vs:Aa V}(r:bh X.K H P α S)(hp:H p=none)(U:qD X.K P α Y vs)(G:gw X P α Q (.lst Y) S):Q (.ref p) (cc H p (.lst vs)):=by
 obtain⟨N,J⟩:=r.pure (o:=.lst vs) hp;exact G _ _ _ α N J (Bu _) (nJ (.inl (.inl zK)) (qD.mono J (Bu _) _ _ U))
theorem pV {H P:Hp}{α:ag}{J:Aa D}{vs:Aa V}(r:bh X.K H P α S)(hp:H p=none)(U:qD X.K P α J vs)(G:gw X P α Q (.loc S.length) (S++[.lst J])):Q (.ref p) (cc H p (.lst vs)):=by
 have Y:α<+:α++[p]:=Na _ _;have N:=r.new (o:=.lst vs) (m:=.lst J) hp ⟨vs,zK,qD.mono (qF.refl _) Y _ _ U⟩;refine G _ _ _ _ N (qF.refl _) Y ?_;simp only[au];exact⟨p,rfl,by rw[<- r.len];simp⟩
theorem tN {f:DA}{σ:_L.St}{H:Hp}{G:Aa D->aq->ba D}{mk:Aa V->HO}(h:tD X (λak S=>(f ak S).bind λxs S1=>if xs.length<=bb then G xs S1 else .bad) σ H Q)
  (k:∀ N P1 J S1 O vs p,bh X.K N P1 J S1->N p=none->qD X.K P1 J O vs->qT X P1 J (G O S1) Q->Q (.ref p) (cc N p (mk vs))) :
  jy X f σ H λvs N=>vs.length<=sizeLine/\∀ p,N p=none->Q (.ref p) (cc N p (mk vs)):=by
 obtain⟨P,α,ak,S,r,z,T⟩:=h;refine⟨P,α,ak,S,r,z,?_⟩;have Y:qT X P α ((f ak S).bind λxs S1=>if xs.length<=bb then G xs S1 else .bad) Q:=T
 cases q:f ak S with
 |bad=>rw[q] at Y;exact Y
 |ex c x j=>rw[q] at Y;exact Y
 |ok O S1 =>
  rw[q] at Y;intro vs N P1 J A w I L;have U:qT X P α (if O.length<=bb then G O S1 else .bad) Q:=Y
  by_cases B:O.length<=bb
  .rw[Ax B] at U
   exact⟨by rw[<- L.length,<- zB];exact B,λp E=>k N P1 J S1 O vs p A E L (qT.base w I U)⟩
  .rw[Bb B] at U;exact Ao U
theorem TX {es:Aa Bp}{f:DA} {x1} (h:PA X es (jy X f)):PE X (.Tuple es x1 ar) (tD X (xI f)):=
 mz (DP h) λσ H Q q=>tN (G:=λO S1=>.ok (.tup O) S1) (mk:=.tup) q λE B J S1 T L p r Y U N=>gH r Y U N
theorem Z7 {es:Aa Bp}{f:DA}(h:PA X es (jy X f)):PE X (.List es ar) (tD X (zL f)):=
 mz (XR h) λσ H Q q=>tN (G:=λO S1=>.ok (.lst O) S1) (mk:=.lst) q λE B J S1 T L p r Y U N=>w8 r Y U N
theorem GE {es:Aa Bp}{f:DA}(h:PA X es (jy X f)):PE X (.List es ar) (tD X (dD f)):=
 mz (XR h) λσ H Q q=>tN (G:=λO S1=>.ok (.loc S1.length) (S1++[MO.lst O])) (mk:=.lst) q λE B J S1 T L p r Y U N=>pV r Y U N
end
section
variable {X:Cx}{a b c e:Bp}{ar:En}{fa fb fc:DE}{ta tb:DT}
def xR:D->aq->Ak As
 |.non,_=>Ab false
 |.bl b,_=>Ab b
 |.int i,_=>Ab (i != 0)
 |.str x,_=>if x.length<=bb then Ab ((x.length:Am) != 0) else none
 |.tup Y,_=>Ab (!Y.isEmpty)
 |.lst Y,_=>Ab (!Y.isEmpty)
 |.dct0,_=>Ab false
 |.loc i,S=>match S[i]? with
  |some (.lst Y)=>Ab (!Y.isEmpty)
  |some (.dct J)=>Ab (!J.isEmpty)
  |_=>none
 |_,_=>none
theorem qD.isEmpty {K:Ai}{P:Hp}{α:ag}{Y:Aa D}{vs:Aa V}(r:qD K P α Y vs):(!Y.isEmpty)=!vs.isEmpty:=by
 cases Y with
 |nil=>rw[r.nil_inv];rfl
 |cons d Y=>obtain⟨w,J,rfl,_,_⟩:=r.cons_inv;rfl
theorem xS {K:Ai}{H P:Hp}(e:qF P H){a:Af}{xs:Aa V}(h:iy K P a xs):iy K H a xs:=yB e h
theorem u3 {H P:Hp}{α:ag}{v:V}{d:D}{k:As}(r:bh X.K H P α S)(p:au X.K P α d v)(h:xR d S=Ab k):iI X.K v H k:=by
 cases d with
 |non=>simp only[au] at p;subst p;cases h;rfl
 |bl b=>simp only[au] at p;subst p;cases h;rfl
 |int i=>simp only[au] at p;subst p;cases h;rfl
 |str x =>
  simp only[au] at p;subst p;obtain⟨O,rfl⟩:=gB h;exact⟨by rw[<- zB];exact O,rfl⟩
 |tup U =>
  simp only[au] at p;obtain⟨a,Y,rfl,q,t⟩:=p;cases h;exact .inr (.inl ⟨Y,xS r.sub q,t.isEmpty⟩)
 |lst U =>
  simp only[au] at p;obtain⟨a,Y,rfl,q,t⟩:=p;cases h;exact .inl ⟨Y,(xP r.sub q).l,t.isEmpty⟩
 |dct0 =>
  simp only[au] at p;obtain⟨a,rfl,q⟩:=p;cases h;exact .inr (.inr ⟨[],r.sub _ _ q,rfl⟩)
 |loc i =>
  simp only[au] at p;obtain⟨a,rfl,q⟩:=p;have h:(match S[i]? with|some (.lst U)=>Ab (!U.isEmpty)|some (.dct G)=>Ab (!G.isEmpty)|_=>none)=Ab k:=h
  cases J:S[i]? with
  |none=>rw[J] at h;exact nn h
  |some m =>
   rw[J] at h;cases m with
   |lst U =>
    cases h;obtain⟨Y,z,t⟩:=r.at' i a _ q J;exact .inl ⟨Y,.of z,t.isEmpty⟩
   |dct G =>
    cases h;obtain⟨Y,z,t⟩:=r.at' i a _ q J;refine .inr (.inr ⟨Y,z,?_⟩);cases t <;> rfl
   |_=>exact nn h
 |ty n=>exact nn h
 |obj a=>exact nn h
 |exn c=>exact nn h
 |fd L N=>exact nn h
 |clo a Y N=>exact nn h
 |exl c B N=>exact nn h
theorem KE {aj:aa}{s:Ag}{σ:_L.St}{H P:Hp}{α:ag}{v:V}{d:D}{k:As}{Q:As->Hp->Prop}(I:Inv X aj σ H s)(r:bh X.K H P α S)(Y:qK v vv)(p:au X.K P α d v)(h:xR d S=Ab k)(q:Q k H) :
  Ap (Au X.prog X.w) X.A (truthy vv) (TP X aj σ Q) X.xe s:=pI aj s σ H v vv Q I Y ⟨k,u3 r p h,q⟩
def jI (o:Ak As)(S:aq):ba As:=match o with
 |some b=>.ok b S
 |none=>.bad
def cj (f:DE):DT:=λY S=>(f Y S).bind λd S1=>jI (xR d S1) S1
theorem nM {o:Ak As}{P:Hp}{α:ag}{Ok:As->aq->Prop}(h:qG X P α (jI o S) Ok):∃ b,o=Ab b/\Ok b S:=by
 cases o with
 |none=>exact Ao h
 |some b=>exact⟨b,rfl,h⟩
theorem NG (A:PE X a (tD X fa))(O:∀ Y,isTrue a X.env Y=(do let v <- Y;Sc a.pos;holding [v] (truthy v)):=by intro _;rfl):PT X a (me X (cj fa)):=by
 intro j s σ H Q I h;obtain⟨P,α,w,S,r,E,L⟩:=h;refine isTrue_plain (bo (zM A I r E L) λvv z ⟨v,T,N,U,d,S1,J,G⟩=>?_) (O _);obtain⟨k,B,q⟩:=nM G;exact KE J.inv J.rel J.val J.rep B (q T N U J.rel J.same J.pre)
theorem ND {op:Wu}{g:G2}(L:gh X (Dh op) g)(ha:PE X a (tD X fa))(hb:PE X b (tD X fb))(hm:Mc op b=false:=by first|exact k8 _|with_unfolding_all rfl):PT X (.Compare a [op] [b] ar) (me X (cj (d2 g fa fb))):=by
 intro i s σ H Q I h;obtain⟨P,α,O,S,r,f,j⟩:=h;refine wpAny_isTrue_Compare1 ?_ hm;have N:tD X (d2 g fa fb) σ H (λv J=>∃ k,iI X.K v J k/\Q k J):=by
  refine⟨P,α,O,S,r,f,?_⟩;have Y:qG X P α ((d2 g fa fb O S).bind λd S1=>jI (xR d S1) S1) (xi X P α Q):=j;cases q:d2 g fa fb O S with
  |bad=>rw[q] at Y;exact Y
  |ex c x S'=>rw[q] at Y;exact Y
  |ok d S1 =>
   rw[q] at Y;obtain⟨k,T,U⟩:=nM (X:=X) Y;exact λv J t G B l m z=>⟨k,u3 B z T,U J t G B l m⟩
 exact bo (sQ L ha hb I N) λv s1 h1=>bo h1 λu s2 o=>bo o λx w ⟨y,H3,n,A,k,E,U⟩=>pI i w σ H3 y x Q n A ⟨k,E,U⟩
def w4 (g g':G2)(fa fb fc:DE):DE:=λJ S=>(fa J S).bind λx S1=>(fb J S1).bind λy U=>(g x y U).bind λz Y =>
 match xR z Y with
 |some true=>(fc J Y).bind λw G=>g' y w G
 |some false=>.ok z Y
 |none=>.bad
inductive wg (X:Cx)(pins:aa)(σ : _L.St)(P:Hp)(α : Aa Af)(w:Ac)(s1:Ag){γ : Type}(k:D->aq->ba γ)(Ok:γ->aq->Prop):Prop
 |mk (y:V) (H1 P1:Hp) (α1:ag) (d:D) (S1:aq) (I:Inv X pins σ H1 s1) (rv:qK y w) (r:bh X.K H1 P1 α1 S1) (rp:au X.K P1 α1 d y) (e1:qF P P1) (e2:α<+:α1) (q:qG X P α (k d S1) Ok):wg X pins σ P α w s1 k Ok
theorem rP {γ:Type}{f:Ac->Ac->Jl Ac}{g:G2}{k:D->aq->ba γ}{Ok:γ->aq->Prop}{aj:aa}{σ:_L.St}{H:Hp}{s:Ag}{P:Hp}{α:ag}{v u:V}{G:Ac}{a b:D}(T:gh X f g)(I:Inv X aj σ H s)(r:bh X.K H P α S)
  (A:qK v vv) (E:qK u G) (pa:au X.K P α a v) (n:au X.K P α b u) (J:qG X P α ((g a b S).bind k) Ok) :
  Ap (Au X.prog X.w) X.A (f vv G) (λw B=>wg X aj σ P α w B k Ok) X.xe s:=by
 refine bo (T aj σ H s P α S v u vv G a b (λy O=>∃ U Y d S1,bh X.K O U Y S1/\au X.K U Y d y/\qF P U/\α<+:Y/\qG X P α (k d S1) Ok) I r A E pa n ?_) λw B ⟨y,O,z,r1,U,Y,d,S1,l,i,q3,q4,q5⟩=>⟨y,O,U,Y,d,S1,z,r1,l,i,q3,q4,q5⟩;cases q:g a b S with
 |bad=>rw[q] at J;exact J
 |ex c x L=>rw[q] at J;exact J
 |ok d L =>
  rw[q] at J;exact λv H' h N j o m t=>⟨h,N,d,L,j,t,o,m,J⟩
theorem qG.base' {β:Type}{P P1:Hp}{α J:ag}{r:ba β}{Ok Y:β->aq->Prop}(e:qF P P1)(h:α<+:J)(U:∀ d S,Ok d S->Y d S)(k:qG X P α r Ok):qG X P1 J r Y:=by
 cases r with
 |ok d S=>exact U d S k
 |ex c x S=>exact λu G q=>k u G (q.base e h)
 |bad=>exact k
theorem YK {op N:Wu}{g g':G2}(ho:gh X (Dh op) g)(A:gh X (Dh N) g')(ha:PE X a (tD X fa))(hb:PE X b (tD X fb))(hc:PE X c (tD X fc))
  (hm:Zd [op,N] [b,c]=false:=by with_unfolding_all rfl):PE X (.Compare a [op,N] [b,c] ar) (tD X (w4 g g' fa fb fc)):=by
 intro i s σ H Q I h;obtain⟨P,α,ak,S,r,re,af⟩:=h;refine Compare_chain (bo (zM ha I r re af) λvv s1 ⟨v,H1,P1,zb,d,S1,U,f⟩=>chain_link (bo (zM hb U.inv U.rel U.env (qT.base U.same U.pre f)) λuu s2 ⟨u,H2,P2,zc,d',S2,G2,q⟩ =>
  bo (rP ho G2.inv G2.rel U.val G2.val (au.mono G2.same G2.pre _ _ U.rep) G2.rep (qT.base G2.same G2.pre q)) λw s3 ⟨y,x,P3,o,z,S3,I3,m,G,O,B,L,Y⟩=>?_)) hm
 cases j:xR z S3 with
 |none=>simp only[j] at Y;exact Ao Y
 |some k =>
  simp only[j] at Y;have tv:=u3 G O j;refine bo (pI i s3 σ x y w (λl H'=>l=k/\H'=x) I3 m ⟨k,tv,rfl,rfl⟩) λl s4 ⟨n,t,hk,hH⟩=>?_;subst hk;subst hH;cases l with
  |false=>exact ite_ff ⟨y,n,t,m,Y y n P3 o G B L O⟩
  |true =>
   refine ite_tt (chain_last (bo (zM hc t G (G2.env.mono B L) (qT.base B L Y)) λww s5 ⟨w',H5,P5,E,d5,S5,J,T⟩=>?_));exact A i σ H5 s5 P5 E S5 u w' uu ww d' d5 Q J.inv J.rel G2.val J.val (au.mono (B.trans J.same) (L.trans J.pre) _ _ G2.rep) J.rep (qT.base J.same J.pre T)
theorem YW {op L:Wu}{g g':G2}(ho:gh X (Dh op) g)(n:gh X (Dh L) g')(ha:PE X a (tD X fa))(hb:PE X b (tD X fb))(hc:PE X c (tD X fc))
  (hm:Zd [op,L] [b,c]=false:=by with_unfolding_all rfl):PT X (.Compare a [op,L] [b,c] ar) (me X (cj (w4 g g' fa fb fc))):=by
 intro aj s σ H Q I h;obtain⟨P,α,Y,S,r,re,af⟩:=h;have j:qG X P α ((w4 g g' fa fb fc Y S).bind λd S1=>jI (xR d S1) S1) (xi X P α Q):=af;have T:(w4 g g' fa fb fc Y S).bind (λd S1=>jI (xR d S1) S1)=(fa Y S).bind λx S1=>(fb Y S1).bind λy E=>(g x y E).bind λz J =>
   match xR z J with
   |some true=>((fc Y J).bind λw G=>g' y w G).bind λd S1=>jI (xR d S1) S1
   |some false=>.ok false J
   |none=>.bad:=by
  unfold w4;cases fa Y S with
  |bad=>rfl
  |ex _ _ _=>rfl
  |ok x S1 =>
   show ba.bind (ba.bind (fb Y S1) _) _=ba.bind (fb Y S1) _;cases fb Y S1 with
   |bad=>rfl
   |ex _ _ _=>rfl
   |ok y E =>
    show ba.bind (ba.bind (g x y E) _) _=ba.bind (g x y E) _;cases g x y E with
    |bad=>rfl
    |ex _ _ _=>rfl
    |ok z J =>
     show ba.bind (match xR z J with|some true=>(fc Y J).bind λw G=>g' y w G|some false=>.ok z J|none=>.bad) _=_
     cases A:xR z J with
     |none=>simp only[A,ba.bind]
     |some k=>cases k <;> simp only[A,ba.bind,jI]
 rw[T] at j;refine isTrue_chain (bo (zM ha I r re j) λvv s1 ⟨v,H1,P1,z2,d,S1,O,zy⟩=>test_link (bo (zM hb O.inv O.rel O.env (wF.base O.same O.pre zy)) λuu s2 ⟨u,H2,P2,q,d',E,G2,zs⟩ =>
  bo (rP ho G2.inv G2.rel O.val G2.val (au.mono G2.same G2.pre _ _ O.rep) G2.rep (wF.base G2.same G2.pre zs)) λw s3 ⟨y,H3,P3,zx,z,J,I3,r3,B,zl,l,f,U⟩=>?_)) hm
 cases A:xR z J with
 |none=>simp only[A] at U;exact Ao U
 |some k =>
  simp only[A] at U;have tv:=u3 B zl A;refine bo (pI aj s3 σ H3 y w (λk' H'=>k'=k/\H'=H3) I3 r3 ⟨k,tv,rfl,rfl⟩) λk' s4 ⟨H4,I4,hk,hH⟩=>?_;subst hk;subst hH;cases k' with
  |false=>exact ite_ff ⟨H4,I4,U H4 P3 zx B l f⟩
  |true =>
   have m:qG X P2 q ((fc Y J).bind λw G=>(g' d' w G).bind λd S1=>jI (xR d S1) S1) (xi X P2 q Q):=by
    have e:((fc Y J).bind λw G=>(g' d' w G).bind λd S1=>jI (xR d S1) S1)=(((fc Y J).bind λw G=>g' d' w G).bind λd S1=>jI (xR d S1) S1):=by
     cases fc Y J <;> rfl
    rw[e];exact U
   refine ite_tt (test_last (bo (zM hc I4 B (G2.env.mono l f) (wF.base l f m)) λww s5 ⟨w',H5,P5,z1,d5,S5,N,t⟩ =>
    bo (rP n N.inv N.rel G2.val N.val (au.mono (l.trans N.same) (f.trans N.pre) _ _ G2.rep) N.rep (wF.base N.same N.pre t)) λx6 s6 ⟨y6,H6,P6,zb,d6,S6,I6,r6,o,zc,e5,e6,i⟩=>?_))
   obtain⟨k6,q6,z6⟩:=nM i;exact KE I6 o r6 zc q6 (z6 H6 P6 zb o e5 e6)
def xD (t:DT):DT:=λY S=>(t Y S).bind λb S1=>.ok (!b) S1
def vB (t u:DT):DT:=λY S=>(t Y S).bind λb S1=>if b then u Y S1 else .ok false S1
def wG (t u:DT):DT:=λY S=>(t Y S).bind λb S1=>if b then .ok true S1 else u Y S1
theorem NF (j:PT X a (me X ta)):PT X (.UnaryOp .Not a ar) (me X (xD ta)):=by
 intro B s σ H Q I h;obtain⟨P,α,y,S,r,z,L⟩:=h;refine isTrue_not (bo (jU (λw q=>j B s σ H w I q) r z L) λb k ⟨U,G,Y,S1,N,A,T,O,E,J⟩=>⟨U,N,J U G Y A O E⟩)
def qg (X:Cx)(e:Bp)(t:DT):Prop:=PW X e (me X t)
theorem qg.pt {t:DT}(h:qg X e t):PT X e (me X t):=h _
theorem GW (Y:PT X a (me X ta)):qg X (.BoolOp .And [a] ar) ta:=F6 Y
theorem NI (Y:PT X a (me X ta)):qg X (.BoolOp .Or [a] ar) ta:=SA Y
theorem NH {qI:Aa Bp}(g:PT X a (me X ta))(z:qg X (.BoolOp .And (b::qI) ar) tb):qg X (.BoolOp .And (a::b::qI) ar) (vB ta tb):=by
 intro A E s σ H Q I h;obtain⟨P,α,y,S,r,o,w⟩:=h;refine isTrue_and (bo (jU (λj q=>g E s σ H j I q) r o w) λk l ⟨G,N,Y,S1,L,B,U,T,O,J⟩=>?_);cases k with
 |true=>exact z A E l σ G Q L ⟨N,Y,y,S1,B,U,wF.base T O J⟩
 |false=>exact⟨G,L,J G N Y B T O⟩
theorem EL {qI:Aa Bp}(g:PT X a (me X ta))(z:qg X (.BoolOp .Or (b::qI) ar) tb):qg X (.BoolOp .Or (a::b::qI) ar) (wG ta tb):=by
 intro A E s σ H Q I h;obtain⟨P,α,y,S,r,o,w⟩:=h;refine isTrue_or (bo (jU (λj q=>g E s σ H j I q) r o w) λk l ⟨G,N,Y,S1,L,B,U,T,O,J⟩=>?_);cases k with
 |true=>exact⟨G,L,J G N Y B T O⟩
 |false=>exact z A E l σ G Q L ⟨N,Y,y,S1,B,U,wF.base T O J⟩
def uB (f g:DE):DE:=λY S=>(f Y S).bind λx S1=>match xR x S1 with
 |some true=>g Y S1
 |some false=>.ok x S1
 |none=>.bad
def iR (f:DE):DE:=λY S=>(f Y S).bind λx S1=>match xR x S1 with
 |some b=>.ok (.bl (!b)) S1
 |none=>.bad
theorem TQ  (h:PE X a (tD X fa)):PE X (.BoolOp op [a] ar) (tD X fa):=DM h
theorem RG {aj:aa}{s:Ag}{σ:_L.St}{H:Hp}{v:V}{k:As}{R:As->Ag->Prop}(I:Inv X aj σ H s)(U:qK v vv)(t:iI X.K v H k)(h:∀ s',Inv X aj σ H s'->R k s') :
  Ap (Au X.prog X.w) X.A (truthy vv) R X.xe s:=bo (pI aj s σ H v vv (λY J=>Y=k/\J=H) I U ⟨k,t,rfl,rfl⟩) λY N ⟨L,O,B,G⟩=>by subst B;subst G;exact h N O
theorem TC {qI:Aa Bp}(z:PE X a (tD X fa))(E:PE X (.BoolOp .And (b::qI) ar) (tD X fb)):PE X (.BoolOp .And (a::b::qI) ar) (tD X (uB fa fb)):=by
 intro j s σ H Q I h;obtain⟨P,α,A,S,r,w,T⟩:=h;refine BoolOp_and (bo (zM z I r w T) λvv y ⟨v,N,O,U,d,S1,Y,J⟩=>?_);cases G:xR d S1 with
 |none=>simp only[G] at J;exact Ao J
 |some k =>
  simp only[G] at J;refine RG Y.inv Y.val (u3 Y.rel Y.rep G) λL B=>?_;cases k with
  |true=>exact E j L σ N Q B ⟨O,U,A,S1,Y.rel,Y.env,qT.base Y.same Y.pre J⟩
  |false=>exact⟨v,N,B,Y.val,J v N O U Y.rel Y.same Y.pre Y.rep⟩
theorem TN (E:PE X a (tD X fa)):PE X (.UnaryOp .Not a ar) (tD X (iR fa)):=by
 intro z s σ H Q I h;obtain⟨P,α,A,S,r,T,L⟩:=h;refine UnaryOp_ (bo (zM E I r T L) λvv w ⟨v,N,O,U,d,S1,J,Y⟩=>?_);cases G:xR d S1 with
 |none=>simp only[G] at Y;exact Ao Y
 |some k =>
  simp only[G] at Y;exact not_of (RG J.inv J.val (u3 J.rel J.rep G) λj B=>⟨.bl (!k),N,B,rfl,Y (.bl (!k)) N O U J.rel J.same J.pre (by simp only[au])⟩)
def p_ (t:DT)(f g:DE):DE:=λY S=>(t Y S).bind λb S1=>if b then f Y S1 else g Y S1
theorem EB (z:PT X c (me X ta))(g:PE X a (tD X fa))(o:PE X b (tD X fb)):PE X (.IfExp c a b ar) (tD X (p_ ta fa fb)):=by
 intro G s σ H Q I h;obtain⟨P,α,L,S,r,l,j⟩:=h;refine wpAny_IfExp (bo (jU (λy q=>z G s σ H y I q) r l j) λk T ⟨w,N,Y,S1,O,A,J,B,E,U⟩=>?_);cases k with
 |true=>exact g G T σ w Q O ⟨N,Y,L,S1,A,J,qT.base B E U⟩
 |false=>exact o G T σ w Q O ⟨N,Y,L,S1,A,J,qT.base B E U⟩
end
@[inline] noncomputable def ba.toS {β:Type}(ak:qE)(r:ba β)(k:β->aq->jh):jh:=
 match r with
 |.ok d S=>k d S
 |.ex c x S=>.ex c x ak S
 |.bad=>.bad
section
variable {X:Cx}{a b c e:Bp}{ar:En}{fa fb fc:DE}{ta tb:DT}{f g:DS}{st:Ey}{qI:Aa Ey}
def zI:DS:=λY S=>.nx Y S
def qO (f g:DS):DS:=λJ S=>match f J S with
 |.nx Y S1=>g Y S1
 |o=>o
theorem N7:il X [] (im X zI):=S8 F4 λD σ H ⟨P,α,U,S,r,Y,J⟩=>J σ H P α r Y (qF.refl _) (Bu _)
theorem GR (h1:PS X st (im X f))(h2:il X qI (im X g)):il X (st::qI) (im X (qO f g)):=S8 (U5 h1 h2) λD σ H ⟨P,α,N,S,r,I,J⟩=>by
 refine⟨P,α,N,S,r,I,?_⟩;unfold qO at J;cases q:f N S with
 |nx Y S1 =>
  rw[q] at J;exact λL A E G B U O T=>⟨E,G,Y,S1,B,U,zD.base O T J⟩
 |rt d S1=>rw[q] at J;exact J
 |bk Y S1=>rw[q] at J;exact J
 |ct Y S1=>rw[q] at J;exact J
 |ex c x Y S1=>rw[q] at J;exact J
 |bad=>rw[q] at J;exact J
theorem N8 (h1:PS X st (im X f)):il X [st] (im X f):=F5 h1
theorem wM {β:Type}{P:Hp}{α:ag}{ak:qE}{r:ba β}{k:β->aq->jh}{D:Ends}(h:zD X P α (r.toS ak k) D):qG X P α r λd S=>zD X P α (k d S) D:=by
 cases r with
 |ok d S=>exact h
 |ex c x S=>exact h
 |bad=>exact h
inductive wf (X:Cx)(pins:aa)(σ : _L.St)(env:qE)(P:Hp)(α : Aa Af)(u:Ac)(s1:Ag)(k:D->aq->jh)(E:Ends):Prop
 |mk (v:V) (H1 P1:Hp) (α1:ag) (d:D) (S1:aq) (G:Got X pins σ env P α u s1 v H1 P1 α1 d S1) (q:zD X P1 α1 (k d S1) E):wf X pins σ env P α u s1 k E
theorem fR {k:D->aq->jh}{aj:aa}{s:Ag}{σ:_L.St}{H P:Hp}{α:ag}{ak:qE}{D:Ends}(O:PE X e (tD X fa))(I:Inv X aj σ H s)(r:bh X.K H P α S)
  (T:z9 X.K P α σ ak) (B:zD X P α ((fa ak S).toS ak k) D) :
  Ap (Au X.prog X.w) X.A (eval e X.env) (λu U=>wf X aj σ ak P α u U k D) X.xe s:=by
 have J:qG X P α ((fa ak S).bind λd S=>.ok d S) λd S=>zD X P α (k d S) D:=by
  have:=wM B;cases q:fa ak S <;> rw[q] at this <;> exact this
 exact bo (zM O I r T J) λu U ⟨v,L,N,Y,d,S1,G,q⟩=>⟨v,L,N,Y,d,S1,G,zD.base G.same G.pre q⟩
def vY (f:DE):DS:=λY S=>(f Y S).toS Y λ_ S1=>.nx Y S1
theorem GS (N:PE X e (tD X fa))(hs:Nv e none ar.line X.env=pure false:=by rfl):PS X (.Expr e ar) (im X (vY fa)):=by
 intro E s σ H D I h;obtain⟨P,α,L,S,r,B,O⟩:=h;exact wpAny_Expr_any (bo (fR N I r B O) λv T ⟨x,J,U,Y,d,S1,G,q⟩=>⟨σ,J,G.inv,q σ J U Y G.rel G.env (qF.refl _) (Bu _)⟩) I.quiet hs
def qW (f:DE):DS:=λY S=>(f Y S).toS Y λd S1=>.rt d S1
theorem NA (N:PE X e (tD X fa)):PS X (.Return (Ab e) ar) (im X (qW fa)):=by
 intro E s σ H D I h;obtain⟨P,α,L,S,r,B,O⟩:=h;exact wpAny_Return_some (bo (fR N I r B O) λv T ⟨x,J,U,Y,d,S1,G,q⟩=>⟨x,σ,J,G.inv,G.val,q x J U Y G.rel (qF.refl _) (Bu _) G.rep⟩)
def gk (t:DT)(f g:DS):DS:=λY S=>(t Y S).toS Y λb S1=>if b then f Y S1 else g Y S1
theorem EI {as bs:Aa Ey}(v:PT X c (me X ta))(t:il X as (im X f))(y:il X bs (im X g)):PS X (.If c as bs ar) (im X (gk ta f g)):=by
 intro O s σ H D I h;obtain⟨P,α,Y,S,r,l,j⟩:=h;have N:qG X P α ((ta Y S).bind λd S=>.ok d S) λb S=>zD X P α (if b then f Y S else g Y S) D:=by
  have:=wM j;cases q:ta Y S <;> rw[q] at this <;> exact this
 refine wpAny_If (bo (jU (λo q=>v O s σ H o I q) r l N) λk z ⟨w,B,G,S1,E,T,J,A,L,U⟩=>?_);cases k with
 |true=>exact t O z σ w D E ⟨B,G,Y,S1,T,J,zD.base A L U⟩
 |false=>exact y O z σ w D E ⟨B,G,Y,S1,T,J,zD.base A L U⟩
abbrev DG:=D->qE->aq->ba qE
abbrev pj:=Aa D->qE->aq->ba qE
def vw (X:Cx)(P:Hp)(α : Aa Af)(Q:_L.St->Hp->Prop)(bj:qE)(S':aq):Prop:=∀ J G U Y,bh X.K G U Y S'->z9 X.K U Y J bj->qF P U->α<+:Y->Q J G
def nq (X:Cx)(g:DG):TG:=λv σ H Q=>∃ P α Y S d,bh X.K H P α S/\z9 X.K P α σ Y/\au X.K P α d v/\qG X P α (g d Y S) (vw X P α Q)
def eI (X:Cx)(g:pj):so:=λU σ H Q=>∃ P α Y S J,bh X.K H P α S/\z9 X.K P α σ Y/\qD X.K P α J U/\qG X P α (g J Y S) (vw X P α Q)
theorem z9.set {K:Ai}{P:Hp}{α:ag}{σ:_L.St}{ak:qE}{d:D}{v:V}(Y:z9 K P α σ ak)(i:Ah)(N:au K P α d v):z9 K P α (σ.set i (Ab v)) (ak.set i (Ab d)):=by
 refine⟨by simp[Y.1],λj G e=>?_⟩
 by_cases J:i=j
 .subst J
  by_cases U:i<ak.length
  .rw[Fn U] at e
   cases e;exact⟨v,by rw[Fn (by rw[<- Y.1];exact U)],N⟩
  .rw[Oo (by simp;fin2)] at e;cases e
 .rw[Er J] at e ⊢
  exact Y.2 j G e
noncomputable def br (i:Ah):DG:=λd Y S=>.ok (Y.set i (Ab d)) S
theorem GM {i:Ah}{x:An}(N:X.N.Nodup)(hi:X.N[i]? = Ab x:=by rfl)(B:Loc X.env.scope x:=by first|exact AaL rfl|exact f8 rfl)(J:X.fn x=true\/X.env.scope.names.lookup x=Ab .local:=by first|exact .inl rfl|exact .inr rfl|assumption):PG X (.Name x ar) (nq X (br i)):=by
 intro L s σ H v u Q I Y h;obtain⟨P,α,T,S,d,r,O,U,G⟩:=h;exact BY N hi B J L s σ H v u Q I Y (G _ H P α r (O.set i U) (qF.refl _) (Bu _))
def y7:pj:=λY J S=>match Y with
 |[]=>.ok J S
 |_=>.bad
def zW (g:DG)(U:pj):pj:=λG J S=>match G with
 |d::r=>(g d J S).bind λY S1=>U r Y S1
 |[]=>.bad
theorem GN:rf X [] (eI X y7):=by
 intro N s σ H G us Q I U h;obtain⟨P,α,L,S,Y,r,B,O,J⟩:=h;cases Y with
 |nil=>exact BZ N s σ H G us Q I U ⟨O.nil_inv,J σ H P α r B (qF.refl _) (Bu _)⟩
 |cons d Y=>exact Ao J
theorem YO {es:Aa Bp}{g:DG}{z:pj}(h1:PG X e (nq X g))(h2:rf X es (eI X z))(hs:(Gv (e::es) X.env).map (·.2)=assign e X.env::(Gv es X.env).map (·.2):=by rfl):rf X (e::es) (eI X (zW g z)):=by
 intro aj s σ H vs us Q I o h;obtain⟨P,α,T,S,U,r,re,v,j⟩:=h;cases U with
 |nil=>exact Ao j
 |cons d U =>
  obtain⟨w,ws,rfl,m,p2⟩:=v.cons_inv;refine U3 h1 h2 hs aj s σ H _ us Q I o ⟨w,ws,rfl,P,α,T,S,d,r,re,m,?_⟩;have Y:qG X P α ((g d T S).bind λJ S1=>z U J S1) (vw X P α Q):=j;cases q:g d T S with
  |bad=>rw[q] at Y;exact Y
  |ex c x t=>rw[q] at Y;exact Y
  |ok J S1 =>
   rw[q] at Y;intro zb H' i A l E G N;refine⟨i,A,J,S1,U,l,E,qD.mono G N _ _ p2,qG.base' G N (λbj t ok L H2 y B k O n e4=>ok L H2 y B k O (G.trans n) (N.trans e4)) Y⟩
noncomputable def m_ (n:Ah)(U:pj):DG:=λd J S=>match d with
 |.tup Y=>if Y.length=n then U Y J S else .bad
 |_=>.bad
set_option tactic.hygienic true in
theorem N1 {es:Aa Bp}{k:Ah}{G:pj}{n:Ah}(E:X.calm=true)(h:rf X es (eI X G))(T:(Gv es X.env).length=n:=by rfl)(J:(Gv es X.env).findIdx? (·.1)=none:=by rfl):PG X (.Tuple es k ar) (nq X (m_ n G)):=by
 intro z s σ H v u Q I N j;obtain⟨P,α,O,S,d,r,B,U,Y⟩:=j;cases d with
 |tup A =>
  simp only[au] at U;obtain⟨a,L,rfl,q,t⟩:=U;simp only[m_] at Y
  split at Y
  .rename_i w
   exact DU E h T J z s σ H _ u Q I N ⟨a,L,rfl,xS r.sub q,by rw[<- t.length];exact w,P,α,O,S,A,r,B,t,Y⟩
  .exact Ao Y
 |_=>exact Ao Y
abbrev G3:=D->D->D->aq->ba Pa
def Y_ (X:Cx)(P:Hp)(α : Aa Af)(Q:Hp->Prop)(_:Pa)(S':aq):Prop:=∀ J U Y,bh X.K J U Y S'->qF P U->α<+:Y->Q J
def dR (X:Cx)(g:G3):MJ:=λo i v H Q=>∃ P α S a b d,bh X.K H P α S/\au X.K P α a o/\au X.K P α b i/\au X.K P α d v/\qG X P α (g a b d S) (Y_ X P α Q)
def vj (G fi:DE)(g:G3):DG:=λd Y S=>(G Y S).bind λo S1=>(fi Y S1).bind λi J=>(g o i d J).bind λ_ U=>.ok Y U
theorem N0 {o i:Bp}{m fi:DE}{g:G3}(ho:PE X o (tD X m))(hi:PE X i (tD X fi))(hs:dU X (dR X g))
  (ha:∀ v,assign (.Subscript o i ar) X.env v=(do
   let G <- holding [v] (eval o X.env)
   let N <- holding [v,G] (eval i X.env)
   Sc ar
   holding [v,G,N] (setItem G N v)
   release [v,G,N] []):=by intro _;rfl):PG X (.Subscript o i ar) (nq X (vj m fi g)):=by
 intro aj s σ H v u Q I rv h;obtain⟨P,α,ak,S,d,r,re,rp,af⟩:=h;rw[ha];refine Ad (Ef (bo (zM ho I r re af) λG s1 ⟨x,H1,t,O,d1,S1,J,k⟩=>?_));refine Ad (Ef (bo (zM hi J.inv J.rel J.env (P:=t) (α:=O) (Ok:=vw X t O Q) (qG.base' J.same J.pre (λbj S' ok j L B U r2 A e3 e4=>ok j L B U r2 A (J.same.trans e3) (J.pre.trans e4)) k)) λN s2 ⟨y,L,B,U,d2,l,G2,Y⟩=>?_));refine Ad (Oh (Ad (Ef (bo (hs aj s2 σ L x y v G N u (λE=>Q σ E) G2.inv J.val G2.val rv ⟨B,U,l,d1,d2,d,G2.rel,au.mono G2.same G2.pre _ _ J.rep,G2.rep,au.mono (J.same.trans G2.same) (J.pre.trans G2.pre) _ _ rp,?_⟩) λ_ s3 ⟨E,I3,q3⟩=>?_))))
 .cases q:g d1 d2 d l with
  |bad=>rw[q] at Y;exact Y
  |ex c x S'=>rw[q] at Y;exact λu s' z=>Y u s' (z.base G2.same G2.pre)
  |ok w S3 =>
   rw[q] at Y;exact λH' P' T r' n e2=>Y σ H' P' T r' (G2.env.mono n e2) (G2.same.trans n) (G2.pre.trans e2)
 .exact wpAny_release ⟨σ,E,I3,q3⟩
def zA (f:DE)(g:DG):DS:=λY S=>(f Y S).toS Y λd S1=>(g d Y S1).toS Y λU J=>.nx U J
theorem QL {g:DG}{d:D}{ak:qE}{P:Hp}{α:ag}{J:Ends}(h:zD X P α ((g d ak S).toS ak λbj U=>.nx bj U) J):qG X P α (g d ak S) (vw X P α J.nx):=by
 cases q:g d ak S with
 |bad=>rw[q] at h;exact h
 |ex c x G=>rw[q] at h;exact h
 |ok Y S1=>rw[q] at h;exact h
theorem N5 {tg:Bp}{g:DG}(U:PE X e (tD X fa))(E:PG X tg (nq X g))(hs:Mb [tg] e ar.line X.env=pure false:=by rfl)(hw:Ma [tg] e X.env=pure none:=by rfl)
  (h1:(Gv [tg] X.env).map (·.2)=[assign tg X.env]:=by rfl):PS X (.Assign [tg] e ar) (im X (zA fa g)):=by
 intro A s σ H D I h;obtain⟨P,α,O,S,r,L,N⟩:=h;refine wpAny_Assign_stores (bo (fR U I r L N) λv T ⟨x,B,J,Y,d,S1,G,q⟩=>?_) hs hw;rw[h1];exact bo (E A T σ B x v _ G.inv G.val ⟨J,Y,O,S1,d,G.rel,G.env,G.rep,QL q⟩) λ_ w q=>q
theorem NB {i:Ah}{x:An}{Y:En}(B:X.N.Nodup)(E:PE X e (tD X fa))(hi:X.N[i]? = Ab x:=by rfl)(A:Loc X.env.scope x:=by first|exact AaL rfl|exact f8 rfl)(hs:Nv e (Ab (.Name x Y)) ar.line X.env=pure false:=by rfl)
  (N:X.fn x=true\/X.env.scope.names.lookup x=Ab .local:=by first|exact .inl rfl|exact .inr rfl|assumption):PS X (.Assign [.Name x Y] e ar) (im X (zA fa (br i))):=by
 intro k s σ H D I h;obtain⟨P,α,j,S,r,L,O⟩:=h;refine wpAny_Assign_Name (bo (fR E I r L O) λv z ⟨y,U,T,J,d,S1,G,q⟩=>?_) hs;exact uO G.inv B hi A G.val (λo w=>⟨_,U,w,q _ U T J G.rel (G.env.set i G.rep) (qF.refl _) (Bu _)⟩) N
noncomputable def XQ (i j:Ah)(ak:qE)(S1:aq):Aa D->jh
 |[x,y]=>.nx ((ak.set i (Ab x)).set j (Ab y)) S1
 |_=>.bad
def pH (i j:Ah)(f:DA):DS:=λY S=>(f Y S).toS Y λJ S1=>XQ i j Y S1 J
theorem N9 {i j:Ah}{x y:An}{f:DA}{N B G:En} {kt k2 pt2} (v:X.calm=true) (hN:X.N.Nodup) (ha:PA X [a,b] (jy X f)) (hi:X.N[i]? = Ab x:=by rfl) (z:X.N[j]? = Ab y:=by rfl) (T:i≠j:=by decide)
  (o:X.env.scope.names.lookup x=Ab .local:=by rfl) (hy:X.env.scope.names.lookup y=Ab .local:=by rfl)
  (hw:Ma [.Tuple [.Name x N,.Name y B] kt G] (.Tuple [a,b] k2 pt2) X.env=pure (Ab [x,y]):=by rfl)
  (hs:Mb [.Tuple [.Name x N,.Name y B] kt G] (.Tuple [a,b] k2 pt2) ar.line X.env=pure false:=by rfl) :
  PS X (.Assign [.Tuple [.Name x N,.Name y B] kt G] (.Tuple [a,b] k2 pt2) ar) (im X (pH i j f)):=yv (DZ v hN hi z T o hy ha hw hs) λD σ H ⟨P,α,O,S,r,A,s⟩=>by
 refine⟨P,α,O,S,r,A,?_⟩;have Y:=wM s;cases q:f O S with
 |bad=>rw[q] at Y;exact Y
 |ex c x S'=>rw[q] at Y;exact Y
 |ok U S1 =>
  rw[q] at Y;intro vs H' P' L l E I n;have J:zD X P α (XQ i j O S1 U) D:=Y;cases U with
  |nil=>exact Ao J
  |cons d U=>cases U with
   |nil=>exact Ao J
   |cons d' U=>cases U with
    |cons _ _=>exact Ao J
    |nil =>
     obtain⟨w,ws,rfl,h,t⟩:=n.cons_inv;obtain⟨w',m,rfl,k,t⟩:=t.cons_inv;rw[t.nil_inv];exact⟨w,w',rfl,J _ _ P' L l (((A.mono E I).set i h).set j k) E I⟩
end
structure su (K:Ai)(J:It)(P:Hp)(α : Aa Af)(ds:Aa D):Prop where
 go:∀ i H P1 α1 S,i<ds.length->bh K H P1 α1 S->qF P P1->α<+:α1->J.go i H
 yld:∀ i H x H' P1 α1 S,i<ds.length->bh K H P1 α1 S->qF P P1->α<+:α1->J.yld i H x H'->∃ P2 d,ds[i]? = Ab d/\bh K H' P2 α1 S/\qF P1 P2/\au K P2 α1 d x
 stop:∀ i H P1 α1 S,ds.length<=i->bh K H P1 α1 S->qF P P1->α<+:α1->J.stop i H
abbrev DI:=qE->aq->ba (Aa D)
def uw (X:Cx)(P:Hp)(α : Aa Af)(R:It->Hp->Prop)(N:Aa D)(S':aq):Prop:=∀ J G U Y,bh X.K G U Y S'->qF P U->α<+:Y->su X.K J U Y N->R J G
inductive sd (X:Cx)(f:DI)(σ : _L.St)(H:Hp)(R:It->Hp->Prop):Prop
 |mk (P:Hp) (α : Aa Af) (env:qE) (S:aq) (r:bh X.K H P α S) (re:z9 X.K P α σ env) (af:qG X P α (f env S) (uw X P α R)):sd X f σ H R
noncomputable def yA {β:Type}(o:Ak β)(S:aq):ba β:=match o with
 |some b=>.ok b S
 |none=>.bad
theorem v7 {X:Cx}{β:Type}{o:Ak β}{P:Hp}{α:ag}{Ok:β->aq->Prop}(h:qG X P α (yA o S) Ok):∃ b,o=Ab b/\Ok b S:=by
 cases o with
 |none=>exact Ao h
 |some b=>exact⟨b,rfl,h⟩
theorem x5 {X:Cx}{β:Type}{c:Prop}[Gg c]{r:ba β}{P:Hp}{α : Aa Af}{Ok:β->aq->Prop}(h:qG X P α (if c then r else .bad) Ok):c/\qG X P α r Ok:=by
 by_cases z:c
 .rw[Ax z] at h;exact⟨z,h⟩
 .rw[Bb z] at h;exact Ao h
theorem rO {X:Cx}{β:Type}{Y:Aa D}{g:D->ba β}{P:Hp}{α:ag}{Ok:β->aq->Prop}(h:qG X P α (match Y with|[d]=>g d|_=>.bad) Ok):∃ d,Y=[d]/\qG X P α (g d) Ok:=by
 cases Y with
 |nil=>exact Ao h
 |cons d Y =>
  cases Y with
  |nil=>exact⟨d,rfl,h⟩
  |cons _ _=>exact Ao h
theorem nD {β:Type}{i:Ah}{f:Aa D->Ak β}{g:Aa (ci × D)->Ak β}{b:β}(h:(match S[i]? with|some (.lst xs)=>f xs|some (.dct Y)=>g Y|_=>none)=Ab b):(∃ xs,S[i]? = Ab (.lst xs)/\f xs=Ab b)\/∃ Y,S[i]? = Ab (.dct Y)/\g Y=Ab b:=by
 cases e:S[i]? with
 |none=>rw[e] at h;exact nn h
 |some m =>
  rw[e] at h;cases m with
  |lst xs=>exact .inl ⟨xs,rfl,h⟩
  |dct Y=>exact .inr ⟨Y,rfl,h⟩
  |_=>exact nn h
theorem LK {β:Type}{i:Ah}{f:Aa D->Ak β}{b:β}(h:(match S[i]? with|some (.lst xs)=>f xs|_=>none)=Ab b):∃ xs,S[i]? = Ab (.lst xs)/\f xs=Ab b:=by
 cases e:S[i]? with
 |none=>rw[e] at h;exact nn h
 |some m =>
  rw[e] at h;cases m with
  |lst xs=>exact⟨xs,rfl,h⟩
  |_=>exact nn h
inductive zn (d:D)(xs:Aa D):Prop
 |tup (e:d=.tup xs)
 |lst (e:d=.lst xs)
noncomputable def K6 {β:Type}(S:aq)(n:Ah)(f:Aa D->ba β) : ba β:=match S[n]? with
 |some (.lst Y)=>f Y
 |_=>.bad
theorem gG {X:Cx}{β:Type}{n:Ah}{f:Aa D->ba β}{P:Hp}{α:ag}{Ok:β->aq->Prop}(h:qG X P α (K6 S n f) Ok):∃ xs,S[n]? = Ab (.lst xs)/\qG X P α (f xs) Ok:=by
 unfold K6 at h;cases e:S[n]? with
 |none=>rw[e] at h;exact Ao h
 |some m =>
  rw[e] at h;cases m with
  |lst xs=>exact⟨xs,rfl,h⟩
  |_=>exact Ao h
def x8:D->Ak (Aa D)
 |.tup Y=>Ab Y
 |.lst Y=>Ab Y
 |_=>none
theorem xy {d:D}{xs:Aa D}(h:x8 d=Ab xs):zn d xs:=by
 cases d with
 |tup Y=>exact .tup (congrArg D.tup (Dc h))
 |lst Y=>exact .lst (congrArg D.lst (Dc h))
 |_=>exact nn h
def vJ (f:DE):DI:=λY S=>(f Y S).bind λd S1=>yA (x8 d) S1
section
variable {X:Cx}{K:Ai}{tg e:Bp}{fa:DE}{ar:En}
theorem VE {P:Hp}{α:ag}{a:Af}{G:Aa D}{vs:Aa V}(q:jg K P a vs)(t:qD K P α G vs):su K (yf K a) P α G where
 go:=λi H U J S Y r e _=>⟨vs,vs[i]'(by rw[<- t.length];exact Y),(e.trans r.sub).seq q,by simp⟩
 yld:=λi H x T U J S Y r e B y=>by
  obtain⟨rfl,y⟩:=y;have L:=y vs ((e.trans r.sub).seq q);obtain⟨v,N,O⟩:=t.get (Ar Y);rw[L] at N;cases N;exact⟨U,_,Ar Y,r,qF.refl _,au.mono e B _ _ O⟩
 stop:=λi H U J S Y r e _=>⟨vs,(e.trans r.sub).seq q,by rw[<- t.length];exact Y⟩
theorem PR {P:Hp}{α:ag}{a:Af}{G:Aa D}{vs:Aa V}(q:iy K P a vs)(t:qD K P α G vs):su K (zk K a) P α G where
 go:=λi H U J S Y r e _=>⟨vs,vs[i]'(by rw[<- t.length];exact Y),yB (e.trans r.sub) q,by simp⟩
 yld:=λi H x T U J S Y r e B y=>by
  obtain⟨rfl,y⟩:=y;have L:=y vs (yB (e.trans r.sub) q);obtain⟨v,N,O⟩:=t.get (Ar Y);rw[L] at N;cases N;exact⟨U,_,Ar Y,r,qF.refl _,au.mono e B _ _ O⟩
 stop:=λi H U J S Y r e _=>⟨vs,yB (e.trans r.sub) q,by rw[<- t.length];exact Y⟩
theorem r9 {aj:aa}{σ:_L.St}{H P:Hp}{α:ag}{s:Ag}{v:V}{d:D}{N:Aa D}(I:Inv X aj σ H s)(r:bh X.K H P α S)(Y:qK v vv)(J:au X.K P α d v)(U:x8 d=Ab N)
  (q:uw X P α R N S):Ap (Au X.prog X.w) X.A (Ri vv) (uv X aj σ tg R) X.xe s:=by
 cases d with
 |tup T =>
  cases U;simp only[au] at J;obtain⟨a,L,rfl,sq,t⟩:=J;cases Y;obtain⟨O,Y,p,B⟩:=I.tuple (xS r.sub sq);refine Jb (show s.heap.IsTuple a O.toArray from p) ?_
  refine⟨s.heap.objs.size,[s.heap.objs.size],_,_,H,rfl,I.kept (t':=s.toks) λb o e=>Aj _ e,Q2 a _,⟨_,Bj _ rfl,rfl,rfl⟩,λb G=>?_,q _ _ P α r (qF.refl _) (Bu _) (PR sq t)⟩;have e:b=s.heap.objs.size:=by simpa using G
  subst e;exact I.fpOk (Av _) (I.hok.fresh (Av _))
 |lst T =>
  cases U;simp only[au] at J;obtain⟨a,L,rfl,sq,t⟩:=J;cases Y;obtain⟨O,Y,p,B⟩:=I.list ((xP r.sub sq).l);refine Ia p.isList ?_;refine⟨s.heap.objs.size,[s.heap.objs.size],_,_,H,rfl,I.kept (t':=s.toks) λb o e=>Aj _ e,lW a _,⟨_,Bj _ rfl,rfl,rfl⟩,λb G=>?_,q _ _ P α r (qF.refl _) (Bu _) (VE sq.l t)⟩;have e:b=s.heap.objs.size:=by simpa using G
  subst e;exact I.fpOk (Av _) (I.hok.fresh (Av _))
 |_=>cases U
theorem uw.base {P P1:Hp}{α Y:ag}{G:Aa D}(e:qF P P1)(h:α<+:Y)(k:uw X P α R G S):uw X P1 Y R G S:=λJ N B U r T O L=>k J N B U r (e.trans T) (h.trans O) L
theorem N2 (B:PE X e (tD X fa)):PI X tg e (sd X (vJ fa)):=by
 intro A s σ H R I h;obtain⟨P,α,T,S,r,O,N⟩:=h;refine bo (zM B I r O N) λvv E ⟨v,z,L,G,d,S1,Y,J⟩=>?_;obtain⟨w,U,q⟩:=v7 J;exact r9 Y.inv Y.rel Y.val Y.rep U (q.base Y.same Y.pre)
noncomputable def wK (lo:Am)(n:Ah):Aa D:=(Cg n).map λ(i:Ah)=>D.int (lo+(i:Am))
theorem gJ (lo:Am)(n:Ah):(wK lo n).length=n:=by simp[wK]
theorem lH {P:Hp}{α:ag}{lo:Am}{n:Ah}:su K (wc lo n) P α (wK lo n) where
 go:=λi H U J S Y r e _=>by rw[gJ] at Y;exact Y
 yld:=λi H x N U J S Y r e G y=>by
  obtain⟨rfl,rfl⟩:=y;rw[gJ] at Y;exact⟨U,.int (lo+i),by simp[wK,Y],r,qF.refl _,by simp only[au]⟩
 stop:=λi H U J S Y r e _=>by rw[gJ] at Y;exact Y
def pG (Y:Aa D):Ak (Aa D):=match Y with
 |[.int j]=>if -(2 ^ 62)<=j/\j<2 ^ 62 then Ab (wK 0 j.toNat) else none
 |[.int i,.int j]=>if -(2 ^ 62)<=i/\i<2 ^ 62 /\ -(2 ^ 62)<=j/\j<2 ^ 62 then Ab (wK i (j-i).toNat) else none
 |_=>none
def y9 (f:DA):DI:=λY S=>(f Y S).bind λJ S1=>yA (pG J) S1
def xb:D->Ak Am
 |.int i=>Ab i
 |_=>none
theorem bL {d:D}{i:Am}(h:xb d=Ab i):d=.int i:=by
 cases d with
 |int k=>exact congrArg D.int (Dc h)
 |_=>exact nn h
inductive ud:Aa D->Aa D->Prop
 |one (j:Am) (h : -(2 ^ 62)<=j/\j<2 ^ 62):ud [.int j] (wK 0 j.toNat)
 |two (i j:Am) (h : -(2 ^ 62)<=i/\i<2 ^ 62 /\ -(2 ^ 62)<=j/\j<2 ^ 62):ud [.int i,.int j] (wK i (j-i).toNat)
theorem CL (d:D):pG [d]=(xb d).bind λj=>if -(2 ^ 62)<=j/\j<2 ^ 62 then Ab (wK 0 j.toNat) else none:=by cases d <;> rfl
theorem CM (d d':D):pG [d,d']=(xb d).bind λi=>(xb d').bind λj=>if -(2 ^ 62)<=i/\i<2 ^ 62 /\ -(2 ^ 62)<=j/\j<2 ^ 62 then Ab (wK i (j-i).toNat) else none:=by
 cases d with
 |int i=>cases d' <;> rfl
 |_=>rfl
theorem FQ {Y ao:Aa D}(h:pG Y=Ab ao):ud Y ao:=by
 cases Y with
 |nil=>exact nn h
 |cons d Y =>
  cases Y with
  |nil =>
   obtain⟨j,e,h⟩:=Em.mp ((CL d).symm.trans h);obtain⟨c,rfl⟩:=gB h;rw[bL e];exact .one j c
  |cons U Y =>
   cases Y with
   |nil =>
    obtain⟨i,e,h⟩:=Em.mp ((CM d U).symm.trans h);obtain⟨j,G,h⟩:=Em.mp h;obtain⟨c,rfl⟩:=gB h;rw[bL e,bL G];exact .two i j c
   |cons _ _ =>
    have N:∀ J t,pG (d::U::J::t)=none:=λJ t=>by cases d <;> first|rfl|(cases U <;> rfl)
    exact nn ((N _ _).symm.trans h)
theorem nK {P:Hp}{α:ag}{i:Am}{vs:Aa V}{J:Aa D}(r:qD K P α (.int i::J) vs):∃ Y,vs=.int i::Y/\qD K P α J Y:=by
 obtain⟨w,Y,rfl,p,t⟩:=r.cons_inv;exact⟨Y,congrArg (· :: Y) (by simpa only [au] using p),t⟩
theorem PI.weak {Y:Bp}{t t':TI}(h:PI X tg Y t)(w:∀ σ H R,t' σ H R->t σ H R):PI X tg Y t':=λJ s σ H R I q=>h J s σ H R I (w σ H R q)
end
section
variable {X:Cx}{tg a b:Bp}{f:DA}{p ar:En}
theorem YQ {e:Bp}{es:Aa Bp}(k:Gl X "range")(hm:X.mg "range" = none)(m:PA X (e::es) (jy X f))(hs:Bl (e::es) X.env=(false,eval e X.env)::Bl es X.env:=by rfl)(U:(Gp ar (Bl es X.env)).any (·.1)=false:=by rfl) :
  PI X tg (.Call (.Name "range" p) (e::es) [] ar) (sd X (y9 f)):=by
 intro aj s σ H R I h;obtain⟨P,α,ak,S,r,l,o⟩:=h;refine Call_ (uF I k hm boot_range (Iw (bo (wZ m I r l o ar) λus x ⟨vs,w,E,Y,ds,S1,O,N,A,v,L,B,T,G⟩=>?_) hs U));obtain⟨ao,y,q⟩:=v7 G;cases FQ y with
 |one j c =>
  obtain⟨d,rfl,J⟩:=nK L;cases J.nil_inv;obtain⟨u,rfl,t,rfl⟩:=vZ N;refine call_range_1 (rY O om om c.1 c.2 ?_);have z:=q (wc 0 j.toNat) w E Y A B T lH;rw[Int.sub_zero];exact z
 |two i j c =>
  obtain⟨d,rfl,J⟩:=nK L;obtain⟨g,rfl,n⟩:=nK J;cases n.nil_inv;obtain⟨u,u',rfl,⟨t,rfl⟩,t',rfl⟩:=Q4 N;exact call_range_2 (rY O c.1 c.2.1 c.2.2.1 c.2.2.2 (q (wc i (j-i).toNat) w E Y A B T lH))
noncomputable def vU (g:DG)(f:DS):Aa D->qE->aq->jh
 |[],G,S=>.nx G S
 |d::N,G,S=>(g d G S).toS G λU S1=>match f U S1 with
  |.nx Y J=>vU g f N Y J
  |.ct Y J=>vU g f N Y J
  |.bk Y J=>.nx Y J
  |o=>o
def gL (fi:DI)(g:DG)(f:DS):DS:=λY S=>(fi Y S).toS Y λJ S1=>vU g f J Y S1
inductive ph (X:Cx)(P1:Hp)(α1:ag)(g:DG)(f:DS)(ds:Aa D)(D:Ends)(i m:Ah)(σ : _L.St)(H:Hp):Prop
 |mk (hi:i<=ds.length) (hm:m=ds.length-i) (P2:Hp) (α2:ag) (env2:qE) (S2:aq) (r:bh X.K H P2 α2 S2) (re:z9 X.K P2 α2 σ env2) (e1:qF P1 P2) (e2:α1<+:α2) (af:zD X P2 α2 (vU g f (ds.drop i) env2 S2) D):ph X P1 α1 g f ds D i m σ H
theorem N6 {bg:Bp}{fi:DI}{g:DG}{f:DS}(hp:Vh (Au X.prog X.w) X.A X.env X.xe)(hc:X.calm=true)(hi:PI X tg bg (sd X fi))(hg:PG X tg (nq X g))(hb:il X cx (im X f))
  (hs:∀ x,Fw bg X.env x=pure x:=by intro _;rfl):PS X (.For tg bg cx [] ar) (im X (gL fi g f)):=yv (DY hp hc hi hg hb hs) λD σ H ⟨P,α,ak,S,r,re,af⟩=>by
 refine⟨P,α,ak,S,r,re,?_⟩;have O:=wM af;cases q:fi ak S with
 |bad=>rw[q] at O;exact O
 |ex c x S'=>rw[q] at O;exact O
 |ok L S1 =>
  rw[q] at O;have zx:zD X P α (vU g f L ak S1) D:=O;intro J H1 P1 j r1 e1 e2 it;refine⟨ph X P1 j g f L D,
   ⟨L.length,Hc _,rfl,P1,j,ak,S1,r1,re.mono e1 e2,qF.refl _,Bu _,zD.base e1 e2 zx⟩,?_⟩
  rintro i m zs H2 ⟨hi,rfl,P2,B,I,e,r2,n,t,h,T⟩;by_cases N:i<L.length
  .refine .inr ⟨it.go i H2 P2 B e N r2 t h,ph X P1 j g f L D (i+1) (L.length-(i+1)),λz1 H' w=>⟨_,?_,w⟩,λx H3 y=>?_⟩
   .omega
   .obtain⟨P3,d,hd,r3,e5,rp⟩:=it.yld i H2 x H3 P2 B e N r2 t h y
    have k:L.drop i=d::L.drop (i+1):=by
     rw[Fp N];rw[Ar N] at hd;rw[Dc hd]
    rw[k] at T;have G:=wM (zD.base e5 (Bu _) T);refine⟨P3,B,I,e,d,r3,n.mono e5 (Bu _),rp,?_⟩;cases q2:g d I e with
    |bad=>rw[q2] at G;exact G
    |ex c x S'=>rw[q2] at G;exact G
    |ok E S3 =>
     rw[q2] at G;intro zy H4 P4 zl r4 zb e6 e7;refine⟨P4,zl,E,S3,r4,zb,?_⟩;have Y:=zD.base e6 e7 G;cases o:f E S3 with
     |bad=>simp only[o] at Y;exact Y
     |ex c x U l=>simp only[o] at Y;exact Y
     |rt d4 l=>simp only[o] at Y;exact Y
     |bk U l=>simp only[o] at Y;exact Y
     |nx U l =>
      simp only[o] at Y;exact λzc H5 P5 A r5 z v s=>⟨N,rfl,P5,A,U,l,r5,z,((t.trans e5).trans e6).trans v,(h.trans e7).trans s,zD.base v s Y⟩
     |ct U l =>
      simp only[o] at Y;exact λzc H5 P5 A r5 z v s=>⟨N,rfl,P5,A,U,l,r5,z,((t.trans e5).trans e6).trans v,(h.trans e7).trans s,zD.base v s Y⟩
  .have k:L.drop i=[]:=Ob om
   rw[k] at T;exact .inl ⟨it.stop i H2 P2 B e om r2 t h,T zs H2 P2 B r2 n (qF.refl _) (Bu _)⟩
end
abbrev DF:=Aa D->aq->ba D
section
variable {X:Cx}{x:An}{p ar:En}{e:Bp}{es:Aa Bp}{F:DF}{fa:DA}
def qH (F:DF)(fa:DA):DE:=λY S=>(fa Y S).bind λJ S1=>F J S1
theorem l0 {aj:aa}{G:Ag}{σ:_L.St}{J P P1:Hp}{α Y:ag}{vs:Aa V}{U:Aa D}(O:wC X u F)(E:Inv X aj σ J G)(L:bh X.K J P1 Y S1)(T:qJ vs us)
  (N:qD X.K P1 Y U vs) (e1:qF P P1) (e2:α<+:Y) (B:qG X P α (F U S1) (gw X P α Q)):Ap (Au X.prog X.w) X.A (call u us) (EP X aj σ Q) X.xe G:=O aj σ J G P1 Y S1 vs us U Q E L T N (qT.base e1 e2 B)
theorem YJ {id:Eg}(E:wC X (.builtin id) F)(A:Gl X x)(hm:X.mg x=none)(hv:Gm x=Ab (.builtin id))(o:PA X (e::es) (jy X fa))(T:x ≠ "__name__":=by decide)(U:(x == ("__debug__" : An))=false:=by decide)
  (G:Bl (e::es) X.env=(false,eval e X.env)::Bl es X.env:=by rfl) (Y:(Gp ar (Bl es X.env)).any (·.1)=false:=by rfl):PE X (.Call (.Name x p) (e::es) [] ar) (tD X (qH F fa)):=by
 intro v s σ H Q I h;obtain⟨P,α,g,S,r,q,z⟩:=h;refine Kk (uF I A hm hv ?_ T U);exact Ox (bo (wZ o I r q z ar) λus d ⟨c,t,l,L,f,S1,O,N,k,j,w,B,y,J⟩=>l0 E O k N w B y J) G Y
theorem Z5 {T:Eg}(A:wC X (.type T) F)(w:Gl X x)(hm:X.mg x=none)(hv:Gm x=Ab (.type T))(l:PA X (e::es) (jy X fa))(E:x ≠ "__name__":=by decide)(U:(x == ("__debug__" : An))=false:=by decide)
  (G:Bl (e::es) X.env=(false,eval e X.env)::Bl es X.env:=by rfl) (Y:(Gp ar (Bl es X.env)).any (·.1)=false:=by rfl):PE X (.Call (.Name x p) (e::es) [] ar) (tD X (qH F fa)):=by
 intro f s σ H Q I h;obtain⟨P,α,c,S,r,o,j⟩:=h;refine Kk (uF I w hm hv ?_ E U);exact Iw (bo (wZ l I r o j ar) λus v ⟨d,m,g,L,t,S1,O,N,q,y,z,B,k,J⟩=>l0 A O q N z B k J) G Y
end
theorem zG.there {P:Be}{w:Br}{H:Hp}{h:Bn}{a:Af}{o:HO}(x:zG P w H h a o):∃ Y,h.get? a=Ab Y:=by
 cases o with
 |lst G=>obtain⟨_,_,_,_,e⟩:=x;exact⟨_,e⟩
 |tup G=>obtain⟨_,_,_,Y,e,_⟩:=x;exact⟨_,e⟩
 |dK U=>obtain⟨_,_,_,_,o,_,_,e,_⟩:=x;exact⟨_,e⟩
 |dT U=>obtain⟨_,_,_,_,o,_,_,e,_⟩:=x;exact⟨_,e⟩
 |set S n=>obtain⟨o,_,_,_,e,_⟩:=x;exact⟨_,e⟩
 |ins C B J=>obtain⟨_,_,_,e,_⟩:=x;exact⟨_,e⟩
 |own y=>obtain⟨_,e⟩:=x;exact⟨_,e⟩
 |xd J=>obtain⟨_,⟨_,_,_,e,_⟩,_⟩:=x;exact⟨_,e⟩
 |rng lo N=>obtain⟨_,_,_,e⟩:=x;exact⟨_,e⟩
 |frz Y u=>obtain⟨e,_⟩:=x;exact⟨_,e⟩
 |tbl O=>exact⟨_,show h.get? a=Ab _ from x⟩
 |met f y=>exact⟨_,show h.get? a=Ab _ from x⟩
 |ext φ => obtain⟨_,e,_⟩:=x;exact e
section
variable {X:Cx}{aj:aa}{σ : _L.St}{H:Hp}{s:Ag}{B h':Bn}
abbrev ji (X:Cx):Prop:=X.ex=[]/\X.stack=X.env::X.outer/\X.env.frame=Ab X.env.locals
theorem ji.mem (F:ji X){b:Af}:b∈gx X.stack↔b=X.env.locals\/b∈X.fs:=by
 rw[F.2.1];unfold gx;rw[Fv,F.2.2];exact AT
theorem pf.there (I:Inv X aj σ H s)(F:ji X){b:Af}(o:pf X aj H b):∃ Y,s.heap.get? b=Ab Y:=by
 rcases o with⟨o,e⟩|e|⟨p,U,rfl⟩|⟨x,e⟩
 .exact I.base.there b o e (by rw[F.1];simp)
 .cases q:H b with
  |none=>exact absurd q e
  |some u=>exact zG.there (I.hok b u q)
 .exact⟨_,(I.pin p U).1⟩
 .obtain⟨v,Y,J,_⟩:=I.cell x b e
  exact⟨Y,J⟩
theorem Inv.fly (I:Inv X aj σ H s)(F:ji X)(cv:Cv X aj H B s.heap)(st:B.StaysIn h')(up:s.heap.UpToSlots h'):Inv X aj σ H { s with heap:=h' } /\ Cv X aj H B h':=by
 have E:∀ b o,s.heap.get? b=Ab o->pf X aj H b->b ∉ gx X.stack->h'.get? b=Ab o:=λb o e q n=>st b o (cv b o e q n);have w:∀ b o,X.s₀.heap.get? b=Ab o->b≠X.env.locals:=λb o e=>Cp (Az (Bh e) I.ok.above);have G:∀ b o,X.s₀.heap.get? b=Ab o->b ∉ X.fs->b ∉ gx X.stack:=λb o e n z=>(F.mem.mp z).elim (w b o e) n;have nx:∀ b,b ∉ X.ex:=λb=>by rw[F.1];simp
 have O:∀ b,b∈gx X.stack->∀ o,s.heap.get? b=Ab o->∃ sl,h'.get? b=Ab { o with slots:=sl }:=λb hb o e=>by
  obtain⟨_,j,g,L⟩:=I.stack.mem hb;rw[e] at g;cases g;exact up b o e L
 have Y:∀ x c,X.env.cells.lookup x=Ab c->∀ v,s.heap.IsCell c v->h'.IsCell c v:=λx c e v ⟨o,ho,t⟩=>by
  obtain⟨sl,q⟩:=up c o ho λvs z=>by rw[t] at z;cases z
  exact⟨_,q,t⟩
 refine⟨⟨I.ok,I.os,I.bare,⟨λb o e n hb N=>?_,λb o e n hb N=>?_,I.base.free,λb o e N=>?_,I.base.tups,I.base.frzs,I.base.tbls⟩,?_,λx c e=>?_,I.free,I.freeC,λp h=>?_,λa o e=>?_,I.len⟩,λb o e q n=>?_⟩
 .exact E b o (I.base.keep b o e n hb N) (.inl ⟨o,e⟩) (G b o e hb)
 .obtain⟨sl,J⟩:=I.base.slot b o e n hb N
  obtain⟨y,U⟩:=O b (F.mem.mpr (.inr hb)) _ J;exact⟨y,U⟩
 .obtain⟨j,J⟩:=I.base.there b o e N
  by_cases hb:b∈gx X.stack
  .obtain⟨sl,U⟩:=O b hb _ J
   exact⟨_,U⟩
  .exact⟨j,E b j J (.inl ⟨o,e⟩) hb⟩
 .obtain⟨m,T,hl⟩:=I.loc
  refine⟨m,up.ns T,λi x v J U A=>?_⟩;obtain⟨u,r,l⟩:=hl i x v J U A;refine⟨u,r,?_⟩;rcases l with l|⟨k,c,e,z⟩
  .exact .inl l
  .exact .inr ⟨k,c,e,Y x c e _ z⟩
 .obtain⟨v,z⟩:=I.cell x c e
  exact⟨v,Y x c e v z⟩
 .obtain⟨e,n,ne,L,d⟩:=I.pin p h
  exact⟨E p.1 p.2 e (.inr (.inr (.inl ⟨p,h,rfl⟩))) λz=>(F.mem.mp z).elim ne L,n,ne,L,d⟩
 .refine(I.hok a o e).stay (λb u hb q=>?_) (λ_ q=>q) λ_ _ q=>q
  have T:H b≠none:=by
   rcases hb with rfl|hb
   .rw[e];intro z;cases z
   .rw[hb];intro z;cases z
  exact E b u q (.inr (.inl T)) λz=>T (I.stkFree b z)
 .obtain⟨f,J⟩:=pf.there I F q
  have U:=cv b f J q n;have A:=st b f U;rw[e] at A;cases A;exact U
theorem tM (o:Ch)(f:Aw Ac->Aw Ac):(o.mapFields f).dict=o.dict:=by
 obtain⟨c,d,Y,sl⟩:=o;cases Y <;> rfl
section
variable {M:Kq}{A:Bk}{E:ae}
theorem Z9 {ak:Iu}{y:Aa Iu}{L e:Af}{G:Ch}{vs:Aw Ac}{head:Ac}{Y:As}{Q:Pa->Ag->Prop}(c:A.frames=Ab (ak::y))(k:s.heap.FunFrames B (ak::y))(hf:ak.frame=Ab L)(j:s.heap.get? e=Ab G)
  (v:B.StaysIn s.heap) (I:B.get? e=none) (U:G.data=.fields vs) (hsz:1<vs.size) (h:∀ h',pi B (ak::y) e G.cls G.dict (Ly L) h'->s.heap.UpToSlots h'->Q () { s with heap:=h' }) :
  Ap M A (do let a <- frameOf ak;let pl <- entryPlaceOf L Y;let b <- Xe head a .none (Ly L) .none pl;setField (.ref e) 1 b) Q E s:=by
 have ne:e ∉ (ak::y).filterMap (·.frame):=λz=>by
  obtain⟨_,o,r,N⟩:=k.mem z;rw[j] at r;cases r;exact N vs U
 refine Ad (wpAny_frameOf_fun c k hf λJ g=>Ad (wpAny_entryPlaceOf λpl O=>?_));unfold Xe newFields;refine Ad (Dm ?_ (O.sizeOk5 _ _ _ _ _));generalize hT:({ cls:=.type "traceback",dict:=none,data:=.fields ([head,.ref L,.none,Ly L,.none]++(if pl.isEmpty then Di 6 De else pl)).toArray } : Ch)=T
 obtain⟨l,t,h3⟩:∃ l,T.data=.fields l/\l[3]? = Ab (Ly L):=⟨_,by rw[<- hT],by first|(simp;done)|(rcases O with rfl|⟨_,_,_,_,_,_,_,rfl⟩ <;> simp)⟩
 have fT:T.isFreed=false:=Li t;have m:J.get? e=Ab G:=(g.2.1 e ne).trans j;have x:=Aj (h:=J) T m;have nT:J.objs.size≠e:=Hn (Bh m);have d:∀ b o,b≠e->J.get? b=Ab o->((J.push T).update e (Kw (·.setIfInBounds 1 (Dk J.objs.size)))).get? b=Ab o:=λb o n q=>by
  rw[Df _ _ (Fm n)];exact Aj _ q
 refine Ix x U hsz (h _ ?_ ?_)
 .have i:B.StaysIn J:=λb o q=>(g.2.1 b λz=>by rw[(k.mem z).1] at q;cases q).trans (v b o q)
  have f:=Kl U (·.setIfInBounds 1 (Dk J.objs.size))
  refine⟨λb o q=>d b o (λz=>by rw[z,I] at q;cases q) (i b o q),I,k.of_keeps λb o q N=>?_,.mk _ _ J.objs.size T l (Ek _ x (Li f)) (Ze _ _) (tM _ _) f (by simp[hsz]) i.fresh nT ((Df _ _ (Fm nT)).trans (Bj J fT)) t h3⟩
  obtain⟨sl,z⟩:=g.2.2 b o q;exact⟨_,d b _ (λw=>by rw[w,j] at q;cases q;exact N vs U) z,rfl⟩
 .intro b o q N
  obtain⟨sl,z⟩:=g.2.2 b o q;exact⟨sl,d b _ (λw=>by rw[w,j] at q;cases q;exact N vs U) z⟩
theorem ZI {h:Bn}{l:Aa Iu}{e:Af}{c:Ac}{v:Ac}(x:pi B l e c dd fl h):∃ J vs T O U,h.get? e=Ab J/\J.cls=c/\J.dict=dd/\J.data=.fields vs/\vs[1]? = Ab (.ref T)/\h.get? T=Ab O/\O.data=.fields U/\U[3]? = Ab fl /\
  pi B l e c dd v (h.update T (Kw (·.setIfInBounds 3 v)))/\h.UpToSlots (h.update T (Kw (·.setIfInBounds 3 v))):=by
 obtain⟨t,i,m,J,vs,T,O,U,j,d,G,w,r,g,f,I,Y,k⟩:=x;have L:∀ b,b≠T->(h.update T (Kw (·.setIfInBounds 3 v))).get? b=h.get? b:=λb n=>Df _ _ (Fm n)
 have y:∀ b o,h.get? b=Ab o->(∀ vs,o.data≠.fields vs)->b≠T:=λb o q N z=>by rw[z,I] at q;cases q;exact N U Y
 refine⟨J,vs,T,O,U,j,d,G,w,r,I,Y,k,⟨λb o q=>(L b λz=>by rw[z,g] at q;cases q).trans (t b o q),i,m.of_keeps λb o q N=>⟨o,(L b (y b o q N)).trans q,rfl⟩,.mk J vs T _ _ ((L e (Fm f)).trans j) d G w r g f (Ek _ I (Li (Kl Y _))) (Kl Y _) ?_⟩,λb o q N=>⟨o.slots,(L b (y b o q N)).trans q⟩⟩
 simp[(Cs.mp k).1]
theorem oA {l:Aa Iu}{e:Af}{c:Ac}{Q:Pa->Ag->Prop}(x:pi B l e c dd fl s.heap)(G:∀ h',pi B l e c dd .none h'->s.heap.UpToSlots h'->Q () { s with heap:=h' }) : Ap M A (Vl (.ref e) none) Q E s:=by
 obtain⟨I,j,T,z,w,U,_,_,J,L,N,Y,O,k,up⟩:=ZI (v:=.none) x;unfold Vl;refine Ad (Ed U J L ?_);rw[Ax (show (Dk T != De)=true from by simp)]
 exact Ix N Y (Cs.mp O).1 (G _ k up)
end
theorem JY {M:Kq}{A:Bk}{E:ae}{c:Ac}{e:Af}{Q:Pa->Ag->Prop}(I:Inv X aj σ H s)(F:ji X)(m:A.frames=Ab X.stack)(f:jx X aj H c dd e s.heap)
  (g:∀ h' B,pi B X.stack e c dd (Ly X.env.locals) h'->Cv X aj H B s.heap->s.heap.UpToSlots h'->Q () { s with heap:=h' }) : Ap M A (Sd (.ref e) X.env) Q E s:=by
 have z:=F.2.1;rw[z] at m;unfold Sd;simp only[F.2.2];cases f with
 |new ob t J r Y N no nf =>
  subst r Y;refine Ad (Ed J N (x:=.none) rfl ?_);rw[Bb (by decide)]
  have j:=PySem.W.funFrames_hide (as:=e::gx X.stack) I.stack λak J a ha=>Bt _ (IN.mpr ⟨ak,J,ha⟩);have L:Cv X aj H (Mn s.heap (e::gx X.stack)) s.heap:=λb o q h n=>Ws _ q λw=>(AT.mp w).elim (λw=>no (w▸h)) n;have O:(Mn s.heap (e::gx X.stack)).get? e=none:=Wi _ Cq;have k4:(Mn s.heap (e::gx X.stack)).StaysIn s.heap:=λb o q=>Xy _ q;generalize Mn s.heap (e::gx X.stack)=B at j L O k4;exact Z9 m (z▸j) F.2.2 J k4 O N (by simp) λh' k up=>g h' B (z▸k) L up
 |fly B fl cv =>
  obtain⟨oe,vs,T,oT,ts,J,r,Y,N,h1,hT,U,h3,k,up⟩:=ZI (v:=.none) fl;subst r Y;refine Ad (Ed J N h1 ?_);rw[Ax (show (Dk T != De)=true from by simp)]
  refine Ad (Ed hT U h3 ?_);rw[Bb (show ¬((De == Ly X.env.locals)=true) from by simp[Ly])]
  refine Ad (Ix hT U (Cs.mp h3).1 ?_);obtain⟨j,L,O,zl,zc,_,_,_,l,zb,G,d,i,_⟩:=k;rw[<- zb,<- G] at g;exact Z9 (z▸m) (z▸O) F.2.2 l j L d (Cs.mp i).1 λh' y u=>g h' B (z▸y) cv (up.trans u)
theorem ZY {M:Kq}{A:Bk}{E:ae}{c:Ac}{e:Af}{Q:Pa->Ag->Prop}(I:Inv X aj σ H s)(F:ji X)(z:A.frames=Ab X.stack)(f:jx X aj H c dd e s.heap)
  (G:∀ h' B,pi B X.outer e c dd .none h'->Inv X aj σ H { s with heap:=h' } -> Cv X aj H B h'->Q () { s with heap:=h' }) : Ap M A (leaving X.env (.ref e)) Q E s:=by
 unfold leaving;refine Ad (JY I F z f λo B k L y=>oA (s:={ s with heap:=o }) k λw J O=>?_)
 obtain⟨N,Y⟩:=Inv.fly I F L J.1 (y.trans O);obtain⟨T,j,U,q⟩:=J;rw[F.2.1] at U;exact G w B ⟨T,j,U.2.2,q⟩ N Y
end
def ml (P:Be)(w:Br):sy:=λU H s E u Y =>
 ∃ e c dd J B,u=.ref e/\Y.os=s.os/\Og Y.gens/\Un (gx U) [] H J s.heap Y.heap/\gj P w J Y.heap/\pi B U e c dd .none Y.heap /\
  (∀ b o,Y.heap.get? b=Ab o->((∃ o,s.heap.get? b=Ab o)\/J b≠none)->b ∉ gx U->B.get? b=Ab o)/\E c dd J
section
variable {X:Cx}{aj:aa}{σ : _L.St}{H:Hp}{s s':Ag}
theorem NQ {E:XK}(I:Inv X aj σ H s)(F:ji X)(h:ml X.prog X.w X.stack H s E u s'):∃ e c dd Y,u=.ref e/\Inv X aj σ Y s'/\jx X aj Y c dd e s'.heap/\E c dd Y:=by
 obtain⟨e,c,dd,Y,B,rfl,os,J,w,G,fl,U,q⟩:=h;have L:Inv X aj σ Y s':=Inv.call' I os w G J (ch:=[]) λb z=>absurd z (by simp)
 refine⟨e,c,dd,Y,rfl,L,.fly B fl λb o A N n=>U b o A ?_ n,q⟩;rcases N with⟨o,z⟩|z|⟨p,T,rfl⟩|⟨x,z⟩
 .exact .inl (I.base.there b o z (by rw[F.1];simp))
 .exact .inr z
 .exact .inl ⟨_,(I.pin p T).1⟩
 .obtain⟨v,j,O,_⟩:=I.cell x b z
  exact .inl ⟨j,O⟩
end
structure az (cm:As)(k:Ah)(A:Bk):Prop where
 hd:cm=true->A.handled=none
 dp:A.depth+3*k+5<Qn
 un:A.units+16*k+200<Fo
 gd:A.guards=Ab []
theorem az.mono {cm:As}{j k:Ah}{A:Bk}(r:az cm k A)(h:j<=k:=by decide):az cm j A:=⟨r.hd,by have:=r.dp;fin2,by have:=r.un;fin2,r.gd⟩
theorem az.deeper {cm:As}{k:Ah}{A:Bk}(r:az cm (k+1) A)(ak:Iu):az cm k (A.deeper ak):=
 ⟨r.hd,by have:=r.dp;show A.depth+1+3*k+5<_;fin2,by have:=r.un;show A.units+3+16*k+200<_;fin2,r.gd⟩
theorem az.depth {cm:As}{k:Ah}{A:Bk}(r:az cm k A):A.depth<Qn:=by have:=r.dp;fin2
theorem az.units {cm:As}{k:Ah}{A:Bk}(r:az cm k A):A.units+64<Fo:=by have:=r.un;fin2
theorem az.of {k:Ah}{A:Bk}(r:gt k A):az true k A:=⟨λ_=>r.hd,r.dp,r.un,r.gd⟩
theorem az.any {cm:As}{k:Ah}{A:Bk}(r:az cm k A):az false k A:=⟨(λz=>nomatch z),r.dp,r.un,r.gd⟩
theorem az.mark {cm:As}{k:Ah}{A:Bk}(r:az cm k A)(h:Ak Ac):az false k (A.mark h):=⟨(λz=>nomatch z),r.dp,r.un,r.gd⟩
noncomputable abbrev Cx.re (X:Cx)(A:Bk)(cm:As)(E:ae):Cx:={ X with A:=A,calm:=cm,xe:=E }
theorem Inv.re {X:Cx}{aj:aa}{σ:_L.St}{H:Hp}{s:Ag}(I:Inv X aj σ H s)(A:Bk)(cm:As)(E:ae)(Y:A.frames=Ab X.stack)(J:cm=true->A.handled=none):Inv (Cx.re X A cm E) aj σ H s:=
 ⟨⟨I.ok.mod,I.ok.kind,I.ok.glob,I.ok.blt,I.ok.above,I.ok.inj,I.ok.has,I.ok.cab,J,Y,I.ok.stk,I.ok.exf,I.ok.bs,I.ok.bsz,I.ok.noex,I.ok.exfs,I.ok.funs,I.ok.frf⟩,I.os,I.bare,I.base,I.loc,I.cell,I.free,I.freeC,I.pin,I.hok,I.len⟩
theorem Inv.unre {X:Cx}{aj:aa}{σ:_L.St}{H:Hp}{s:Ag}{A:Bk}{cm:As}{E:ae}(I:Inv (Cx.re X A cm E) aj σ H s)(Y:X.A.frames=Ab X.stack)(J:X.calm=true->X.A.handled=none):Inv X aj σ H s:=
 ⟨⟨I.ok.mod,I.ok.kind,I.ok.glob,I.ok.blt,I.ok.above,I.ok.inj,I.ok.has,I.ok.cab,J,Y,I.ok.stk,I.ok.exf,I.ok.bs,I.ok.bsz,I.ok.noex,I.ok.exfs,I.ok.funs,I.ok.frf⟩,I.os,I.bare,I.base,I.loc,I.cell,I.free,I.freeC,I.pin,I.hok,I.len⟩
structure ma (P:Be)(w:Br)(K:Ai)(mg:ai)(base:Bn)(cm:As)(k:Ah)(f:Af)(fd:Fh)(ps:Aa An)(sp:Sp):Prop where
 len:∀ vs H Q E,sp vs H Q E->vs.length=ps.length
 run:∀ (A:Bk) (outer:Aa Iu) (s:Ag) (H:Hp) (args:Args) (us:ah) (vs:Aa V) (Q:VK) (E:XK),az cm k A->lr P w K mg base A outer s H->Ol s fd args (ps.zip us)->qJ vs us->sp vs H Q E ->
  Ja (Au P w) A (.call (.ref f) args) (CR (ml P w) outer P w H s Q E) s
theorem ma.ok {P:Be}{w:Br}{K:Ai}{U:ai}{base:Bn}{k:Ah}{f:Af}{fd:Fh}{J:Aa An}(F:ma P w K U base true k f fd J sp):kw P w K U base (ml P w) k f fd J sp:=
 ⟨F.len,λA O s H Y us N Q E G=>F.run A O s H Y us N Q E (.of G)⟩
theorem ma.any {P:Be}{w:Br}{K:Ai}{U:ai}{base:Bn}{cm:As}{k:Ah}{f:Af}{fd:Fh}{J:Aa An}(F:ma P w K U base false k f fd J sp):ma P w K U base cm k f fd J sp:=
 ⟨F.len,λA O s H Y us N Q E G=>F.run A O s H Y us N Q E G.any⟩
theorem ma.imp {P:Be}{w:Br}{K:Ai}{G:ai}{base:Bn}{cm:As}{k:Ah}{f:Af}{fd:Fh}{U:Aa An}{Y:Sp}(F:ma P w K G base cm k f fd U sp)
  (h:∀ vs H Q E,Y vs H Q E->sp vs H Q E):ma P w K G base cm k f fd U Y:=
 ⟨λvs H Q E q=>F.len vs H Q E (h _ _ _ _ q),λA L s H J us vs Q E B N T hv O=>F.run A L s H J us vs Q E B N T hv (h _ _ _ _ O)⟩
noncomputable def lh (cm:As)(P:Be)(w:Br)(K:Ai)(mg:ai)(base:Bn)(N:Aa An)(J:An)(am:Eu)(f:Af)(U:Ac)(A:Bk)(G:Aa Iu)(s:Ag)(H:Hp)(E:XK):Cx where
 prog:=P
 w:=w
 K:=K
 mg:=mg
 base:=base
 A:=A.deeper (Gx J am s.heap.objs.size f U)
 N:=N
 s₀:=s
 H₀:=H
 env:=Gx J am s.heap.objs.size f U
 outer:=G
 stack:=Gx J am s.heap.objs.size f U::G
 ex:=[]
 calm:=cm
 fn:=λ_=>true
 pn:=[]
 xe:=λe B=>Ap (Au P w) (A.deeper (Gx J am s.heap.objs.size f U)) (leaving (Gx J am s.heap.objs.size f U) e) (λ_ Y=>ml P w G H s E e Y) (λO Y=>ml P w G H s E O Y) B
section
variable {P:Be}{w:Br}{K:Ai}{mg:ai}{base:Bn}{cm:As}{N:Aa An}{be:An}{am:Eu}{f:Af}{cd:Ac}{A:Bk}{ap:Aa Iu}{s:Ag}{H:Hp}{E:XK}
theorem YG:Vh (Au P w) (A.deeper (Gx be am s.heap.objs.size f cd)) (Gx be am s.heap.objs.size f cd) (lh cm P w K mg base N be am f cd A ap s H E).xe:=PassesOwn.leaving (Q₁:=λe Y=>ml P w ap H s E e Y)
abbrev yl (P:Be)(w:Br)(A:Bk)(ak:Iu)(ap:Aa Iu)(H:Hp)(s:Ag)(E:XK):Ac->Ag->Prop:=λe U=>Ap (Au P w) (A.deeper ak) (leaving ak e) (λ_ Y=>ml P w ap H s E e Y) (λJ Y=>ml P w ap H s E J Y) U
theorem YH {X:Cx}{j:Hp}{α:ag}{c:Ac}{x:D}{s':Ag}(m:X.A=A.deeper X.env)(k:tz X j α c x S u s')
  (q:∀ O G Y dd,bh X.K O G Y S->qF j G->α<+:Y->uz X.K G Y c x dd->E c dd O):yl X.prog X.w A X.env X.outer X.H₀ X.s₀ E u s':=by
 obtain⟨e,h,σ,T,y,U,rfl,I,r,g,t,F,dd,fl,a⟩:=k;unfold yl;rw[<- m];refine ZY I F I.ok.frames fl λh' B i J v=>?_;refine⟨e,c,dd,T,B,rfl,J.os,J.bare,by have z:=J.base;rw[F.1] at z;exact z,J.hok,i,λb o d L n=>v b o d ?_ λz=>?_,q T y U dd r g t a⟩
 .rcases L with z|z
  .exact .inl z
  .exact .inr (.inl z)
 .rcases (ji.mem F).mp z with z|z
  .subst z
   rcases L with⟨o',l⟩|z
   .exact absurd (Bh l) (Oc.mpr J.ok.above)
   .exact z J.free
  .exact n z
theorem o4 {U:Aa An}{G:Ag}{vs:Aa V}(S:cu N U am)(O:cm=true->A.handled=none)(Y:lr P w K mg base A ap s H)(B:vs.length=U.length)(r:qJ vs us)
  (x:InCallC s s.heap.objs.size (Ww (Gx be am s.heap.objs.size f cd).kindOf (U.zip us) λ_=>none) (Ho (s.heap.objs.size+1) am.names []) (Wx (Gx be am s.heap.objs.size f cd).kindOf (U.zip us) λ_=>none) G) :
  Inv (lh cm P w K mg base N be am f cd A ap s H E) [] (_L.xV N vs) H G:=by
 have I:=lG (CX:=ml P w) (E:=E) (A:={ A with handled:=none }) S rfl ⟨Y.frames,Y.mod,Y.bs,Y.bsz,Y.funs,Y.frf,Y.hok,Y.bare⟩ B r x
 have J:=Inv.re I (A.deeper (Gx be am s.heap.objs.size f cd)) cm (lh cm P w K mg base N be am f cd A ap s H E).xe (Wj Y.frames) O;exact J
end
theorem NT {P:Be}{w:Br}{K:Ai}{m:ai}{base:Bn}{cm:As}{k:Ah}{f:Af}{z:An}{ii:Vi}{am:Eu}{oc:Ac}{an:Ak Af}{i:Aw (Ak Ac)}{x:An}{kV c pm Y ct:Ac}{N d:Aa An}
  {A:Bk} {j:Aa Iu} {s:Ag} {H:Hp} {O:Args} {us:ah} {vs:Aa V} {Q:VK} {E:XK} (lk:K.lookup f=Ab ⟨oc,od,.func (Gn x z ii cx am .none kV c pm an Y ct),i⟩) (h:Lr K Y z=true) (S:cu N d am) (hl:vs.length=d.length) (hr:az cm (k+1) A)
  (g:lr P w K m base A j s H) (hb:Ol s (Gn x z ii cx am .none kV c pm an Y ct) O (d.zip us)) (r:qJ vs us)
  (L:∃ t,il (lh cm P w K m base N z am f Y A j s H E) cx t/\t { nx:=λ_ G=>Q .non G,rt:=Q } (_L.xV N vs) H) :
  Ja (Au P w) A (.call (.ref f) O) (CR (ml P w) j P w H s Q E) s:=by
 have KX:K.In s.heap:=g.mod.kin.keeps λb o e=>(g.bs b o e).1;have bb:s.heap.NoLimit:=g.mod.nolimit.keeps λb o e=>(g.bs b o e).1;have B:∀ y∈d.zip us,am.names.lookup y.1=Ab .local \/ (am.names.lookup y.1=Ab .cell/\((Ho (s.heap.objs.size+1) am.names []).lookup y.1).isSome=true):=λ⟨n,v⟩ hy=>by
  rcases S.par n (Pi hy).1 with q|q
  .exact .inl q
  .exact .inr ⟨q,Ks _ _ _ (.inl q)⟩
 refine Vj hr.depth (KX _ _ lk) rfl S.co S.gen rfl (XV KX h) (hb _ _ _ _ ?_);refine Rj S.kind B λak he s1 x=>?_;subst he;refine⟨bb.keeps x.toInCall.keep,codeAny_func ?_⟩;obtain⟨t,ht,hq⟩:=L;have I:Inv (lh cm P w K m base N z am f Y A j s H E) [] (_L.xV N vs) H s1:=o4 S hr.hd g hl r x;refine Hw (ht [] s1 (_L.xV N vs) H _ I hq) (λfl s' T=>?_) λe s' T=>T;have l:∀ {U : _L.St} {G:Hp} {v:V} {u:Ac},Inv (lh cm P w K m base N z am f Y A j s H E) [] U G s'->qK v u->Q v G->CE j P w H s Q u s':=
  λ{U G v u} J a q=>⟨v,G,J.os,J.bare,J.base,J.hok,a,q⟩
 cases fl with
 |ret u =>
  obtain⟨v,U,G,J,a,q⟩:=T;exact l J a q
 |next =>
  obtain⟨U,G,J,q⟩:=T;exact l (v:=V.non) (u:=De) J rfl q
 |brk =>
  obtain⟨_,_,_,q⟩:=T;exact Ao q
 |cont =>
  obtain⟨_,_,_,q⟩:=T;exact Ao q
def bK (K:Ai)(x:An)(Y:Ac):Prop:=∀ c T,Ej K x=Ab (c,T)->Y=.ref c
theorem NS {P:Be}{w:Br}{K:Ai}{T:ai}{base:Bn}{cm:As}{k:Ah}{f:Af}{x B:An}{st:Ey}{fd:Fh}{N O:Aa An}(F:rm K x B st f fd)(S:cu N O (qM st))
  (G:∀ vs H Q E,sp vs H Q E->vs.length=O.length)
  (J:∀ (Y:Ac) (A:Bk) (L:Aa Iu) (s:Ag) (H:Hp) (vs:Aa V) (Q:VK) (E:XK),fd.code=Y/\Mod K T base->az cm k (A.deeper (Gx B (qM st) s.heap.objs.size f Y))->sp vs H Q E ->
   ∃ t,il (lh cm P w K T base N B (qM st) f Y A L s H E) (zV st) t/\t { nx:=λ_ o=>Q .non o,rt:=Q } (_L.xV N vs) H) :
  ma P w K T base cm (k+1) f fd O sp:=by
 obtain⟨c,od,kV,g,m,d,Y,v,q,rfl,lk,I⟩:=F.ex;exact⟨G,λA L s H y us vs Q E z j l r U=>NT lk I S (G _ _ _ _ U) z j l r (J Y A L s H vs Q E ⟨rfl,j.mod⟩ (z.deeper _) U)⟩
def wL (n:Ah)(Y:Aa D):qE:=Y.map Ab++Di (n-Y.length) none
noncomputable def IX:jh->ba D
 |.rt d S=>.ok d S
 |.nx _ S=>.ok .non S
 |.ex c x _ S=>.ex c x S
 |_=>.bad
def qQ (n:Ah)(g:DS):DF:=λY S=>IX (g (wL n Y) S)
def xu (K:Ai)(P:Hp)(α : Aa Af)(R:ba D)(Q:VK)(E:XK):Prop:=match R with
 |.ok d G=>∀ v U J Y,bh K U J Y G->qF P J->α<+:Y->au K J Y d v->Q v U
 |.ex c x G=>∀ U J Y dd,bh K U J Y G->qF P J->α<+:Y->uz K J Y c x dd->E c dd U
 |.bad=>Fb
def pc (K:Ai)(n:Ah)(F:DF):Sp:=λY H Q E=>Y.length=n/\∃ P α J S,bh K H P α S/\qD K P α J Y/\xu K P α (F J S) Q E
theorem oO {K:Ai}{P:Hp}{α:ag}{N:Aa An}{Y:Aa D}{vs:Aa V}(r:qD K P α Y vs):z9 K P α (_L.xV N vs) (wL N.length Y):=by
 refine⟨by simp[wL,_L.xV,r.length],λi d e=>?_⟩
 unfold wL at e;unfold _L.xV;by_cases J:i<Y.length
 .rw[Ci (by simpa using J),Ea] at e
  rw[Ci (by rw[Aq,<- r.length];exact J),Ea]
  cases q:Y[i]? with
  |none=>rw[q] at e;cases e
  |some O =>
   rw[q] at e;cases e;obtain⟨v,G,U⟩:=r.get q;exact⟨v,by rw[G];rfl,U⟩
 .rw[Cw (by simpa using J),Nh] at e
  split at e <;> cases e
section
variable {P:Be}{w:Br}{K:Ai}{mg:ai}{base:Bn}{cm:As}
theorem Y6 {y:An}{am:Eu}{f:Af}{G:Ac}{A:Bk}{k:Aa Iu}{s:Ag}{H I:Hp}{E:XK}{N:Aa An}{g:DS}{α:ag}{j:Aa D}{vs:Aa V}{S':aq}(e:il (lh cm P w K mg base N y am f G A k s H E) cx (im (lh cm P w K mg base N y am f G A k s H E) g))
  (r:bh K H I α S') (l:qD K I α j vs) (Y:xu K I α (qQ N.length g j S') Q E):∃ t,il (lh cm P w K mg base N y am f G A k s H E) cx t/\t { nx:=λ_ U=>Q .non U,rt:=Q } (_L.xV N vs) H:=by
 refine⟨_,e,I,α,wL N.length j,S',r,oO l,?_⟩;unfold qQ at Y;cases q:g (wL N.length j) S' with
 |rt d S1=>rw[q] at Y;exact λv U L J T O B m=>Y v U L J T O B m
 |nx o S1=>rw[q] at Y;exact λn U L J T i O B=>Y .non U L J T O B (by simp only[au])
 |bk o S1=>rw[q] at Y;exact Ao Y
 |ct o S1=>rw[q] at Y;exact Ao Y
 |ex c x o S1=>rw[q] at Y;exact λu b z=>YH (A:=A) rfl z λU L J dd T O B=>Y U L J dd T O B
 |bad=>rw[q] at Y;exact Ao Y
theorem fnX {x U:An}{st:Ey}{f:Af}{fd:Fh}{N O:Aa An}{k:Ah}{g:DS}(F:rm K x U st f fd)(S:cu N O (qM st))
  (J:∀ (Y:Ac) (A:Bk) (G:Aa Iu) (s:Ag) (H:Hp) (E:XK),fd.code=Y/\Mod K mg base->az cm k (A.deeper (Gx U (qM st) s.heap.objs.size f Y)) ->
   il (lh cm P w K mg base N U (qM st) f Y A G s H E) (zV st) (im (lh cm P w K mg base N U (qM st) f Y A G s H E) g)) :
  ma P w K mg base cm (k+1) f fd O (pc K O.length (qQ N.length g)):=by
 refine NS F S (λL H Q E h=>h.1) λY A G s H L Q E T B h=>?_;obtain⟨j,o,α,y,q,r,I,z⟩:=h;exact Y6 (J Y A G s H E T B) r I z
theorem ma.eq {k:Ah}{f:Af}{fd:Fh}{N:Aa An}{n:Ah}{F G:DF}(h:ma P w K mg base cm k f fd N (pc K n F))(e:∀ Y S,Y.length=n->G Y S≠.bad->F Y S=G Y S):ma P w K mg base cm k f fd N (pc K n G):=by
 refine h.imp λI H Q E ⟨O,T,α,Y,S,r,B,J⟩=>⟨O,T,α,Y,S,r,B,?_⟩;have U:Y.length=n:=by rw[B.length];exact O
 cases q:G Y S with
 |ok d L=>rw[e Y S U (by rw[q];intro z;cases z)];exact J
 |ex c x L=>rw[e Y S U (by rw[q];intro z;cases z)];exact J
 |bad=>rw[q] at J;exact Ao J
end
section
variable {X:Cx}{cm:As}{k:Ah}{f:Af}{fd:Fh}{ps:Aa An}{F:DF}{x:An}{p ar:En}{e:Bp}{es:Aa Bp}{fa:DA}{n:Ah}
def qP (n:Ah)(F:DF)(fa:DA):DE:=λJ S=>(fa J S).bind λY S1=>if Y.length=n then F Y S1 else .bad
def EX (X:Cx)(P:Hp)(α : Aa Af)(R:ba D):XK:=λc dd N=>match R with
 |.ex U x G=>c=U/\∃ J Y,bh X.K N J Y G/\qF P J/\α<+:Y/\uz X.K J Y c x dd
 |_=>Fb
theorem R9 {P:Hp}{α:ag}{R:ba D}(J:qT X P α R Q):xu X.K P α R Q (EX X P α R):=by
 cases R with
 |ok d O=>exact J
 |ex c x O=>exact λT G Y dd U L B N=>⟨rfl,G,Y,U,L,B,N⟩
 |bad=>exact J
theorem Y9 {aj:aa}{σ:_L.St}{H:Hp}{s:Ag}{P:Hp}{α:ag}{R:ba D}(w:(∃ c x S',R=.ex c x S')->ji X)(I:Inv X aj σ H s)(U:qT X P α R Q)
  (h:Ja (Au X.prog X.w) X.A (.call u ⟨us,[]⟩) (CR (ml X.prog X.w) X.stack X.prog X.w H s Q (EX X P α R)) s):Ap (Au X.prog X.w) X.A (call u us) (EP X aj σ Q) X.xe s:=by
 refine Tl (Nk h λr A Y=>?_);cases r with
 |error u =>
  have Y:ml X.prog X.w X.stack H s (EX X P α R) u A:=Y;cases R with
  |ok d S'=>obtain⟨_,_,_,_,_,_,_,_,_,_,_,_,q⟩:=Y;exact Ao q
  |bad=>exact Ao U
  |ex y j S' =>
   have G:=w ⟨_,_,_,rfl⟩;obtain⟨a,c,dd,B,rfl,N,fl,rfl,E,J,L,T,O,z⟩:=NQ I G Y;exact U _ _ ⟨a,aj,σ,B,E,J,rfl,N,L,T,O,G,dd,fl,z⟩
 |ok fl =>
  cases fl with
  |ret u=>exact I.after Y
  |next=>exact Ao Y
  |brk=>exact Ao Y
  |cont=>exact Ao Y
theorem aL {aj:aa}{σ:_L.St}{H:Hp}{s:Ag}{vs:Aa V}{P:Hp}{α:ag}{J:Aa D}(G:ma X.prog X.w X.K X.mg X.base cm k f fd ps (pc X.K n F))(L:az cm k X.A)(w:v8 X.K fd ps [])(T:ji X)
  (I:Inv X aj σ H s) (r:bh X.K H P α S) (N:qJ vs us) (O:qD X.K P α J vs) (E:J.length=n) (B:qT X P α (F J S) Q):Ap (Au X.prog X.w) X.A (call (.ref f) us) (EP X aj σ Q) X.xe s:=by
 have U:pc X.K n F vs H Q (EX X P α (F J S)):=⟨by rw[<- O.length];exact E,P,α,J,S,r,O,R9 B⟩
 have A:us.length=ps.length:=by rw[<- N.length];exact G.len _ _ _ _ U
 have Y:=w s us I.kIn (by rw[Hg];exact A)
 rw[Hg] at Y;exact Y9 (λ_=>T) I B (G.run X.A X.stack s H ⟨us,[]⟩ us vs Q _ L I.env0 Y N U)
theorem l9 {ak:qE}{S:aq}{P:Hp}{α:ag}{Y:Aa D}{Ok:D->aq->Prop}(h:qG X P α (if Y.length=n then F Y S1 else .bad) Ok):Y.length=n/\qG X P α (F Y S1) Ok:=by
 by_cases J:Y.length=n
 .rw[Ax J] at h;exact⟨J,h⟩
 .rw[Bb J] at h;exact Ao h
theorem GB (G:ma X.prog X.w X.K X.mg X.base cm k f fd ps (pc X.K n F))(L:az cm k X.A)(A:ji X)(z:Gl X x)(hm:X.mg x=Ab (.ref f))(d:Ep X.K (.ref f)=true)(c:v8 X.K fd ps [])
  (t:PA X (e::es) (jy X fa)) (N:(x == ("__debug__" : An))=false:=by decide) (B:Bl (e::es) X.env=(false,eval e X.env)::Bl es X.env:=by rfl) (Y:(Gp ar (Bl es X.env)).any (·.1)=false:=by rfl) :
  PE X (.Call (.Name x p) (e::es) [] ar) (tD X (qP n F fa)):=by
 intro a s σ H Q I h;obtain⟨P,α,ak,S,r,v,q⟩:=h;refine Kk (jV I z hm ?_ N);refine Qz (h₀:=X.base) I.ok.mod.kin d (bo (wZ t I r v q ar) λus b ⟨i,H1,m,w,ds,S1,O,T,g,o,y,E,l,U⟩=>⟨O.kIn,?_⟩) B Y;obtain⟨j,J⟩:=l9 (ak:=ak) (S:=S) U;exact aL G L c A O g T y j (qT.base E l J)
end
noncomputable abbrev dZ:Aa Ac:=[.type "ValueError",.type "Exception",.type "BaseException",.type "object"]
noncomputable def EU:Ac->As
 |.str _ _=>true
 |_=>false
def Q3 (K:Ai)(N:Af):As:=match Op N K with
 |some o=>match o.data with
  |.dict Y _=>Y.toList.all λe=>EU e.key
  |_=>false
 |none=>false
def kB (K:Ai)(N:Af):As:=Q3 K N&&decide (Dr K N "__init__" = Ab none)
theorem J2 {K:Ai}{N:Af}(h1:Q3 K N=true):Wc K N=true:=by
 unfold Q3 at h1;unfold Wc;cases e:Op N K with
 |none=>rw[e] at h1;cases h1
 |some o =>
  rw[e] at h1;obtain⟨G,od,J,sl⟩:=o;cases J with
  |dict Y U =>
   simp only at h1 ⊢;rw[Tn] at h1;refine Eq.trans (congrArg (λf=>Array.all Y f) (funext λe=>?_)) h1;cases e.key <;> rfl
  |_=>cases h1
theorem wX {K:Ai}{N:Af}(h:kB K N=true):Wc K N=true/\Dr K N "__init__" = Ab none:=by
 unfold kB at h;rw[Bd,Cc] at h;exact⟨J2 h.1,h.2⟩
def dN (K:Ai)(C:Af)(f:Ac->Zf->Aw (Ak Ac)->As):As:=match Op C K with
 |some o=>(match o.data with|.cls Y=>f o.cls Y o.slots|_=>false)
 |none=>false
theorem rN {K:Ai}{f:Ac->Zf->Aw (Ak Ac)->As}(h:dN K C f=true):∃ J od Y sl,Op C K=Ab ⟨J,od,.cls Y,sl⟩/\f J Y sl=true:=by
 unfold dN at h;cases e:Op C K with
 |none=>rw[e] at h;exact DL h
 |some o =>
  rw[e] at h;obtain⟨J,od,U,sl⟩:=o;cases U with
  |cls Y=>exact⟨J,od,Y,sl,rfl,h⟩
  |_=>exact DL h
def bR (K:Ai)(C A:Af):As:=dN K C λJ Y sl=>dN K A λ_ ca _=>decide (J=.type "type")&&(decide (Y.mro=.ref C::.ref A::dZ)&&(!Y.hasDel&&(kB K Y.ns&&(kB K ca.ns&&(decide (sl.toList.length=6)&&decide (sl.toList[4]? = Ab (Ab (.builtin "ValueError.__new__"))))))))
inductive uk (h:Bn)(C:Af):Prop
 |mk (nm q:An) (N:Af) (bs bm:ah) (hdct:As) (sn:Aa An) (sub:ah) (ab:As) (col:Ak As) (dd:Ak Af) (k0 k1 k2 k3 k5:Ak Ac) (mN:ai) (hC:h.get? C=Ab (excClassObj nm q C N bs bm hdct sn sub ab col dd k0 k1 k2 k3 k5 "ValueError.__new__")) (hN:h.Ns N mN) (hni:mN "__init__" = none) (T:OwnTail h dZ bm):uk h C
theorem nG {β:Type}{l:Aa β}{n:Ah}(h:l.length=n+1):∃ a t,l=a::t/\t.length=n:=by
 cases l with
 |nil=>exact Nat.noConfusion h
 |cons a t=>exact⟨a,t,rfl,Nat.succ.inj h⟩
theorem zw {β:Type}{l:Aa β}(h:l.length=6):∃ a b c d e f,l=[a,b,c,d,e,f]:=by
 obtain⟨a,t,J,h⟩:=nG h;obtain⟨b,E,N,h⟩:=nG h;obtain⟨c,L,G,h⟩:=nG h;obtain⟨d,T,Y,h⟩:=nG h;obtain⟨e,B,U,h⟩:=nG h;obtain⟨f,I,O,h⟩:=nG h;exact⟨a,b,c,d,e,f,by rw[J,N,G,Y,U,O,Ke.mp h]⟩
theorem LV {Y:Zf}{J:ah}{k0 k1 k2 k3 N k5:Ak Ac}{n:Eg}(hm:Y.mro=.ref C::J)(G:Y.hasDel=false)(hs:sl.toList=[k0,k1,k2,k3,N,k5])(U:sl.toList[4]? = Ab (Ab (.builtin n))) :
  (⟨.type "type",od,.cls Y,sl⟩:Ch)=excClassObj Y.name Y.qualname C Y.ns Y.bases J Y.hasDict Y.slotNames Y.subclasses Y.abstract Y.collection od k0 k1 k2 k3 k5 n:=by
 rw[hs] at U;cases U;cases Y;cases sl;cases hm;cases G;cases hs;rfl
theorem GY {K:Ai}{h:Bn}{A:Af}{Y:Zf}(J:K.In h)(e:Op C K=Ab ⟨.type "type",od,.cls Y,sl⟩)(h2:Y.mro=.ref C::.ref A::dZ)(h3:Y.hasDel=false)(U:kB K Y.ns=true)(L:sl.toList.length=6)(O:sl.toList[4]? = Ab (Ab (.builtin "ValueError.__new__")))(T:OwnTail h dZ (.ref A::dZ)):uk h C:=by
 obtain⟨N,H,E,B,x,G,I⟩:=zw L;exact⟨_,_,_,_,_,_,_,_,_,_,_,N,H,E,B,G,_,(J _ _ e).trans (congrArg Ab (LV h2 h3 I O)),.of_isNs (Yd J (wX U).1),Sy J (wX U).1 (wX U).2,T⟩
theorem GZ {K:Ai}{h:Bn}{A:Af}(Y:K.In h)(z:bR K C A=true):uk h C:=by
 obtain⟨E,od,I,sl,e,z⟩:=rN z;obtain⟨H,w,ca,T,L,z⟩:=rN z;have G:=Fk.mp z;have O:=Fk.mp G.2;have N:=Fk.mp O.2;have B:=Fk.mp N.2;have J:=Fk.mp B.2;have U:=Fk.mp J.2;rw[Bz G.1] at e;exact GY Y e (Bz O.1) (Nw _▸N.1) B.1 (Bz U.1) (Bz U.2) (.own (Y _ _ L) (.of_isNs (Yd Y (wX J.1).1)) (Sy Y (wX J.1).1 (wX J.1).2) .base)
section
variable {X:Cx}{ar:En}{fa:DA}
def yT (c:Ac)(fa:DA):DS:=λY S=>(fa Y S).toS Y λJ S1=>if J.length<=bb then .ex c .non Y S1 else .bad
inductive sv (X:Cx)(pins:aa)(σ : _L.St)(env:qE)(P:Hp)(α : Aa Af)(us:ah)(s1:Ag)(k:Aa D->aq->jh)(E:Ends):Prop
 |mk (vs:Aa V) (H1 P1:Hp) (α1:ag) (ds:Aa D) (S1:aq) (I:Inv X pins σ H1 s1) (rv:qJ vs us) (r:bh X.K H1 P1 α1 S1) (re:z9 X.K P1 α1 σ env) (rp:qD X.K P1 α1 ds vs) (e1:qF P P1) (e2:α<+:α1) (q:zD X P1 α1 (k ds S1) E):sv X pins σ env P α us s1 k E
theorem G9 {es:Aa Bp}{k:Aa D->aq->jh}{aj:aa}{s:Ag}{σ:_L.St}{H P:Hp}{α:ag}{ak:qE}{D:Ends}(L:PA X es (jy X fa))(I:Inv X aj σ H s)(r:bh X.K H P α S)
  (l:z9 X.K P α σ ak) (j:zD X P α ((fa ak S).toS ak k) D) (ar:En) :
  Ap (Au X.prog X.w) X.A (spliced (Gp ar (Bl es X.env))) (λus N=>sv X aj σ ak P α us N k D) X.xe s:=by
 have U:qG X P α ((fa ak S).bind λd S=>.ok d S) λd S=>zD X P α (k d S) D:=by
  have:=wM j;cases q:fa ak S <;> rw[q] at this <;> exact this
 exact bo (wZ L I r l U ar) λu N ⟨A,o,B,Y,z,S1,E,T,y,J,w,G,O,q⟩=>⟨A,o,B,Y,z,S1,E,T,y,J,w,G,O,zD.base G O q⟩
theorem YV {x:An}{c:Af}{Y:Bp}{qI:Aa Bp}{np O:En}(hc:X.calm=true)(y:ji X)(i:Gl X x)(hm:X.mg x=Ab (.ref C))(hx:bR X.K C c=true)(f:PA X (Y::qI) (jy X fa))
  (A:(x == ("__debug__" : An))=false:=by decide) (G:Bl (Y::qI) X.env=(false,eval Y X.env)::Bl qI X.env:=by rfl) (j:(Gp O (Bl qI X.env)).any (·.1)=false:=by rfl) :
  PS X (.Raise (Ab (.Call (.Name x np) (Y::qI) [] O)) none ar) (im X (yT (.ref C) fa)):=by
 intro aj s σ H D I h;obtain⟨P,α,ak,S,r,g,a⟩:=h;obtain⟨nm,qn,N,bs,tl,hdct,sn,sub,ab,col,dd,k0,k1,k2,k3,k5,mN,n,l,B,T⟩:=GZ I.mod.kin hx;refine wpAny_Raise_call_subT (C:=C) (nm:=nm) (q:=qn) (N:=N) (bs:=bs) (bm:=tl) (hdct:=hdct) (sn:=sn) (sub:=sub) (ab:=ab) (col:=col) (dd:=dd) (k0:=k0) (k1:=k1) (k2:=k2) (k3:=k3) (k5:=k5)
  Rk (mN:=mN) (T.hasType Rk.hasBase) (I.ok.hd hc) (by rw[G];show (false||(Gp O (Bl qI X.env)).any (·.1))=false;rw[j];rfl) B (jV I i hm ⟨rfl,?_⟩ A)
 have run:=G9 f I r g a O;rw[G] at run ⊢;refine Pc (bo run λus v ⟨vs,H1,P1,L,k,S1,J,m,r1,zb,b,e1,e2,q⟩=>?_);have d:us.length=k.length:=by rw[b.length,m.length]
 by_cases w:k.length<=bb
 .rw[Ax w] at q
  refine⟨rfl,by rw[d,<- zB];exact w,J.bk _ _ n,l.keeps J.bk,T.keeps J.bk,λh' e hm=>?_⟩
  obtain⟨t,G,_,_⟩:=hm.there;refine q _ _ ⟨e,aj,σ,H1,P1,L,rfl,J.kept (t':=v.toks) hm.keeps,r1,qF.refl _,Bu _,y,none,.new _ t G rfl rfl rfl (λE=>?_) (λz=>?_),trivial⟩
  .obtain⟨o1,U⟩:=pf.there J y E
   rw[hm.new] at U;cases U
  .obtain⟨_,o,U,_⟩:=J.stack.mem z
   rw[hm.new] at U;cases U
 .rw[Bb w] at q;exact Ao q
end
section
variable {X:Cx}{aj:aa}{σ : _L.St}{H:Hp}{s:Ag}
theorem VL {M:Kq}{A:Bk}{E:ae}{c:Ac}{e:Af}{Q:Pa->Ag->Prop}(I:Inv X aj σ H s)(F:ji X)(w:A.frames=Ab X.stack)(f:jx X aj H c dd e s.heap)
  (G:∀ h' B,pi B X.stack e c dd .none h'->Inv X aj σ H { s with heap:=h' } -> Cv X aj H B h'->Q () { s with heap:=h' }) :
  Ap M A (Sd (.ref e) X.env) (λ_ Y=>Ap M A (Vl (.ref e) none) Q E Y) E s:=
 JY I F w f λj B k L z=>oA (s:={ s with heap:=j }) k λT U O =>
  let ⟨N,J⟩:=Inv.fly I F L U.1 (z.trans O)
  G T B U N J
theorem cJ {B:Bn}{c:Ac}{e:Af}(I:Inv X aj σ H s)(x:pi B X.stack e c dd fl s.heap)(E:Cv X aj H B s.heap):¬ pf X aj H e/\e ∉ gx X.stack/\∃ Y vs,s.heap.get? e=Ab Y/\Y.cls=c/\Y.dict=dd/\Y.data=.fields vs:=by
 obtain⟨k,j,g,O,vs,T,l,y,J,w,U,G,_⟩:=x;have L:e ∉ gx X.stack:=λz=>by
  obtain⟨_,o,N,A⟩:=I.stack.mem z;rw[J] at N;cases N;exact A vs G
 refine⟨λz=>?_,L,O,vs,J,w,U,G⟩;have q:=E e O J z L;rw[j] at q;cases q
theorem Inv.track {e:Af}{φ:Bn->Prop}(I:Inv X aj σ H s)(F:ji X)(J:¬ pf X aj H e)(w:e ∉ gx X.stack)(g:∀ T,zG X.prog X.w T s.heap e (.ext φ)) : Inv X aj σ (cc H e (.ext φ)) s:=by
 have Y:H e=none:=by
  cases q:H e with
  |none=>rfl
  |some u=>exact absurd (.inr (.inl (by rw[q];intro z;cases z))) J
 have c:e≠X.env.locals:=λz=>w (F.mem.mpr (.inl z));have y:∀ b o,X.s₀.heap.get? b=Ab o->b≠e:=λb o q z=>J (.inl ⟨o,z▸q⟩);refine⟨I.ok,I.os,I.bare,⟨I.base.keep,I.base.slot,λb o q n E=>?_,I.base.there,λb U q=>?_,λb o U q=>?_,λb O q=>?_⟩,I.loc,I.cell,?_,λx k q=>?_,λp G=>?_,λb u q=>?_,I.len⟩
 .rw[qN (y b o q)];exact I.base.free b o q n E
 .have z:=I.base.tups b U q
  rw[qN (qX z Y)];exact z
 .have z:=I.base.frzs b o U q
  rw[qN (qX z Y)];exact z
 .obtain⟨m,z⟩:=I.base.tbls b O q
  exact⟨m,by rw[qN (qX z Y)];exact z⟩
 .rw[qN (Fm c)];exact I.free
 .have z:k≠e:=λz=>J (.inr (.inr (.inr ⟨x,z▸q⟩)))
  rw[qN z];exact I.freeC x k q
 .obtain⟨B,j,L,l,A⟩:=I.pin p G
  have z:p.1≠e:=λz=>J (.inr (.inr (.inl ⟨p,G,z⟩)));exact⟨B,by rw[qN z];exact j,L,l,A⟩
 .by_cases N:b=e
  .subst N
   rw[zK] at q;cases q;exact g _
  .rw[qN N] at q
   exact(I.hok b u q).stay (λ_ _ _ z=>z) (λk z=>by rw[qN (qX z Y)];exact z) λk U z=>by rw[qN (qX z Y)];exact z
theorem Inv.gone {i t':Ah}{n:An}{h':Bn}(I:Inv X aj σ H s)(f:X.N.Nodup)(hi:X.N[i]? = Ab n){m:ai}{v:Ak Ac}(h:∀ (j:Ah) (y:An) (w:V),X.N[j]? = Ab y->σ[j]? = Ab (Ab w)->qv X.env.scope y->∃ u,qK w u/\MG X.env s.heap m y u)(hv:h'.Ns X.env.locals λy=>if y=n then v else m y)(N:Gz X.env.locals s.heap h') :
  Inv X aj (σ.set i none) H { s with heap:=h',toks:=t' }:=by
 have Y:∀ b o,X.s₀.heap.get? b=Ab o->b≠X.env.locals:=λb o e=>Cp (Az (Bh e) I.ok.above);have U:∀ b o,b≠X.env.locals->s.heap.get? b=Ab o->h'.get? b=Ab o:=λb o n e=>(N.2 b n).trans e;refine⟨I.ok,I.os,I.bare,⟨λb o e n O G=>U b o (Y b o e) (I.base.keep b o e n O G),λb o e n O G=>?_,I.base.free,λb o e G=>?_,I.base.tups,I.base.frzs,I.base.tbls⟩,⟨_,hv,λj y w L J g=>?_⟩,λx c e=>?_,I.free,I.freeC,λp a=>?_,λb u q=>?_,by simpa using I.len⟩
 .obtain⟨sl,q⟩:=I.base.slot b o e n O G
  exact⟨sl,U b _ (Y b o e) q⟩
 .obtain⟨T,q⟩:=I.base.there b o e G
  exact⟨T,U b T (Y b o e) q⟩
 .have B:i≠j:=λz=>by
   subst z;by_cases t:i<σ.length
   .rw[Fn t] at J;cases J
   .rw[Oo (by simp;fin2)] at J;cases J
  rw[Er B] at J;obtain⟨u,r,l⟩:=h j y w L J g;refine⟨u,r,?_⟩;rcases l with⟨k,z⟩|⟨k,c,z,zc⟩
  .refine .inl ⟨k,?_⟩
   have:y≠n:=λz=>B (fD f hi (z▸L));simp[this,z]
  .exact .inr ⟨k,c,z,zc.sameBut N (I.cne y c z)⟩
 .obtain⟨w,z⟩:=I.cell x c e
  exact⟨w,z.sameBut N (I.cne x c e)⟩
 .obtain⟨e,n,E,A,d⟩:=I.pin p a
  exact⟨U p.1 p.2 E e,n,E,A,d⟩
 .refine(I.hok b u q).stay (λc w hc z=>U c w ?_ z) (λ_ z=>z) λ_ _ z=>z
  rintro rfl;rcases hc with rfl|hc
  .rw[I.free] at q;cases q
  .rw[I.free] at hc;cases hc
theorem cK {A:Bk}{E:ae}{i:Ah}{n:An}{J:En}{Q:Pa->Ag->Prop}(I:Inv X aj σ H s)(O:X.N.Nodup)(hi:X.N[i]? = Ab n)(Y:X.env.scope.names.lookup n=Ab .local)
  (h:∀ s',Inv X aj (σ.set i none) H s'->Q () s'):Ap M A (do Xu X.env n .none;unbindBehindTheSuite X.env n J) Q E s:=by
 obtain⟨m,U,G⟩:=id I.loc;exact wpAny_nameGoes_keeps Y U (by rw[I.ok.kind];rfl) λB v hv N=>h _ (Inv.gone I O hi G hv N)
end
noncomputable abbrev Cx.tryIn (X:Cx)(E:ae)(pn:aa):Cx:={ X with xe:=E,pn:=pn }
abbrev Cx.suite (X:Cx)(e:Af):Cx:=Cx.re X (X.A.mark (Ab (.ref e))) false λ_ _=>Fb
noncomputable def tR (c:Ac)(x:D):D:=match x with
 |.exl _ _ _=>x
 |_=>.exn c
def fJ (N i:Ah)(cs:ah)(f g:DS):DS:=λG S=>match f G S with
 |.ex c x U S1=>if cs.contains c then (match g ((Di N none).set i (Ab (tR c x))) S1 with
   |.rt d J=>.rt d J
   |.nx Y J=>.nx (Y.set i none) J
   |_=>.bad) else .bad
 |o=>o
section
variable {X:Cx}{aj:aa}{σ : _L.St}{H:Hp}{s:Ag}
theorem Inv.inTry (I:Inv X aj σ H s)(E:ae):Inv (Cx.tryIn X E (X.pn++aj)) [] σ H s:=
 ⟨⟨I.ok.mod,I.ok.kind,I.ok.glob,I.ok.blt,I.ok.above,I.ok.inj,I.ok.has,I.ok.cab,I.ok.hd,I.ok.frames,I.ok.stk,I.ok.exf,I.ok.bs,I.ok.bsz,I.ok.noex,I.ok.exfs,I.ok.funs,I.ok.frf⟩,I.os,I.bare,I.base,I.loc,I.cell,I.free,I.freeC,λp Y=>I.pin p (by simpa using Y),I.hok,I.len⟩
theorem Inv.outTry {E:ae}(I:Inv (Cx.tryIn X E (X.pn++aj)) ge σ H s):Inv X aj σ H s:=
 ⟨⟨I.ok.mod,I.ok.kind,I.ok.glob,I.ok.blt,I.ok.above,I.ok.inj,I.ok.has,I.ok.cab,I.ok.hd,I.ok.frames,I.ok.stk,I.ok.exf,I.ok.bs,I.ok.bsz,I.ok.noex,I.ok.exfs,I.ok.funs,I.ok.frf⟩,I.os,I.bare,I.base,I.loc,I.cell,I.free,I.freeC,λp Y=>I.pin p (Dq _ Y),I.hok,I.len⟩
theorem SP.outTry {E:ae}{D:Ends}{f:Flow}{s':Ag}(h:SP (Cx.tryIn X E (X.pn++aj)) [] D f s'):SP X aj D f s':=by
 cases f with
 |next=>obtain⟨Y,J,I,q⟩:=h;exact⟨Y,J,Inv.outTry I,q⟩
 |brk=>obtain⟨Y,J,I,q⟩:=h;exact⟨Y,J,Inv.outTry I,q⟩
 |cont=>obtain⟨Y,J,I,q⟩:=h;exact⟨Y,J,Inv.outTry I,q⟩
 |ret u=>obtain⟨v,Y,J,I,r,q⟩:=h;exact⟨v,Y,J,Inv.outTry I,r,q⟩
theorem jx.outTry {E:ae}{c:Ac}{e:Af}{h:Bn}(f:jx (Cx.tryIn X E (X.pn++aj)) ge H c dd e h):jx X aj H c dd e h:=by
 have Y:∀ b,pf X aj H b->pf (Cx.tryIn X E (X.pn++aj)) ge H b:=λb o=>by
  rcases o with o|o|⟨p,O,z⟩|o
  .exact .inl o
  .exact .inr (.inl o)
  .exact .inr (.inr (.inl ⟨p,Dq _ O,z⟩))
  .exact .inr (.inr (.inr o))
 cases f with
 |new I t N A J U L T=>exact .new I t N A J U (λz=>L (Y e z)) T
 |fly B fl G=>exact .fly B fl λb o e q n=>G b o e (Y b q) n
theorem WC {K:Ai}{P:Hp}{α:ag}{n:Ah}(h:σ.length=n):z9 K P α σ (Di n none):=by
 refine⟨by simp[h],λi d e=>?_⟩
 rw[Nh] at e
 split at e <;> cases e
theorem z9.unset {K:Ai}{P:Hp}{α:ag}{ak:qE}(J:z9 K P α σ ak)(i:Ah):z9 K P α (σ.set i none) (ak.set i none):=by
 refine⟨by simp[J.1],λj d e=>?_⟩
 by_cases Y:i=j
 .subst Y
  by_cases U:i<ak.length
  .rw[Fn U] at e;cases e
  .rw[Oo (by simp;fin2)] at e;cases e
 .rw[Er Y] at e ⊢
  exact J.2 j d e
end
section
variable {X:Cx}{ar:En}{f g:DS}
theorem P7 {K:Ai}{P:Hp}{α:ag}{c:Ac}{x:D}{e:Af}(v:uz K P α c x dd):∃ φ,(∀ (U:Be) (w:Br) (H:Hp) (h:Bn) Y vs,h.get? e=Ab Y->Y.cls=c->Y.dict=dd->Y.data=.fields vs->zG U w H h e (.ext φ)) /\ ∀ J,qF P J->J e=Ab (.ext φ) -> au K J α (tR c x) (.ref e):=by
 have z:∃ φ,(∀ (U:Be) (w:Br) (H:Hp) (h:Bn) Y vs,h.get? e=Ab Y->Y.cls=c->Y.dict=dd->Y.data=.fields vs->zG U w H h e (.ext φ)) /\ ∀ J,qF P J->J e=Ab (.ext φ) -> au K J α (.exn c) (.ref e):=
  ⟨_,λU w H h Y vs N L _ _=>(⟨⟨Y,N,L⟩,⟨Y,N⟩,λr j ⟨o,O,G⟩ k=>⟨o,k o O,G⟩⟩:zG U w H h e (NM e c)),λJ s q=>by simp only[au];exact⟨e,rfl,q⟩⟩
 cases x with
 |exl T I d =>
  obtain⟨rfl,E,vs,rfl,q,l,A⟩:=v;refine⟨_,λU w H h Y vs N L B y=>(⟨⟨Y,N,L,B,vs,y⟩,⟨Y,N⟩,λr j ⟨o,O,G⟩ k=>⟨o,k o O,G⟩⟩:zG U w H h e (NL e T E)),λJ s G=>?_⟩;show au K J α (.exl T I d) (.ref e);simp only[au];exact⟨e,E,vs,rfl,G,s _ _ q,l,qD.mono s (Bu _) _ _ A⟩
 |_=>exact z
theorem NW {aj:aa}{D:Ends}{c:Ac}{a:_D.D}{e C0:Af}{s':Ag}{σ:_L.St}{H P:Hp}{α:ag}{x n:An}{i:Ah}{T:Ey}{U:Aa Ey}{m:En}
  (F:ji X) (hg:Gl X x) (hm:X.mg x=Ab (.ref C0)) (zs:∀ c∈cs,Ju X.K c (.ref C0)=Ab true) (hN:X.N.Nodup) (hi:X.N[i]? = Ab n) (N:X.env.scope.names.lookup n=Ab .local)
  (hs:∀ e,il (Cx.suite X e) (T::U) (im (Cx.suite X e) g)) (hc:cs.contains c=true) (I:Inv X aj σ H s') (r:bh X.K H P α S1) (fl:jx X aj H c dd e s'.heap) (ln:uz X.K P α c a dd)
  (J:zD X P α (match g ((Di X.N.length none).set i (Ab (tR c a))) S1 with|.rt d L=>.rt d L|.nx Y L=>.nx (Y.set i none) L|_=>.bad) D) (z3:(x == ("__debug__" : An))=false) :
  Ap (Au X.prog X.w) X.A (Sd (.ref e) X.env) (λ_ k=>Ap (Au X.prog X.w) X.A (Vl (.ref e) none) (λ_ w =>
   Ap (Au X.prog X.w) X.A (handleBy (.ref e) X.env [.ExceptHandler (Ab (.Name x np)) (Ab n) (T::U) m]) (SP X aj D) X.xe w) X.xe k) X.xe s':=by
 have j:Ju X.K c (.ref C0)=Ab true:=zs c (by simpa using hc)
 have Z:∀ {σ : _L.St} {H:Hp} {s:Ag},Inv X aj σ H s->Inv (Cx.suite X e) aj σ H s:=λI=>Inv.re I _ false _ I.ok.frames λz=>nomatch z;refine VL I F I.ok.frames fl λh5 B f5 b l=>?_;refine wpAny_handleBy_cons (codeAny_handlers_test (A:=X.A.mark (Ab (.ref e))) (jV (X:=Cx.suite X e) (Z b) hg hm ?_ z3)) (by intro q;cases q)
 obtain⟨z8,z5,z7,z6,zb,zl,_,_⟩:=cJ b f5 l;refine(PySem.W.exm_one b.kIn (by subst zl;exact(PySem.W.Looks.ld zb).andThen .now) j).at ?_
 refine codeAny_handlers_suite_as ?_;refine oA (s:={ s' with heap:=h5 }) f5 λh6 f6 u6=>?_
 obtain⟨I6,zy⟩:=Inv.fly b F l f6.1 u6;obtain⟨y,z1,yr,ys,h,z2,t,zx⟩:=cJ I6 f6 zy;obtain⟨φ,ho,hr⟩:=P7 (e:=e) ln;have J6:Inv X aj σ (cc H e (.ext φ)) { s' with heap:=h6 }:=Inv.track I6 F y z1 λ_=>ho _ _ _ _ _ _ h z2 t zx
 have hn:H e=none:=by
  cases q:H e with
  |none=>rfl
  |some u=>exact absurd (.inr (.inl (by rw[q];intro z;cases z))) y
 obtain⟨r1,sP⟩:=r.pure (o:=.ext φ) hn;refine uO (X:=Cx.suite X e) (v:=.ref e) (Z J6) hN hi (.inl N) rfl (λs7 I7=>?_) (.inr N);have z4:z9 X.K (cc P e (.ext φ)) α (σ.set i (Ab (.ref e))) ((Di X.N.length none).set i (Ab (tR c a))):=(WC I.len).set i (hr _ sP zK);refine Hw (hs e aj s7 _ _ { nx:=λO G=>D.nx (O.set i none) G,rt:=D.rt } I7 ⟨_,α,_,S1,r1,z4,?_⟩) (λfl s8 q=>?_) λ_ _ z=>Ao z
 .cases q:g ((Di X.N.length none).set i (Ab (tR c a))) S1 with
  |rt d L=>rw[q] at J;exact λv G P' E r' e1 e2 rp=>J v G P' E r' (sP.trans e1) e2 rp
  |nx Y L=>rw[q] at J;exact λO G P' E r' zc e1 e2=>J _ G P' E r' (z9.unset zc i) (sP.trans e1) e2
  |bk Y L=>rw[q] at J;exact Ao J
  |ct Y L=>rw[q] at J;exact Ao J
  |ex c' x' Y L=>rw[q] at J;exact Ao J
  |bad=>rw[q] at J;exact Ao J
 .cases fl with
  |next =>
   obtain⟨O,G,I8,q⟩:=q;exact cK (Inv.unre I8 I.ok.frames I.ok.hd) hN hi N λs9 I9=>⟨_,G,I9,q⟩
  |brk =>
   obtain⟨_,_,_,q⟩:=q;exact Ao q
  |cont =>
   obtain⟨_,_,_,q⟩:=q;exact Ao q
  |ret u =>
   obtain⟨v,O,G,I8,rv,q⟩:=q;exact cK (Inv.unre I8 I.ok.frames I.ok.hd) hN hi N λs9 I9=>⟨v,_,G,I9,rv,q⟩
set_option tactic.hygienic true in
theorem NC {x n:An}{t:Af}{i:Ah}{G:Ey}{J:Aa Ey}{np N:En}(F:ji X)(hb:∀ E v,Vh (Au X.prog X.w) X.A X.env E->il (Cx.tryIn X E v) cx (im (Cx.tryIn X E v) f))
  (hs:∀ e,il (Cx.suite X e) (G::J) (im (Cx.suite X e) g)) (hg:Gl X x) (hm:X.mg x=Ab (.ref t)) (w:∀ c∈cs,Ju X.K c (.ref t)=Ab true) (hN:X.N.Nodup) (hi:X.N[i]? = Ab n:=by rfl) (j:X.env.scope.names.lookup n=Ab .local:=by rfl)
  (y:(x == ("__debug__" : An))=false:=by decide):PS X (.Try cx [.ExceptHandler (Ab (.Name x np)) (Ab n) (G::J) N] [] [] ar) (im X (fJ X.N.length i cs f g)):=by
 intro l s σ H D I h;obtain⟨P,α,o,S,r,re,Y⟩:=h;refine wpAny_Try_except ?_;refine Hw (hb _ (X.pn++l) (PassesOwn.looking (K:=λe O=>Ap (Au X.prog X.w) X.A (Vl e none) (λ_ B=>Ap (Au X.prog X.w) X.A (handleBy e X.env [.ExceptHandler (Ab (.Name x np)) (Ab n) (G::J) N]) (SP X l D) X.xe B) X.xe O) (E₁:=X.xe))
  [] s σ H D (Inv.inTry I _) ⟨P,α,o,S,r,re,?_⟩) (λfl s1 q=>?_) λ_ _ z=>z
 .unfold fJ at Y
  cases q:f o S with
  |rt d L=>rw[q] at Y;exact Y
  |nx U L=>rw[q] at Y;exact Y
  |bk U L=>rw[q] at Y;exact Y
  |ct U L=>rw[q] at Y;exact Y
  |bad=>rw[q] at Y;exact Y
  |ex c x' U L =>
   rw[q] at Y;dsimp only at Y;intro u s' k;obtain⟨e,A,zb,H',P',zc,rfl,m,b,a,e2,F',dd,fl,ln⟩:=k
   split at Y
   .rename_i hc
    exact NW F hg hm w hN hi j hs hc (Inv.outTry m) b (jx.outTry fl) ln (zD.base a e2 Y) y
   .exact Ao Y
 .have T:=SP.outTry q
  cases fl with
  |next=>exact Pg T
  |brk=>exact T
  |cont=>exact T
  |ret u=>exact T
end
end _D
namespace _D
open _L PySem.W
variable {R:Xv->Ag->Prop}
structure ow (K:Ai)(C:Af):Prop where
 ga:findIn K (.ref C) "__getattribute__" = Ab (Ab (.builtin "BaseException.__getattribute__"))
 hk:findIn K (.ref C) "__getattr__" = Ab none
 cl:findIn K (.ref C) "__class__" = Ab (Ab (.builtin "object.__class__"))
 sp:specialIn K (.builtin "object.__class__") "__get__" = Ab (Ab (.builtin "getset_descriptor.__get__"))
 tk:takesIn K (.builtin "object.__class__")=Ab true
 mo:mroIn K C (.type "object")=Ab true
 mb:mroIn K C (.type "BaseException")=Ab true
 isC:(clsIn K C).isSome=true
section
variable {prog:Be}{w:Br}{A:Bk}{E:ae}{s:Ag}{K:Ai}{x C:Af}
abbrev v9 (x C:Af)(h:Bn):Prop:=∃ Q,h.get? x=Ab Q/\Q.cls=.ref C
theorem v9.type {M:Kq}{h:Bn}(I:v9 x C h):Looks M h (typeOf (.ref x)) (.ref C):=by
 obtain⟨Q,e,c⟩:=I;rw[<- c];exact(Looks.ld e).andThen .now
theorem V1 {M:Kq}{h:Bn}(X:K.In h)(Z:ow K C):Looks M h (AaW (.ref x) (.ref C) "__class__") (.bind (.builtin "getset_descriptor.__get__") (.builtin "object.__class__")):=by
 have U:=Yl (M:=M) X Z.cl;have J:Looks M h (AaV (Ab (.builtin "object.__class__"))) (Ab (.builtin "getset_descriptor.__get__")):=looks_specialIn X Z.sp;have Q:=looks_takesIn (M:=M) X Z.tk;have Y:Looks M h (Ym (Ab (.builtin "object.__class__")) (Ab (.builtin "getset_descriptor.__get__"))) (Ab (.builtin "getset_descriptor.__get__",.builtin "object.__class__")):=Q.andThen .now;exact U.andThen (J.andThen (Y.andThen (Looks.tag .now)))
theorem P8 {tp:Ac}(X:K.In s.heap)(Z:ow K C)(I:v9 x C s.heap)(h:R (.ok (.ret (.ref C))) s) :
  Ja (Au prog w) A (.call (.builtin "getset_descriptor.__get__") ⟨[.builtin "object.__class__",.ref x,tp],[]⟩) R s:=by
 have LT:=v9.type (M:=Au prog w) I;have Q:=looks_mroIn (M:=Au prog w) X Z.mo;cases s;refine Pd KF.slot_gs.plain KF.entry_gs (KF.slot_gs.check _ _ _ _ _ _ _ _ KF.type_class (KF.args_gs _ _ _) ?_);unfold Jo.«getset_descriptor.__get__» Yn;rw[dga_obj];refine Ad (Al ?_);unfold Xf Uh Ur isInstance;simp only[KF.owner_class]
 repeat lk
 refine⟨Ye _ (by decide +kernel),Jm KF.entry_class ?_⟩
 unfold Jo.«object.__class__» shownTypeOf
 repeat lk
 exact h
theorem NN {Y:Qc}(X:K.In s.heap)(Z:ow K C)(I:v9 x C s.heap)(h:R (.ok (.ret (.ref C))) s) :
  Ja (Au prog w) A (.call (.builtin "BaseException.__getattribute__") ⟨[.ref x,.str "__class__" Y],[]⟩) R s:=by
 have LT:=v9.type (M:=Au prog w) I;have N:=looks_mroIn (M:=Au prog w) X Z.mb;have G:=V1 (M:=Au prog w) (x:=x) X Z;have O:builtinKind "BaseException.__getattribute__" = Ab .slot:=by decide +kernel
 have U:splitId "BaseException.__getattribute__" = Ab ("BaseException","__getattribute__"):=by decide +kernel
 have J:∀ (A:Bk) (Q:Pa->Ag->Prop) (E:ae),Q () s->Ap (Au prog w) A (To "BaseException.__getattribute__" ⟨[.ref x,.str "__class__" Y],[]⟩) Q E s:=by
  intro A Q E B;have L:=PySem.F.args_bexc_ga (.ref x) (.str "__class__" Y);simp only[To,O,U];unfold isInstance;refine Ad (Ad (LT.here (N.here ?_)))
  repeat (any_goals (first|assumption|wp_step))
 refine Pd T0.ga.plain PySem.F.entry_bexc_ga (J _ _ _ ?_);cases s;unfold Jo.«object.__getattribute__»;refine Ad (Rl (show slotArgs "__getattribute__" 1 ⟨[.ref x,.str "__class__" Y],[]⟩=pure (.ref x,[.str "__class__" Y]) from by kernel_rfl) ?_)
 refine Ad (Al (Ad (LT.at (Ad (G.at ?_)))));show Ap _ _ (Se _ _ _ _) _ _ _;unfold Se;dsimp only;exact Ad (Ef (Tl (P8 X Z I (Al h))))
theorem ZH {Q:Ak Ac->Ag->Prop}(X:K.In s.heap)(Z:ow K C)(I:v9 x C s.heap)(h:Q (Ab (.ref C)) { s with toks:=s.toks+1 }) : Ap (Au prog w) A (getAttr? (.ref x) "__class__") Q E s:=by
 have LT:=v9.type (M:=Au prog w) I;have U:=Yl (M:=Au prog w) X Z.ga;have Y:=Yl (M:=Au prog w) X Z.hk;unfold getAttr? getAttrBy? getAttrBy;cases s;refine Ad (wpAny_mkText (Ad (Kx (Ef (Ad (LT.at (Ad (U.at ?_))))))));dsimp only;have J:(Xg "BaseException.__getattribute__" == Xg "object.__getattribute__")=false:=by decide +kernel
 rw[J,Ls,Bb Gc];unfold getAttrByItsOwn hookBefore;rw[Ax (show onTheHeap (.ref C)=true from rfl)]
 refine Ad (Y.at (Ad (Kx (Ef ?_))));unfold callGetattribute;rw[Hx,Bb Gc];unfold boundAndCalled;refine Ad (Rl (T0.ga.bind (.ref x)) ?_);refine Tl (NN X Z I ?_);show Ap _ _ (handedOut (.ref C)) _ _ _;exact Al (Al h)
set_option tactic.hygienic true in
theorem rA (Z:ow K C):KitX K (.ref x) (.ref C) (v9 x C) where
 ty:=λ_ _ _ I=>I.type
 it:=λM h X _=>by
  have z:=Z.isC;unfold clsIn at z
  split at z
  .rename_i Q
   intro G O H T k q;unfold isType loadHead;exact Ad (wpAny_loadPart (k _ _ (X _ _ Q)) (Al q))
  .cases z
 ne:=λh J L N n B X Y=>by
  have z:=Z.isC;unfold clsIn at z
  split at z
  .rename_i Q
   cases U:(Dk C == Dk J) with
   |false=>rfl
   |true =>
    obtain rfl:C=J:=Value.ref.inj (Qh.mp U);have y:=(X _ _ Q).symm.trans Y;cases y
  .cases z
 ca:=λX I k=>ZH X Z I k
end
end _D
namespace _D
open _L
variable {iq:Aa (An × Af)}{α α1:ag}{ds:Aa D}{E:ae}{C:Af}{s:Ag}{K:Ai}{w:Br}{o:Ch}{H P P1:Hp}{S S1:aq}
theorem fL {α:Type}{t:Jl α}{Q Y:α->Ag->Prop}{M:Kq}{A:Bk}(h:Ap M A t Q (λ_ _=>Fb) s)(J:∀ a s,Q a s->Y a s):Ap M A t Y E s:=Hw h J λ_ _ x=>x.elim
def uP (Q:Aa Bp)(ak:Iu):Jl As:=forIn Q true λc r=>if r=true then do let ok <- AaX c ak (eval c ak);pure (Ky ok) else pure (Ky r)
def qh (X:Cx)(J:Aa Bp)(t:DT):Prop:=
 ∀ (Y:aa) (s:Ag) (σ : _L.St) (H:Hp) (Q:As->Hp->Prop),Inv X Y σ H s->me X t σ H Q->Ap (Au X.prog X.w) X.A (uP J X.env) (TP X Y σ Q) X.xe s
def zY:DT:=λ_ S=>.ok true S
section
variable {X:Cx}
theorem bJ {prog:Be}{A:Bk}{ak:Iu}{Q:As->Ag->Prop}:∀ (J:Aa Bp) {s:Ag},Q false s ->
  Ap (Au prog w) A (forIn J false λc r=>if r=true then do let ok <- AaX c ak (eval c ak);pure (Ky ok) else pure (Ky r)) Q E s
 |[],s,h=>by rw[Nr];exact Al h
 |c::Y,s,h=>by
  rw[Mr];rw[Bb (by simp)]
  refine Ad (Al ?_);exact bJ Y h
theorem GV:qh X [] zY:=λG s σ H Q I ⟨P,α,J,S,r,U,Y⟩=>by
 unfold uP;rw[Nr];exact Al ⟨H,I,Y H P α r (qF.refl _) (Bu _)⟩
theorem YX {c:Bp}{J:Aa Bp}{t u:DT}(h1:PT X c (me X t))(h2:qh X J u):qh X (c::J) (vB t u):=λT s σ H Q I ⟨P,α,z,S,r,j,A⟩=>by
 unfold uP;rw[Mr,Ax rfl];refine Ad (Ad (bo (jU (λM q=>h1 T s σ H M I q) r j A) λb y ⟨G,P1,α1,S1,B,O,U,L,N,Y⟩=>Al ?_));cases b with
 |true=>exact h2 T y σ G Q B ⟨P1,α1,z,S1,O,U,wF.base L N Y⟩
 |false=>exact bJ J ⟨G,B,Y G P1 α1 O L N⟩
theorem IY {e:Bp}{f:DE}{aj:aa}{σ:_L.St}{ak:qE}{d:D}(N:PE X e (tD X f))(I:Inv X aj σ H s)(r:bh X.K H P α S)(T:z9 X.K P α σ ak)(q:f ak S=.ok d S1) :
  Ap (Au X.prog X.w) X.A (eval e X.env) (λu U=>∃ v J P1 α1,Got X aj σ ak P α u U v J P1 α1 d S1) X.xe s:=by
 refine bo (zM (g:=λd S=>ba.ok d S) (Ok:=λQ Y=>Q=d/\Y=S1) N I r T (by rw[q];exact⟨rfl,rfl⟩)) λu U ⟨v,J,P1,α1,Q,Y,G,A,B⟩=>?_
 have O:Q=d:=A;have L:Y=S1:=B;subst O;subst L;exact⟨v,J,P1,α1,G⟩
theorem CD {B:Aa Bp}{t:DT}{aj:aa}{σ:_L.St}{ak:qE}{b:As}(T:qh X B t)(I:Inv X aj σ H s)(r:bh X.K H P α S)(O:z9 X.K P α σ ak)(q:t ak S=.ok b S1) :
  Ap (Au X.prog X.w) X.A (uP B X.env) (λY G=>Y=b/\∃ Q P1 α1,Inv X aj σ Q G/\bh X.K Q P1 α1 S1/\z9 X.K P1 α1 σ ak/\qF P P1/\α<+:α1) X.xe s:=by
 refine bo (T aj s σ H (λY Q=>Y=b/\∃ P1 α1,bh X.K Q P1 α1 S1/\z9 X.K P1 α1 σ ak/\qF P P1/\α<+:α1) I ⟨P,α,ak,S,r,O,?_⟩) λY G ⟨Q,A,e,P1,α1,z,j,k,L⟩=>⟨e,Q,P1,α1,A,z,j,k,L⟩;rw[q];exact λu y J M U N=>⟨rfl,y,J,M,O.mono U N,U,N⟩
theorem IZ {tg:Bp}{g:DG}{aj:aa}{σ:_L.St}{ak Y:qE}{d:D}{v:V}{u:Ac}(M:PG X tg (nq X g))(I:Inv X aj σ H s)(r:bh X.K H P α S)(c:z9 X.K P α σ ak)(B:qK v u)
  (y:au X.K P α d v) (q:g d ak S=.ok Y S1) :
  Ap (Au X.prog X.w) X.A (assign tg X.env u) (λ_ N=>∃ Q J P1 α1,Inv X aj Q J N/\bh X.K J P1 α1 S1/\z9 X.K P1 α1 Q Y/\qF P P1/\α<+:α1) X.xe s:=by
 refine bo (M aj s σ H v u (λQ J=>∃ P1 α1,bh X.K J P1 α1 S1/\z9 X.K P1 α1 Q Y/\qF P P1/\α<+:α1) I B ⟨P,α,ak,S,d,r,c,y,?_⟩) λ_ N ⟨Q,J,L,P1,α1,z,p,f,O⟩=>⟨Q,J,P1,α1,L,z,p,f,O⟩;rw[q];exact λj t l G T U A k=>⟨l,G,T,U,A,k⟩
def gW (K:Ai)(P:Hp)(α : Aa Af)(ds:Aa D)(o:Ch):Prop:=∃ (Q:ah) (n:Ah) (Y:Aa V),o={ cls:=.type "list",data:=.seq Q.toArray n } /\ qJ Y Q/\qD K P α ds Y/\ds.length<=bb
theorem gW.mono (e:qF P P1)(h:α<+:α1)(a:gW K P α ds o):gW K P1 α1 ds o:=by
 obtain⟨U,n,Y,G,N,J,Q⟩:=a;exact⟨U,n,Y,G,N,qD.mono e h _ _ J,Q⟩
theorem gW.cell (a:gW K P α ds o):∀ v,o.data≠.cell v:=by
 obtain⟨Y,n,Q,rfl,_⟩:=a;intro v z;cases z
theorem Inv.pin1 {aj:aa}{σ:_L.St}{a:Af}(I:Inv X aj σ H s)(f:xM X aj H a)(e:s.heap.get? a=Ab o)(d:∀ v,o.data≠.cell v):Inv X (aj++[(a,o)]) σ H s:=
 I.pins_of λp Y=>(Bw.mp Y).elim (λz=>I.pin p (Cf _ z)) λz=>by
  have Q:p=(a,o):=by simpa using z
  subst Q;exact⟨e,f.1,f.2.1,f.2.2.1,d⟩
theorem Inv.pinned1 {aj:aa}{σ:_L.St}{a:Af}(I:Inv X (aj++[(a,o)]) σ H s):s.heap.get? a=Ab o/\H a=none:=by
 have:=I.pin (a,o) (Cf _ (Cf _ (by simp)))
 exact⟨this.1,this.2.1⟩
end
structure Acc where
 m:As
 O:Ai->Hp->Aa Af->Aa D->Ch->Prop
 mono:∀ {K:Ai} {P P1:Hp} {α α1:ag} {ds:Aa D} {o:Ch},qF P P1->α<+:α1->O K P α ds o->O K P1 α1 ds o
 cell:∀ {K:Ai} {P:Hp} {α : Aa Af} {ds:Aa D} {o:Ch},O K P α ds o->∀ v,o.data≠.cell v
@[reducible] def jv:Acc:=⟨false,gW,gW.mono,gW.cell⟩
def xW (m:As)(Y:Bp)(Q:Aa Dy)(am:Eu)(J:En):Bp:=match m with
 |false=>.ListComp Y Q am J
 |true=>.SetComp Y Q am J
structure fj (B:Acc)(Y:Cx)(pins:aa)(P1:Hp)(α1:ag)(fp:ag)(acc:Af)(env:qE)(S:aq)(ds:Aa D)(s:Ag)(σ : _L.St)(H P:Hp)(α : Aa Af)(o:Ch):Prop where
 inv:Inv Y pins σ H s
 rel:bh Y.K H P α S
 env:z9 Y.K P α σ env
 same:qF P1 P
 pre:α1<+:α
 fpn:∀ b∈fp,H b=none
 acn:H acc=none
 at':s.heap.get? acc=Ab o
 acc:B.O Y.K P α ds o
noncomputable def yH (iq:Aa (An × Af)):Aa (An × HT)->Aa (An × Af)->Aa (An × Af)
 |[],Q=>Q
 |(n,k)::r,Q=>yH iq r (if k == .free then (n,(iq.lookup n).getD 0)::Q else Q)
theorem lY {ak:Iu}{am:Eu}(h:∀ y∈am.names,y.2=.free->∃ c,ak.cells.lookup y.1=Ab c):closureFor am ak=pure (yH ak.cells am.names []):=by
 have I:∀ (l:Aa (An × HT)) (Y:Aa (An × Af)),(∀ y∈l,y.2=.free->∃ c,ak.cells.lookup y.1=Ab c) ->
   (forIn l Y λx Y=>match x with|(Q,J)=>if (J == Hr)=true then do let a <- cellOf ak Q;pure (Ky ((Q,a)::Y)) else pure (Ky Y):Jl (Aa (An × Af)))=pure (yH ak.cells l Y):=by
  intro l
  induction l with
  |nil=>intro Y _;rfl
  |cons y r O =>
   intro Y N;obtain⟨n,k⟩:=y;rw[Mr];by_cases L:k=.free
   .subst L
    obtain⟨c,T⟩:=N (n,.free) Cq rfl;have U:ak.cells.lookup n=Ab c:=T;have e:cellOf ak n=pure c:=by unfold cellOf;rw[U]
    simp only[EQ,Du,e,pure_bind];rw[O _ λz G=>N z (Bt _ G)];simp only[yH,EQ,Du,U,Tp]
   .have B:(k == Hr)=false:=by simpa using L
    simp only[B,Bo,Ds,pure_bind];rw[O _ λz G=>N z (Bt _ G)];simp only[yH,B,Bo,Ds]
 unfold closureFor;have:=I am.names [] h;simp only[bind_pure];exact this
theorem bC {x:An}{c:Af}:∀ (l:Aa (An × HT)) (Y:Aa (An × Af)),(yH iq l Y).lookup x=Ab c->Y.lookup x=Ab c\/((x,Hr)∈l/\c=(iq.lookup x).getD 0)
 |[],Y,h=>.inl h
 |(n,k)::r,Y,h=>by
  rcases bC r _ h with h|⟨G,U⟩
  .by_cases J:k=.free
   .subst J
    simp only[EQ,Du,Jx] at h;cases Q:x == n with
    |true =>
     rw[Q] at h;have e:x=n:=by simpa using Q
     subst e;exact .inr ⟨Cq,(Dc h).symm⟩
    |false=>rw[Q] at h;exact .inl h
   .have Q:(k == Hr)=false:=by simpa using J
    simp only[Q,Bo,Ds] at h;exact .inl h
  .exact .inr ⟨Bt _ G,U⟩
theorem l7 {x:An}:∀ (l:Aa (An × HT)) (Q:Aa (An × Af)),((x,Hr)∈l\/∃ c,Q.lookup x=Ab c)->∃ c,(yH iq l Q).lookup x=Ab c
 |[],Q,h=>by
  rcases h with h|h
  .cases h
  .exact h
 |(n,k)::r,Q,h=>by
  refine l7 r _ ?_;rcases h with h|⟨c,h⟩
  .rcases AT.mp h with e|h
   .cases e
    exact .inr ⟨(iq.lookup x).getD 0,by simp only[EQ,Du,Jx]⟩
   .exact .inl h
  .by_cases Y:k=.free
   .subst Y
    simp only[EQ,Du,Jx];cases J:x == n with
    |true=>exact .inr ⟨_,rfl⟩
    |false=>exact .inr ⟨c,h⟩
   .have J:(k == Hr)=false:=by simpa using Y
    simp only[J,Bo,Ds];exact .inr ⟨c,h⟩
structure dc (scX:Eu)(NX:Aa An)(scope:Eu)(N':Aa An)(cap:Aa (Ak Ah)):Prop where
 kind:scope.kind=.function
 names:∀ y∈scope.names,y.2=.local -> scope.names.lookup y.1=Ab .local
 cel:∀ y∈scope.names,y.2=.cell->scope.names.lookup y.1=Ab .cell
 free:∀ y∈scope.names,y.2=.free->scX.names.lookup y.1=Ab .cell\/scX.names.lookup y.1=Ab .free
 fr2:∀ y∈scope.names,y.2=.free->scope.names.lookup y.1=Ab .free
 len:cap.length=N'.length
 caps:((cap.zip N').all λp=>match p.1 with|none=>true|some i=>NX[i]? == Ab p.2&&scope.names.lookup p.2 == Ab .free)=true
 nd:N'.Nodup
def yU (bz:Aa (Ak Ah))(σ : _L.St):_L.St:=bz.map λo=>match o with
 |none=>none
 |some i=>(σ[i]?).join
def xQ (bz:Aa (Ak Ah))(ak:qE):qE:=bz.map λo=>match o with
 |none=>none
 |some i=>(ak[i]?).join
theorem WB {σ:_L.St}{ak:qE}(J:z9 K P α σ ak)(bz:Aa (Ak Ah)):z9 K P α (yU bz σ) (xQ bz ak):=by
 refine⟨by simp[yU,xQ],λj d e=>?_⟩
 unfold xQ at e;unfold yU;rw[Ea] at e ⊢;cases q:bz[j]? with
 |none=>rw[q] at e;cases e
 |some o =>
  rw[q] at e;cases o with
  |none=>cases e
  |some i =>
   have Q:(ak[i]?).join=Ab d:=by simpa using e
   cases z:ak[i]? with
   |none=>rw[z] at Q;cases Q
   |some w =>
    rw[z] at Q;have Y:w=Ab d:=Q;subst Y;obtain⟨v,G,U⟩:=J.2 i d z;exact⟨v,by simp[G],U⟩
noncomputable def qY (X:Cx)(Q:Aa An)(am:Eu)(Y:Aa (An × Af))(C:Af)(ex:ag)(s₀:Ag)(H₀:Hp):Cx:=
 { X with N:=Q,s₀:=s₀,H₀:=H₀,env:=compEnvC am Y C X.env,outer:=X.stack,stack:=X.stack,ex:=ex,fn:=λx=>decide (am.names.lookup x=Ab .cell),pn:=[],xe:=λ_ _=>Fb }
theorem uK {am:Eu}{ak:Iu}:∀ {Q:Aa (An × HT)} {x:An} {k:HT},
  (Q.map λ(n,k)=>if (k == Hr&&ak.scope.kind == .function&&ak.kindOf n == Ab .cell) then (n,Oq) else (n,k)).lookup x=Ab k ->
  Q.lookup x=Ab k\/(k=.cell/\Q.lookup x=Ab .free)
 |[],_,_,h=>by simp at h
 |(n,U)::r,x,k,h=>by
  rw[Dt,Jx] at h;rw[Jx];dsimp only at h;cases J:(U == Hr&&ak.scope.kind == .function&&ak.kindOf n == Ab .cell) with
  |true =>
   rw[J] at h;simp only[Du] at h;cases Y:x == n with
   |true =>
    rw[Y] at h;have e:Oq=k:=Dc h;have G:U=.free:=by
     have:=(Bd _ _).mp J;have:=(Bd _ _).mp this.1;simpa using this.1
    subst G;exact .inr ⟨e.symm,rfl⟩
   |false=>rw[Y] at h;exact uK (am:=am) h
  |false =>
   rw[J] at h;simp only[Bo,Ds] at h;cases Y:x == n with
   |true=>rw[Y] at h;exact .inl h
   |false=>rw[Y] at h;exact uK (am:=am) h
section
variable {X:Cx}{am:Eu}{N':Aa An}{bz:Aa (Ak Ah)}{aj:aa}{σ : _L.St}{H2:Hp}{s2:Ag}{fp:ag}
theorem kL (S:dc X.env.scope X.N am N' bz){x:An}{k:HT}(h:(relabel am X.env).names.lookup x=Ab k):am.names.lookup x=Ab k\/(k=.cell/\am.names.lookup x=Ab .free):=uK (am:=am) h
theorem QQ (S:dc X.env.scope X.N am N' bz)(ok:X.Ok){x:An}{c:Af}(h:(yH X.env.cells am.names []).lookup x=Ab c):X.env.cells.lookup x=Ab c/\(x,Hr)∈am.names:=by
 rcases bC _ _ h with h|⟨Y,J⟩
 .cases h
 .have:=S.free _ Y rfl
  obtain⟨U,Q⟩:=ok.has x this;rw[Q,Tp] at J;rw[Q,J];exact⟨rfl,Y⟩
def U0 (am:Eu)(C:Af):Aa (An × Af):=Ho (C+1) am.names []
def kJ (X:Cx)(am:Eu)(C:Af):Aa (An × Af):=Ho (C+1) am.names (yH X.env.cells am.names [])
theorem yD:∀ (Q:Aa (An × HT)) (lo:Ah) (av:Aa (An × Af)),Ho lo Q av=Ho lo Q [] ++ av
 |[],_,_=>rfl
 |(n,k)::r,lo,av=>by
  unfold Ho
  split
  .rw[yD r _ ((n,lo)::av),yD r _ [(n,lo)],Cj];rfl
  .exact yD r lo av
set_option tactic.hygienic true in
theorem gY:∀ (Q:Aa (An × HT)) (lo:Ah) {n:An} {c:Af},(n,c)∈Ho lo Q [] -> (n,Oq)∈Q
 |[],_,_,_,h=>by cases h
 |(J,k)::r,lo,n,c,h=>by
  unfold Ho at h
  split at h
  .rename_i Y
   rw[yD] at h;rcases Bw.mp h with h|h
   .exact Bt _ (gY r _ h)
   .have e:(n,c)=(J,lo):=by simpa using h
    cases e;have:k=Oq:=by simpa using Y
    rw[this];exact Cq
  .exact Bt _ (gY r _ h)
theorem xH (S:dc X.env.scope X.N am N' bz)(ok:X.Ok){C:Af}{x:An}{c:Af}(h:(kJ X am C).lookup x=Ab c):((x,c)∈U0 am C/\am.names.lookup x=Ab .cell)\/(X.env.cells.lookup x=Ab c/\(x,Hr)∈am.names):=by
 unfold kJ at h;rw[yD,Yf] at h;cases q:(Ho (C+1) am.names []).lookup x with
 |some Q =>
  rw[q] at h;cases h;have m:=Gh q;exact .inl ⟨m,S.cel _ (gY _ _ m) rfl⟩
 |none =>
  rw[q] at h;exact .inr (QQ S ok h)
theorem sN (S:dc X.env.scope X.N am N' bz)(ok:X.Ok){C:Af}{x:An}(h:am.names.lookup x=Ab .cell\/am.names.lookup x=Ab .free):∃ c,(kJ X am C).lookup x=Ab c:=by
 unfold kJ;rw[yD,Yf];rcases h with h|h
 .have:=Ks am.names (C+1) [] (x:=x) (.inl h)
  obtain⟨c,J⟩:=Mw.mp this;exact⟨c,by rw[J];rfl⟩
 .obtain⟨Y,Q⟩:=l7 (iq:=X.env.cells) am.names [] (.inl (Gh h))
  rw[Q];cases (Ho (C+1) am.names []).lookup x with
  |none=>exact⟨Y,rfl⟩
  |some c=>exact⟨c,rfl⟩
theorem G8 (S:dc X.env.scope X.N am N' bz)(Q:Inv X aj σ H2 s2)(I:∀ b∈fp,xM X aj H2 b)(L:∀ b∈fp,b<s2.heap.objs.size)(U:s2.heap.objs.size<=C){h1:Bn}(G:CellsOk h1 (C+1) (U0 am C)) :
  (qY X N' am (kJ X am C) C fp s2 H2).Ok where
 mod:=Q.ok.mod
 kind:=S.kind
 glob:=Q.ok.glob
 blt:=Q.ok.blt
 above:=U
 inj:=λx y c h1 O=>by
  rcases xH S Q.ok h1 with⟨B,_⟩|⟨B,_⟩ <;> rcases xH S Q.ok O with⟨N,_⟩|⟨N,_⟩
  .exact PySem.name_of_addr G.apart B N
  .obtain⟨v,j,Y,_⟩:=Q.cell y c N
   exact absurd (Az (Bh Y) U) (Oc.mpr (Fc (G.empty x c B).2))
  .obtain⟨v,j,Y,_⟩:=Q.cell x c B
   exact absurd (Az (Bh Y) U) (Oc.mpr (Fc (G.empty y c N).2))
  .exact Q.ok.inj x y c B N
 has:=λx T=>by
  have M:(relabel am X.env).names.lookup x=Ab .cell\/(relabel am X.env).names.lookup x=Ab .free:=T;refine sN S Q.ok ?_;rcases M with h|h
  .rcases kL S h with h|⟨_,h⟩
   .exact .inl h
   .exact .inr h
  .rcases kL S h with h|⟨z,_⟩
   .exact .inr h
   .cases z
 cab:=λx c h O=>by
  have T:am.names.lookup x=Ab .cell:=Bz h;rcases xH S Q.ok O with⟨m,_⟩|⟨_,m⟩
  .exact Bq U (Fc (G.empty x c m).2)
  .have:=S.fr2 _ m rfl
   have this':am.names.lookup x=Ab .free:=this;rw[T] at this';cases this'
 hd:=Q.ok.hd
 frames:=Q.ok.frames
 stk:=.inl rfl
 exf:=λb J=>⟨Cp (Az (L b J) U),λx c h=>by
  rcases xH S Q.ok h with⟨m,_⟩|⟨m,_⟩
  .exact Fm (Cp (Ig (Az (L b J) U) (G.empty x c m).2))
  .exact(I b J).2.2.2.2.1 x c m⟩
 bs:=Q.bs
 bsz:=Bq Q.ok.bsz Q.sz
 noex:=λb o e J=>by
  obtain⟨_,_,_,h,_⟩:=I b J;rcases h with h|h
  .exact Q.ok.noex b o e h
  .exact absurd (Az (Bh e) (Bq Q.ok.bsz h)) (Fz _)
 exfs:=λb J A=>by
  obtain⟨_,h1,O,_⟩:=I b J;rcases AT.mp (Q.stkSub b A) with z|z
  .exact h1 z
  .exact O z
 funs:=Q.stack
 frf:=Q.stkFree
theorem YF {s4:Ag}{m:ai}(S:dc X.env.scope X.N am N' bz)(Y:Inv X aj σ H2 s2)(hf:∀ b∈fp,xM X aj H2 b)(r:∀ b∈fp,b<s2.heap.objs.size)(l:s2.heap.objs.size<=C)
  (hn:s4.heap.Ns C m) (os:s4.os=s2.os) (bi:s4.gens=s2.gens) (Q:∀ b o,s2.heap.get? b=Ab o->s4.heap.get? b=Ab o) (y:CellsOk s4.heap (C+1) (U0 am C)) :
  Inv (qY X N' am (kJ X am C) C fp s2 H2) [] (yU bz σ) H2 s4 where
 ok:=G8 S Y hf r l y
 os:=os
 bare:=bi▸Y.bare
 base:=Un.kept Q
 loc:=by
  refine⟨m,hn,λj x v h1 N h3=>?_⟩;have d:N'[j]? = Ab x:=h1;unfold yU at N;rw[Ea] at N;cases q:bz[j]? with
  |none=>rw[q] at N;cases N
  |some o =>
   rw[q] at N;cases o with
   |none=>cases N
   |some i =>
    have I:(σ[i]?).join=Ab v:=by simpa using N
    have M:σ[i]? = Ab (Ab v):=by
     cases z:σ[i]? with
     |none=>rw[z] at I;cases I
     |some w=>rw[z] at I;have:w=Ab v:=I;rw[this]
    have hz:(Ab i,x)∈bz.zip N':=by
     refine Vm.mpr ⟨j,?_⟩;rw[List.getElem?_zip_eq_some];exact⟨q,d⟩
    have n:=Bs.mp S.caps _ hz;simp only[Bd,Qh] at n;obtain⟨hN,J⟩:=n;have a:=S.free _ (Gh J) rfl;obtain⟨mo,zb,hl⟩:=Y.loc;have f:qv X.env.scope x:=by
     rcases a with k|k
     .exact .inr (.inl k)
     .exact .inr (.inr k)
    obtain⟨u,ru,lk⟩:=hl i x v hN M f;refine⟨u,ru,?_⟩;rcases lk with⟨kl,_⟩|⟨_,c,g,U⟩
    .have B:X.env.scope.names.lookup x=Ab .local:=kl
     rcases a with k|k
     .have O:X.env.scope.names.lookup x=Ab .cell:=k
      rw[B] at O;cases O
     .have O:X.env.scope.names.lookup x=Ab .free:=k
      rw[B] at O;cases O
    .obtain⟨c',T⟩:=sN S Y.ok (C:=C) (.inr J)
     have e:X.env.cells.lookup x=Ab c':=by
      rcases xH S Y.ok T with⟨_,z⟩|⟨z,_⟩
      .rw[J] at z;cases z
      .exact z
     rw[g] at e;cases e;refine .inr ⟨?_,c,T,?_⟩
     .have t:qv (relabel am X.env) x:=h3
      rcases t with h|h|h
      .rcases kL S h with h|⟨z,_⟩
       .rw[J] at h;cases h
       .cases z
      .exact .inl h
      .exact .inr h
     .obtain⟨L,G,A⟩:=U
      exact⟨L,Q c L G,A⟩
 cell:=λx c h=>by
  rcases xH S Y.ok h with⟨m,_⟩|⟨m,_⟩
  .exact⟨none,(y.empty x c m).1⟩
  .obtain⟨v,L,G,A⟩:=Y.cell x c m
   exact⟨v,L,Q c L G,A⟩
 free:=Y.hok.fresh l
 freeC:=λx c h=>by
  rcases xH S Y.ok h with⟨m,_⟩|⟨m,_⟩
  .exact Y.hok.fresh (Bq l (Fc (y.empty x c m).2))
  .exact Y.freeC x c m
 pin:=λp hp=>absurd (show p∈([]:aa) from hp) (by simp)
 hok:=Y.hok.kept Q
 len:=by
  show (yU bz σ).length=N'.length;simp[yU,S.len]
end
theorem ZO {P:Be}{h:Bn}{a:Af}{o:HO}(x:gj P w H h)(J:H a=none)(Q:zG P w (cc H a o) h a o):gj P w (cc H a o) h:=λb u e=>by
 by_cases Y:b=a
 .subst Y;rw[zK] at e;cases e;exact Q
 .rw[qN Y] at e
  exact(x b u e).stay (λc v _ q=>q) (λc q=>by rw[qN (qX q J)];exact q) λc U q=>by rw[qN (qX q J)];exact q
theorem ZN {P:Be}{h h':Bn}(x:gj P w H h)(Q:H C=none)(k:∀ b o,b≠C->h.get? b=Ab o->h'.get? b=Ab o):gj P w H h':=λb u e =>
 (x b u e).stay (λc v Y q=>k c v (by
  rintro rfl;rcases Y with z|z
  .subst z;rw[Q] at e;cases e
  .rw[Q] at z;cases z) q) (λ_ q=>q) λ_ _ q=>q
section
variable {X:Cx}{ce tg bg:Bp}{cy:Aa Bp}{am:Eu}{ar:En}{N':Aa An}{bz:Aa (Ak Ah)}{fi:DI}{g:DG}{t:DT}{fe:DE}
def jK (X:Cx)(aj:aa)(σ : _L.St)(P1:Hp)(α1:ag)(ds:Aa D)(G:aq)(av C:Af)(s:Ag):Prop:=
 ∃ (Y J:Hp) (Q : Aa Af) (U:Aa V),Inv X aj σ (cc Y av (.lst U)) s/\bh X.K Y J Q G/\Y av=none/\qF P1 J/\α1<+:Q/\qD X.K J Q ds U/\Y C=none
theorem sM {Y:Cx}{aj:aa}{σ y:_L.St}{L:Hp}{J s':Ag}{fp:ag}{av:Af}{U c:Hp}{T:ag}{a:qE}{v:aq}{cl:Aa (An × Af)}(I2:Inv X aj σ L J)
  (i:∀ b∈fp,xM X aj L b) (hY:Y=qY X N' am cl C fp J L) (h:J.heap.objs.size<=C) (hA:J.heap.objs.size<=av) (k:av≠C) (st:fj jv Y [] P1 α1 fp av a v ds s' y U c T o)
  {h':Bn} (sb:Gz C s'.heap h'):jK X aj σ P1 α1 ds v av C { s' with heap:=h' }:=by
 subst hY;obtain⟨f,n,j,rfl,r,l,hz⟩:=st.acc;have B:∀ b o,b≠C->s'.heap.get? b=Ab o->h'.get? b=Ab o:=λb o N e=>(sb.2 b N).trans e;have p:∀ b o,J.heap.get? b=Ab o->b≠C:=λb o e=>Cp (Az (Bh e) h);have x:∀ b o,J.heap.get? b=Ab o->b≠av:=λb o e=>Cp (Az (Bh e) hA);have base:Un (gx X.stack) fp L U J.heap s'.heap:=st.inv.base;have A:∀ b u,U b=Ab u->b≠av:=λb u e=>qX e st.acn;have un:Un (gx X.stack) fp L (cc U av (.lst j)) J.heap h':=by
  refine⟨λb Q q O N G=>B b Q (p b Q q) (base.keep b Q q O N G),λb Q q O N G=>?_,λb Q q O G=>?_,λb Q q G=>?_,λb xs q=>?_,λb Q u q=>?_,λb ps q=>?_⟩
  .obtain⟨sl,e⟩:=base.slot b Q q O N G
   exact⟨sl,B b _ (p b Q q) e⟩
  .rw[qN (x b Q q)];exact base.free b Q q O G
  .obtain⟨d,e⟩:=base.there b Q q G
   exact⟨d,B b d (p b Q q) e⟩
  .have:=base.tups b xs q;rw[qN (A _ _ this)];exact this
  .have:=base.frzs b Q u q;rw[qN (A _ _ this)];exact this
  .obtain⟨m,e⟩:=base.tbls b ps q
   exact⟨m,by rw[qN (A _ _ e)];exact e⟩
 have I:gj X.prog X.w U h':=ZN st.inv.hok st.inv.free B;have z:h'.get? av=Ab { cls:=.type "list",data:=.seq f.toArray n }:=B av _ k st.at';have M:gj X.prog X.w (cc U av (.lst j)) h':=ZO I st.acn ⟨by rw[<- l.length,<- zB];exact hz,f,n,r,z⟩
 refine⟨U,c,T,j,?_,st.rel,st.acn,st.same,st.pre,l,st.inv.free⟩;exact I2.call' (s':={ s' with heap:=h' }) (ch:=fp) (st.inv.os) un M st.inv.bare λb N=>by
  obtain⟨_,h1,h2,h3,h4,h5⟩:=i b N;exact⟨h3,h1,h4,h5⟩
theorem cB (S:dc X.env.scope X.N am N' bz)(ok:X.Ok):closureFor am X.env=pure (yH X.env.cells am.names []):=lY λy Y Q=>ok.has y.1 (S.free y Y Q)
theorem GX {aj:aa}{σ:_L.St}{J:aq}{av:Af}{Q:VK}(c:jK X aj σ P1 α1 ds J av C s)(ok:gw X P1 α1 Q (.lst ds) J):EP X aj σ Q (.ref av) s:=by
 obtain⟨y,k,G,u,I,r,z,A,L,U,_⟩:=c;exact⟨.ref av,_,I,rfl,w8 r z U λv O N Y B j T M=>ok v O N Y B (A.trans j) (L.trans T) M⟩
end
end _D
section
namespace _D
open _L PySem.SeqAt
noncomputable def xa (b:As):Am:=if b then 1 else 0
mutual
def jt:D->D->As
 |.non,.non=>true
 |.bl a,.bl b=>a == b
 |.bl a,.int b=>xa a == b
 |.int a,.bl b=>a == xa b
 |.int a,.int b=>a == b
 |.str a,.str b=>a == b
 |.tup Q,.tup Y=>xA Q Y
 |.lst Q,.lst Y=>xA Q Y
 |_,_=>false
def xA:Aa D->Aa D->As
 |[],[]=>true
 |x::Y,y::Q=>jt x y&&xA Y Q
 |_,_=>false
end
noncomputable def pl:Ah->D->As
 |_,.non=>true
 |_,.bl _=>true
 |_,.int _=>true
 |_,.str _=>true
 |n+1,.tup Q=>Q.all (pl n)
 |n+1,.lst Q=>Q.all (pl n)
 |_,_=>false
theorem lA (x y:D)(xs ys:Aa D):xA (x::xs) (y::ys)=(jt x y&&xA xs ys):=rfl
theorem yZ:∀ (xs ys:Aa D),xA xs ys=((Cg (min xs.length ys.length)).all (λj=>jt (xs.getD j .non) (ys.getD j .non))&&xs.length == ys.length)
 |[],[]=>rfl
 |[],y::ys=>rfl
 |x::xs,[]=>rfl
 |x::xs,y::ys=>by
  have Q:=yZ xs ys;rw[lA,Q,Bc,Bc,Nat.succ_min_succ,Kz,Me,Lu,Bool.and_assoc];have e:(xs.length+1 == ys.length+1)=(xs.length == ys.length):=by simp
  rw[e];rfl
theorem V0 {xs ys:Aa D}(h:xs.length≠ys.length):xA xs ys=false:=by
 rw[yZ];simp[h]
theorem tQ (xs ys:Aa D):jt (.tup xs) (.tup ys)=xA xs ys:=rfl
theorem tP (xs ys:Aa D):jt (.lst xs) (.lst ys)=xA xs ys:=rfl
section
variable {X:Cx}{aj:aa}{σ : _L.St}{H P:Hp}{α : Aa Af}{S:aq}{s:Ag}
inductive Kd (X:Cx)(P:Hp)(α : Aa Af)(s:Ag):D->Ac->Prop where
 |non:Kd X P α s .non .none
 |bl (b:As):Kd X P α s (.bl b) (.bool b)
 |int (i:Am) (t:Qc):Kd X P α s (.int i) (.int i t)
 |str (x:An) (t:Qc):Kd X P α s (.str x) (.str x t)
 |tup (a:Af) (xs:Aa D) (its:ah) (vs:Aa V) (rp:qD X.K P α xs vs) (rv:qJ vs its) (h:s.heap.IsTuple a its.toArray) (q:iy X.K P a vs):Kd X P α s (.tup xs) (.ref a)
 |lst (a:Af) (xs:Aa D) (its:ah) (vs:Aa V) (rp:qD X.K P α xs vs) (rv:qJ vs its) (h:s.heap.IsList a its.toArray) (q:oo X.K P a vs):Kd X P α s (.lst xs) (.ref a)
theorem j3 (I:Inv X aj σ H s)(r:bh X.K H P α S){n:Ah}{d:D}{v:V}{u:Ac}(h:pl n d=true)(p:au X.K P α d v)(Q:qK v u):Kd X P α s d u:=by
 cases d with
 |non=>simp only[au] at p;subst p;cases Q;exact .non
 |bl b=>simp only[au] at p;subst p;cases Q;exact .bl b
 |int i=>simp only[au] at p;subst p;obtain⟨t,rfl⟩:=Q;exact .int i t
 |str x=>simp only[au] at p;subst p;obtain⟨t,rfl⟩:=Q;exact .str x t
 |tup N =>
  simp only[au] at p;obtain⟨a,Y,rfl,q,t⟩:=p;cases Q;obtain⟨J,G,U,_⟩:=I.tuple (xS r.sub q);exact .tup a N J Y t G U q
 |lst N =>
  simp only[au] at p;obtain⟨a,Y,rfl,q,t⟩:=p;cases Q;obtain⟨J,G,U,_⟩:=I.list ((xP r.sub q).l);exact .lst a N J Y t G U.isList q
 |_=>cases n <;> exact DL h
theorem uE {Q:Aa D}{vs:Aa V}{ao:ah}(J:qD X.K P α Q vs)(G:qJ vs ao){j:Ah}(h:j<ao.toArray.size):∃ v,au X.K P α (Q.getD j .non) v/\qK v ao.toArray[j]/\Q.getD j .non∈Q:=by
 have L:=J.length;have T:=G.length;have N:j<ao.length:=by simpa using h
 have Y:j<Q.length:=by lia
 obtain⟨v,B,p⟩:=J.get (Ar Y);obtain⟨u,U,q⟩:=G.get B;have O:ao.toArray[j]=u:=by
  have:ao[j]? = Ab ao[j]:=Ar N;rw[this] at U;simpa using Dc U
 have C:Q.getD j .non=Q[j]:=by simp[Jq,Y]
 rw[O,C];exact⟨v,p,q,Jy Y⟩
theorem j9 {n:Ah}{Q:Aa D}(h:Q.all (pl n)=true){d:D}(Y:d∈Q):pl n d=true:=Bs.mp h d Y
theorem cR {h:Bn}{a:Af}{xs ys:Aw Ac}(h1:h.IsTuple a xs)(h2:h.IsTuple a ys):xs=ys:=by
 obtain⟨o,e,_,n,d⟩:=h1;obtain⟨J,Y,_,U,Q⟩:=h2;cases e.symm.trans Y;cases d.symm.trans Q;rfl
theorem PH {h:Bn}{a:Af}{xs ys:Aw Ac}(h1:h.IsList a xs)(h2:h.IsList a ys):xs=ys:=by
 obtain⟨o,e,_,n,d⟩:=h1;obtain⟨J,Y,_,U,Q⟩:=h2;cases e.symm.trans Y;cases d.symm.trans Q;rfl
theorem NZ {h:Bn}{a:Af}{xs ys:Aw Ac}(h1:h.IsTuple a xs)(h2:h.IsList a ys):Fb:=by
 obtain⟨o,e,c,_⟩:=h1;obtain⟨J,Q,Y,_⟩:=h2;cases e.symm.trans Q;exact absurd (c.symm.trans Y) (by decide)
inductive kq (X:Cx)(P:Hp)(α : Aa Af)(xs ys:Aa D)(its its2:ah):Prop
 |mk (vs ws:Aa V) (rp:qD X.K P α xs vs) (rv:qJ vs its) (rp2:qD X.K P α ys ws) (rv2:qJ ws its2):kq X P α xs ys its its2
theorem kq.len1 {xs ys:Aa D}{ao Q:ah}(q:kq X P α xs ys ao Q):xs.length=ao.length:=by
 obtain⟨U,G,Y,J,_,_⟩:=q;exact Y.length.trans J.length
theorem kq.len2 {xs ys:Aa D}{ao Q:ah}(q:kq X P α xs ys ao Q):ys.length=Q.length:=by
 obtain⟨U,G,_,_,Y,J⟩:=q;exact Y.length.trans J.length
inductive ni (X:Cx)(P:Hp)(α : Aa Af):D->D->Prop
 |eq {d d':D} (h:jt d d'=true):ni X P α d d'
 |tt (xs ys:Aa D) (its:ah) (q:kq X P α xs ys its its):ni X P α (.tup xs) (.tup ys)
 |ll (xs ys:Aa D) (its:ah) (q:kq X P α xs ys its its):ni X P α (.lst xs) (.lst ys)
theorem aP {d d':D}{u:Ac}(k1:Kd X P α s d u)(k2:Kd X P α s d' u):ni X P α d d':=by
 cases k1 with
 |non=>cases k2;exact .eq rfl
 |bl b=>cases k2;exact .eq (EQ _)
 |int i t=>cases k2;exact .eq (EQ _)
 |str x t=>cases k2;exact .eq (EQ _)
 |tup a E C T O L h q =>
  cases k2 with
  |tup _ G Y N J Q U B =>
   cases cR h U;exact .tt E G C ⟨T,N,O,L,J,Q⟩
  |lst _ G Y N J Q U B=>exact(NZ h U).elim
 |lst a E C T O L h q =>
  cases k2 with
  |lst _ G Y N J Q U B =>
   cases PH h U;exact .ll E G C ⟨T,N,O,L,J,Q⟩
  |tup _ G Y N J Q U B=>exact(NZ U h).elim
theorem lB (I:Inv X aj σ H s)(r:bh X.K H P α S){m:Ah}(B:∀ (d d':D) (u:Ac),pl m d=true->pl m d'=true->Kd X P α s d u->Kd X P α s d' u->jt d d'=true){xs ys:Aa D}{ao:ah}(h1:xs.all (pl m)=true)(h2:ys.all (pl m)=true)(q:kq X P α xs ys ao ao):xA xs ys=true:=by
 obtain⟨w,z,N,U,Q,Y⟩:=q;have L:=N.length.trans U.length;have M:=Q.length.trans Y.length;rw[yZ,L,M,TD,Bd];refine⟨Bs.mpr λj J=>?_,BEq.rfl⟩;have J:j<ao.toArray.size:=Ei.mp J;obtain⟨y,E,C,O⟩:=uE N U J;obtain⟨k,T,A,G⟩:=uE Q Y J;exact B _ _ _ (j9 h1 O) (j9 h2 G) (j3 I r (j9 h1 O) E C) (j3 I r (j9 h2 G) T A)
theorem cH (I:Inv X aj σ H s)(r:bh X.K H P α S):∀ (n:Ah) (d d':D) (u:Ac),pl n d=true->pl n d'=true->Kd X P α s d u->Kd X P α s d' u->jt d d'=true:=by
 intro n
 induction n with
 |zero =>
  intro d d' u Q U G J;cases aP G J with
  |eq h=>exact h
  |tt=>exact DL Q
  |ll=>exact DL Q
 |succ m O =>
  intro d d' u Q U G J;cases aP G J with
  |eq h=>exact h
  |tt N Y C q=>exact(tQ N Y).trans (lB I r O Q U q)
  |ll N Y C q=>exact(tP N Y).trans (lB I r O Q U q)
structure E3 (A:Bk)(s:Ag)(u u':Ac)(b:As):Prop where
 eq:EqAt A s u u' b
 rc:RcAt A s u u' b
 ne:RcNeAt A s u u' (!b)
inductive xn (X:Cx)(P:Hp)(α : Aa Af)(A:Bk)(s:Ag):D->D->Ac->Ac->Prop
 |of {d d':D} {u u':Ac} (b:As) (e:jt d d'=b) (h:E3 A s u u' b):xn X P α A s d d' u u'
 |tt (a b:Af) (xs ys:Aa D) (its its2:ah) (ha:s.heap.IsTuple a its.toArray) (hb:s.heap.IsTuple b its2.toArray) (q:kq X P α xs ys its its2):xn X P α A s (.tup xs) (.tup ys) (.ref a) (.ref b)
 |ll (a b:Af) (xs ys:Aa D) (its its2:ah) (ha:s.heap.IsList a its.toArray) (hb:s.heap.IsList b its2.toArray) (q:kq X P α xs ys its its2):xn X P α A s (.lst xs) (.lst ys) (.ref a) (.ref b)
theorem JL {A:Bk}{d d':D}{u j:Ac}(Q:A.units<Fo)(k1:Kd X P α s d u)(k2:Kd X P α s d' j):xn X P α A s d d' u j:=by
 cases k1 with
 |non  =>
  cases k2 with
  |non  => exact .of _ rfl ⟨AaP _,RcAt.none_none,RcNeAt.none_none⟩
  |bl b=>exact .of _ rfl ⟨EqAt.none_bool b,RcAt.none_bool b,RcNeAt.none_bool b⟩
  |int b Y=>exact .of _ rfl ⟨EqAt.none_int b Y,RcAt.none_int b Y,RcNeAt.none_int b Y⟩
  |str b Y=>exact .of _ rfl ⟨EqAt.none_str b Y,RcAt.none_str b Y,RcNeAt.none_str b Y⟩
  |tup b B U L C O J T=>exact .of _ rfl ⟨EqAt.none_tuple J Q,RcAt.none_tuple J Q,RcNeAt.none_tuple J Q⟩
  |lst b B U L C O J T=>exact .of _ rfl ⟨EqAt.none_list J Q,RcAt.none_list J Q,RcNeAt.none_list J Q⟩
 |bl a =>
  cases k2 with
  |non  => exact .of _ rfl ⟨EqAt.bool_none a,RcAt.bool_none a,RcNeAt.bool_none a⟩
  |bl b=>exact .of _ rfl ⟨EqAt.bool_bool a b,RcAt.bool_bool a b,RcNeAt.bool_bool a b⟩
  |int b Y=>exact .of _ rfl ⟨EqAt.bool_int a b Y,RcAt.bool_int a b Y,RcNeAt.bool_int a b Y⟩
  |str b Y=>exact .of _ rfl ⟨EqAt.bool_str a b Y,RcAt.bool_str a b Y,RcNeAt.bool_str a b Y⟩
  |tup b B U L C O J T=>exact .of _ rfl ⟨EqAt.bool_tuple a J Q,RcAt.bool_tuple a J Q,RcNeAt.bool_tuple a J Q⟩
  |lst b B U L C O J T=>exact .of _ rfl ⟨EqAt.bool_list a J Q,RcAt.bool_list a J Q,RcNeAt.bool_list a J Q⟩
 |int a G =>
  cases k2 with
  |non  => exact .of _ rfl ⟨EqAt.int_none a G,RcAt.int_none a G,RcNeAt.int_none a G⟩
  |bl b=>exact .of _ rfl ⟨EqAt.int_bool a G b,RcAt.int_bool a G b,RcNeAt.int_bool a G b⟩
  |int b Y=>exact .of _ rfl ⟨EqAt.int_int a G b Y,RcAt.int_int a G b Y,RcNeAt.int_int a G b Y⟩
  |str b Y=>exact .of _ rfl ⟨EqAt.int_str a G b Y,RcAt.int_str a G b Y,RcNeAt.int_str a G b Y⟩
  |tup b B U L C O J T=>exact .of _ rfl ⟨EqAt.int_tuple a G J Q,RcAt.int_tuple a G J Q,RcNeAt.int_tuple a G J Q⟩
  |lst b B U L C O J T=>exact .of _ rfl ⟨EqAt.int_list a G J Q,RcAt.int_list a G J Q,RcNeAt.int_list a G J Q⟩
 |str a G =>
  cases k2 with
  |non  => exact .of _ rfl ⟨EqAt.str_none a G,RcAt.str_none a G,RcNeAt.str_none a G⟩
  |bl b=>exact .of _ rfl ⟨EqAt.str_bool a G b,RcAt.str_bool a G b,RcNeAt.str_bool a G b⟩
  |int b Y=>exact .of _ rfl ⟨EqAt.str_int a G b Y,RcAt.str_int a G b Y,RcNeAt.str_int a G b Y⟩
  |str b Y=>exact .of _ rfl ⟨EqAt.str_str a G b Y,RcAt.str_str a G b Y,RcNeAt.str_str a G b Y⟩
  |tup b B U L C O J T=>exact .of _ rfl ⟨EqAt.str_tuple a G J Q,RcAt.str_tuple a G J Q,RcNeAt.str_tuple a G J Q⟩
  |lst b B U L C O J T=>exact .of _ rfl ⟨EqAt.str_list a G J Q,RcAt.str_list a G J Q,RcNeAt.str_list a G J Q⟩
 |tup a z I w E M N y =>
  cases k2 with
  |non  => exact .of _ rfl ⟨EqAt.tuple_none N Q,RcAt.tuple_none N Q,RcNeAt.tuple_none N Q⟩
  |bl b=>exact .of _ rfl ⟨EqAt.tuple_bool b N Q,RcAt.tuple_bool b N Q,RcNeAt.tuple_bool b N Q⟩
  |int b Y=>exact .of _ rfl ⟨EqAt.tuple_int b Y N Q,RcAt.tuple_int b Y N Q,RcNeAt.tuple_int b Y N Q⟩
  |str b Y=>exact .of _ rfl ⟨EqAt.tuple_str b Y N Q,RcAt.tuple_str b Y N Q,RcNeAt.tuple_str b Y N Q⟩
  |tup b B U L C O J T=>exact .tt a b z B I U N J ⟨w,L,E,M,C,O⟩
  |lst b B U L C O J T=>exact .of _ rfl ⟨EqAt.tuple_list N J Q,RcAt.tuple_list N J Q,RcNeAt.tuple_list N J Q⟩
 |lst a z I w E M N y =>
  cases k2 with
  |non  => exact .of _ rfl ⟨EqAt.list_none N Q,RcAt.list_none N Q,RcNeAt.list_none N Q⟩
  |bl b=>exact .of _ rfl ⟨EqAt.list_bool b N Q,RcAt.list_bool b N Q,RcNeAt.list_bool b N Q⟩
  |int b Y=>exact .of _ rfl ⟨EqAt.list_int b Y N Q,RcAt.list_int b Y N Q,RcNeAt.list_int b Y N Q⟩
  |str b Y=>exact .of _ rfl ⟨EqAt.list_str b Y N Q,RcAt.list_str b Y N Q,RcNeAt.list_str b Y N Q⟩
  |tup b B U L C O J T=>exact .of _ rfl ⟨EqAt.list_tuple N J Q,RcAt.list_tuple N J Q,RcNeAt.list_tuple N J Q⟩
  |lst b B U L C O J T=>exact .ll a b z B I U N J ⟨w,L,E,M,C,O⟩
theorem E3.cast {A:Bk}{u Q:Ac}{b c:As}(e:c=b)(h:E3 A s u Q b):E3 A s u Q c:=e▸h
theorem JM {A:Bk}{a b:Af}{xs ys:Aa D}{ao Q:ah}(U:A.units<Fo)(N:s.heap.IsTuple a ao.toArray)(G:s.heap.IsTuple b Q.toArray)(O:xs.length=ao.length)(C:ys.length=Q.length)
  (sub:∀ j (h1:j<ao.toArray.size) (h2:j<Q.toArray.size),EqAt A.in1 s ao.toArray[j] Q.toArray[j] (jt (xs.getD j .non) (ys.getD j .non))) (same:a=b->xA xs ys=true):E3 A s (.ref a) (.ref b) (xA xs ys):=by
 have e:xA xs ys=((Cg (min ao.toArray.size Q.toArray.size)).all (λj=>jt (xs.getD j .non) (ys.getD j .non))&&ao.toArray.size == Q.toArray.size):=by rw[yZ,O,C];rfl
 have J:=RcAt.tuples N G U sub;have R2:=RcNeAt.tuples N G U sub;rw[<- e] at J R2;refine⟨?_,J,R2⟩;by_cases Y:a=b
 .rw[same Y,Y]
  exact AaP _
 .exact EqAt.of_refs Y J
theorem EM {A:Bk}{a b:Af}{xs ys:Aa D}{ao Q:ah}(U:A.units<Fo)(N:s.heap.IsList a ao.toArray)(G:s.heap.IsList b Q.toArray)(O:xs.length=ao.length)(B:ys.length=Q.length)
  (sub:∀ j (h1:j<ao.toArray.size) (h2:j<Q.toArray.size),EqAt A.in1 s ao.toArray[j] Q.toArray[j] (jt (xs.getD j .non) (ys.getD j .non))) (same:a=b->xA xs ys=true):E3 A s (.ref a) (.ref b) (xA xs ys):=by
 have R:RcAt A s (.ref a) (.ref b) (xA xs ys)/\RcNeAt A s (.ref a) (.ref b) (!xA xs ys):=by
  by_cases J:ao.length=Q.length
  .have e:xA xs ys=(Cg ao.toArray.size).all (λj=>jt (xs.getD j .non) (ys.getD j .non)):=by rw[yZ,O,B,<- J,TD,BEq.rfl,AaQ];rfl
   rw[e];exact⟨RcAt.lists N G J U sub,RcNeAt.lists N G J U sub⟩
  .rw[V0 (by rw[O,B];exact J)]
   have C:(ao.toArray.size != Q.toArray.size)=true:=bne_iff_ne.mpr J;exact⟨RcAt.lists_lengths N G C U,RcNeAt.lists_lengths N G C U⟩
 refine⟨?_,R.1,R.2⟩;by_cases Y:a=b
 .rw[same Y,Y]
  exact AaP _
 .exact EqAt.of_refs Y R.1
theorem ZD (I:Inv X aj σ H s)(r:bh X.K H P α S):∀ (n:Ah) (A:Bk) (d d':D) (u L:Ac),A.units+n<Fo->pl n d=true->pl n d'=true->Kd X P α s d u->Kd X P α s d' L->E3 A s u L (jt d d'):=by
 intro n
 induction n with
 |zero =>
  intro A d d' u L T U N B C;cases JL T B C with
  |of b e h=>exact h.cast e
  |tt=>exact DL U
  |ll=>exact DL U
 |succ m p =>
  intro A d d' u L T U N B C;have G:A.units<Fo:=Nb (Gy _ _) T;have wx:A.in1.units+m<Fo:=by show A.units+1+m<Fo;lia
  have sub:∀ {J Y:Aa D} {O Q:ah},J.all (pl m)=true->Y.all (pl m)=true->kq X P α J Y O Q ->
    ∀ j (U:j<O.toArray.size) (N:j<Q.toArray.size),EqAt A.in1 s O.toArray[j] Q.toArray[j] (jt (J.getD j .non) (Y.getD j .non)):=λ{J Y O Q} z y ⟨vs,ws,t,c,l,c2⟩ j v g=>by
   obtain⟨w1,i,o,k⟩:=uE t c v;obtain⟨w2,f,x,w⟩:=uE l c2 g;exact(p A.in1 _ _ _ _ wx (j9 z k) (j9 y w) (j3 I r (j9 z k) i o) (j3 I r (j9 y w) f x)).eq
  cases JL G B C with
  |of b e h=>exact h.cast e
  |tt a b J Y O Q M E q=>exact(JM G M E q.len1 q.len2 (sub U N q) λe=>by subst e;exact(tQ J Y).symm.trans (cH I r (m+1) _ _ _ U N B C)).cast (tQ J Y)
  |ll a b J Y O Q M E q=>exact(EM G M E q.len1 q.len2 (sub U N q) λe=>by subst e;exact(tP J Y).symm.trans (cH I r (m+1) _ _ _ U N B C)).cast (tP J Y)
def xT:Ah:=30
def j_:G2:=λa b S=>if pl xT a&&pl xT b then .ok (.bl (jt a b)) S else .bad
def k_:G2:=λa b S=>if pl xT a&&pl xT b then .ok (.bl (!jt a b)) S else .bad
set_option tactic.hygienic true in
theorem HQ (B:X.A.units+64<Fo):gh X (Dh .Eq) j_:=by
 intro aj σ H s P α S v u N J a b Q I r G U C O Y;unfold j_ at Y
 split at Y
 .rename_i h
  rw[Bd] at h;exact(ZD I r xT X.A a b N J (by unfold xT;lia) h.1 h.2 (j3 I r h.1 C G) (j3 I r h.2 O U)).rc _ _ _ _ ⟨.bl _,H,I,rfl,xr Y r (by simp only[au])⟩
 .exact Ao Y
set_option tactic.hygienic true in
theorem HW (B:X.A.units+64<Fo):gh X (Dh .NotEq) k_:=by
 intro aj σ H s P α S v u N J a b Q I r G U C O Y;unfold k_ at Y
 split at Y
 .rename_i h
  rw[Bd] at h;exact(ZD I r xT X.A a b N J (by unfold xT;lia) h.1 h.2 (j3 I r h.1 C G) (j3 I r h.2 O U)).ne _ _ _ _ ⟨.bl _,H,I,rfl,xr Y r (by simp only[au])⟩
 .exact Ao Y
end
end _D
end
namespace _D
open _L
variable {aj:aa}{aw:Aa (ci × D)}{ao us:ah}{xs ds:Aa D}{vs:Aa V}{f:Ac->Ac->Jl Ac}{s:Ag}{d:D}{v:V}{Q:VK}{σ:_L.St}
section
variable {X:Cx}
noncomputable def i2 (C:Am->Am->As)(f:Am->Am->D):G2:=λa b S=>match a,b with
 |.int i,.int j=>if C i j then .ok (f i j) S else .bad
 |_,_=>.bad
theorem JR {C:Am->Am->As}{f:Am->Am->D}{a b:D}{S:aq}{P:Hp}{α:ag}{Ok:D->aq->Prop}(h:qG X P α (i2 C f a b S) Ok):∃ i j,a=.int i/\b=.int j/\C i j=true/\Ok (f i j) S:=by
 cases a with
 |int i =>
  cases b with
  |int j =>
   obtain⟨Y,h⟩:=x5 (X:=X) h;exact⟨i,j,rfl,rfl,Y,h⟩
  |_=>exact Ao h
 |_=>exact Ao h
theorem xG {P:Hp}{α:ag}{i:Am}(r:au X.K P α (.int i) v):v=.int i:=by simpa only [au] using r
theorem mO {Y:Am->Am->Prop}{v:Am->Am->V}{C:Am->Am->As}{d:Am->Am->D}(h:kr X f (rI Y v))(J:∀ i j,C i j=true->Y i j)(hv:∀ P α i j,au X.K P α (d i j) (v i j)):gh X f (i2 C d):=
 gh.of h λH P α S x y a b Q r N O G=>by
  obtain⟨i,j,rfl,rfl,U,ok⟩:=JR G;exact⟨i,j,xG N,xG O,J i j U,xr ok r (hv P α i j)⟩
theorem pE {v:Am->Am->V}{d:Am->Am->D}(h:kr X f (qo v))(hv:∀ P α i j,au X.K P α (d i j) (v i j)):gh X f (i2 (λ_ _=>true) d):=
 gh.of h λH P α S x y a b Q r J U Y=>by
  obtain⟨i,j,rfl,rfl,_,ok⟩:=JR Y;exact⟨i,j,xG J,xG U,xr ok r (hv P α i j)⟩
def jH:G2:=i2 (λ_ _=>true) λi j=>.int (i-j)
theorem D1:gh X (Ee .Sub) jH:=pE DC λP α i j=>by simp only[au]
noncomputable def sD (i j:Am):As:=decide (-(2 ^ 64)<i/\i<2 ^ 64)||decide (-(2 ^ 64)<j/\j<2 ^ 64)
theorem BN:gh X (Ee .Mult) (i2 sD λi j=>.int (i*j)):=mO D9 (λi j h=>by
 unfold sD at h;rw[Us] at h;rcases h with h|h
 .exact .inl (Bz h)
 .exact .inr (Bz h)) λP α i j=>by simp only[au]
noncomputable def MU (i j:Am):As:=decide (0<j/\j<1073741824)
def vQ:G2:=i2 MU λi j=>.int (i/j)
theorem LX:gh X (Ee .FloorDiv) vQ:=mO BS (λi j h=>(Bz h:0<j/\j<1073741824)) λP α i j=>by simp only[au]
def yK:G2:=i2 (λ_ j=>decide (0<j)) λi j=>.int (i % j)
theorem LZ:gh X (Ee .Mod) yK:=mO D8 (λi j h=>Bz h) λP α i j=>by simp only[au]
noncomputable def IA (i j:Am):As:=decide (0<=j/\j<=1000000/\i.natAbs<2 ^ 64)
def iZ:G2:=i2 IA λi j=>.int (i ^ j.toNat)
theorem D0:gh X (Ee .Pow) iZ:=mO DB (λi j h=>(Bz h:0<=j/\j<=1000000/\i.natAbs<2 ^ 64)) λP α i j=>by simp only[au]
def vm:G2:=i2 (λ_ _=>true) λi j=>.bl (decide (i<j))
def og:G2:=i2 (λ_ _=>true) λi j=>.bl (decide (i<=j))
def uq:G2:=i2 (λ_ _=>true) λi j=>.bl (decide (j<i))
def wz:G2:=i2 (λ_ _=>true) λi j=>.bl (decide (j<=i))
theorem K5:gh X (Dh .Lt) vm:=pE CA λP α i j=>by simp only[au]
theorem HV:gh X (Dh .LtE) og:=pE HZ λP α i j=>by simp only[au]
theorem HS:gh X (Dh .Gt) uq:=pE HY λP α i j=>by simp only[au]
theorem HR:gh X (Dh .GtE) wz:=pE HX λP α i j=>by simp only[au]
def kY:D->aq->ba D:=λa S=>match a with
 |.int i=>.ok (.int (-i)) S
 |_=>.bad
theorem RJ:yc X (Zv .USub) kY:=by
 intro aj σ H s P α S v J a Q I r U p Y;cases a with
 |int i=>exact RK aj s σ H v J Q I U ⟨i,xG p,xr Y r (by simp only[au])⟩
 |_=>exact Ao Y
noncomputable def uo:G2:=λa b S=>match b with
 |.non=>match a with
  |.non=>.ok (.bl true) S
  |_=>.ok (.bl false) S
 |_=>.bad
theorem BE {P:Hp}{α:ag}(r:au X.K P α d v):decide (v=.non)=(match d with|.non=>true|_=>false):=by
 cases d <;> simp only[au] at r
 case non=>subst r;rfl
 case bl=>subst r;rfl
 case int=>subst r;rfl
 case str=>subst r;rfl
 case ty=>subst r;rfl
 case clo=>obtain⟨rfl,_⟩:=r;rfl
 case obj=>obtain⟨rfl,_⟩:=r;rfl
 case tup=>obtain⟨a,vs,rfl,_⟩:=r;rfl
 case lst=>obtain⟨a,vs,rfl,_⟩:=r;rfl
 case dct0=>obtain⟨a,rfl,_⟩:=r;rfl
 case loc=>obtain⟨a,rfl,_⟩:=r;rfl
 case exn=>obtain⟨a,rfl,_⟩:=r;rfl
 case fd=>obtain⟨a,o,vs,rfl,_⟩:=r;rfl
 case exl=>obtain⟨a,Y,vs,rfl,_⟩:=r;rfl
theorem HU:gh X (Dh .Is) uo:=gh.of D7 λH P α S x y a b Q r U J Y=>by
 cases b with
 |non =>
  simp only[au] at J;refine⟨J,?_⟩;rw[BE U];cases a <;> exact xr Y r (by simp only[au])
 |_=>exact Ao Y
def qV:G2:=λa b S=>match a,b with
 |.int i,.int j=>.ok (.int (i+j)) S
 |.str x,.str y=>if x.length+y.length<=bb then .ok (.str (x++y)) S else .bad
 |.tup xs,.tup Y=>if xs.length+Y.length<=bb then .ok (.tup (xs++Y)) S else .bad
 |.lst xs,.lst Y=>if xs.length+Y.length<=bb then .ok (.lst (xs++Y)) S else .bad
 |_,_=>.bad
theorem uQ {H P:Hp}{α:ag}{S:aq}(I:Inv X aj σ H s)(r:bh X.K H P α S)(p:au X.K P α (.tup xs) v) :
  ∃ a vs ao,v=.ref a/\iy X.K P a vs/\qD X.K P α xs vs/\qJ vs ao/\Qm s.heap a ao.toArray/\xs.length=ao.length/\xs.length<=bb:=by
 simp only[au] at p;obtain⟨a,vs,rfl,q,t⟩:=p;obtain⟨ao,Y,J,z⟩:=I.tuple (xS r.sub q);exact⟨a,vs,ao,rfl,q,t,Y,J,by rw[t.length,Y.length],by rw[t.length,zB];exact z⟩
theorem vM {H P:Hp}{α:ag}{S:aq}(I:Inv X aj σ H s)(r:bh X.K H P α S)(p:au X.K P α (.lst xs) v) :
  ∃ a vs ao n,v=.ref a/\oo X.K P a vs/\qD X.K P α xs vs/\qJ vs ao/\s.heap.get? a=Ab { cls:=.type "list",data:=.seq ao.toArray n } /\ xs.length=ao.length/\xs.length<=bb:=by
 simp only[au] at p;obtain⟨a,vs,rfl,q,t⟩:=p;have:∃ ao n,qJ vs ao/\s.heap.get? a=Ab { cls:=.type "list",data:=.seq ao.toArray n } /\ vs.length<=sizeLine:=by
  rcases q with q|⟨ao,n,e,z,Y⟩
  .obtain⟨z,ao,n,Y,e⟩:=(aI r.sub q).ok I.hok
   exact⟨ao,n,Y,e,z⟩
  .exact⟨ao,n,Y,I.kIn _ _ e,z⟩
 obtain⟨ao,n,Y,e,z⟩:=this;exact⟨a,vs,ao,n,rfl,q,t,Y,e,by rw[t.length,Y.length],by rw[t.length,zB];exact z⟩
theorem rB {H P:Hp}{α:ag}{S:aq}(I:Inv X aj σ H s)(r:bh X.K H P α S)(t:qD X.K P α xs vs)(Y:qJ vs ao)(hz:xs.length<=bb)
  (ok:gw X P α Q (.tup xs) S):EP X aj σ Q (.ref s.heap.objs.size) { s with heap:=s.heap.push { cls:=.type "tuple",data:=.seq ao.toArray } }:=by
 refine⟨.ref s.heap.objs.size,_,I.laid (t':=s.toks) (o:=.tup vs) (λb J q=>Aj _ q) (Av _) ⟨by rw[<- t.length,<- zB];exact hz,ao,Y,Yv _ _⟩,rfl,gH r (I.hok.fresh (Av _)) t ok⟩
theorem f7 {H P:Hp}{α:ag}{S:aq}(I:Inv X aj σ H s)(r:bh X.K H P α S)(t:qD X.K P α xs vs)(Y:qJ vs ao)(hz:xs.length<=bb)
  (ok:gw X P α Q (.lst xs) S):EP X aj σ Q (.ref s.heap.objs.size) { s with heap:=s.heap.push { cls:=.type "list",data:=.seq ao.toArray } }:=by
 refine⟨.ref s.heap.objs.size,_,I.laid (t':=s.toks) (o:=.lst vs) (λb J q=>Aj _ q) (Av _) ⟨by rw[<- t.length,<- zB];exact hz,ao,0,Y,Bj _ rfl⟩,rfl,w8 r (I.hok.fresh (Av _)) t ok⟩
theorem MP {H P:Hp}{α:ag}{S:aq}{ys:Aa D}{u:V}{l w:Ac}(I:Inv X aj σ H s)(r:bh X.K H P α S)(e:qK v l)(i:qK u w)(c:au X.K P α (.tup xs) v)(g:au X.K P α (.tup ys) u)(q:xs.length+ys.length<=bb)(T:gw X P α Q (.tup (xs++ys)) S) :
  Ap (Au X.prog X.w) X.A (Ee .Add l w) (EP X aj σ Q) X.xe s:=by
 obtain⟨a,vs,ao,rfl,q1,t1,B,m,k,_⟩:=uQ I r c;obtain⟨b,ws,Y,rfl,q2,t2,E,p,t,_⟩:=uQ I r g;cases e;cases i;by_cases O:ao=[]
 .obtain⟨⟨cls,dd,data,h⟩,y,o,n,M⟩:=id m
  obtain⟨⟨j,L,data2,C⟩,U,J,x,G⟩:=id p;simp only at o M J G;subst o M J G;have A:xs=[]:=Ke.mp (by rw[k,O];rfl)
  subst A;exact Yi ⟨_,y,rfl⟩ ⟨_,U,rfl⟩ Tj Wy Oa Ni (My _ _) (tuple_addW0 a b ao.toArray Y.toArray n x dd L h C (by simp[O]))
   ⟨y,U,⟨.ref b,H,I,rfl,xr T r g⟩⟩
 .refine _H.qt m p O (λz=>⟨.ref a,H,I,rfl,xr T r ?_⟩) (λz=>?_) (by rw[<- k,<- t,<- zB];exact q)
  .have N:ys=[]:=Ke.mp (by rw[t,z];rfl)
   rw[N,Hg];exact c
  .exact rB I r (t1.append t2) (B.append E) (by rw[Ca];exact q) T
theorem MN {H P:Hp}{α:ag}{S:aq}{ys:Aa D}{u:V}{O U:Ac}(I:Inv X aj σ H s)(r:bh X.K H P α S)(L:qK v O)(C:qK u U)(w:au X.K P α (.lst xs) v)(A:au X.K P α (.lst ys) u)(N:xs.length+ys.length<=bb)(T:gw X P α Q (.lst (xs++ys)) S) :
  Ap (Au X.prog X.w) X.A (Ee .Add O U) (EP X aj σ Q) X.xe s:=by
 obtain⟨a,vs,ao,n,rfl,q,M,Y,y,B,_⟩:=vM I r w;obtain⟨b,k,G,p,rfl,o,z,J,E,j,_⟩:=vM I r A;cases L;cases C;refine Tq y E ?_ (by rw[Bg,Bg,<- B,<- j,<- zB];exact N)
 rw[Qi];exact f7 I r (M.append z) (Y.append J) (by rw[Ca];exact N) T
inductive yk (a b:D)(S:aq):Prop
 |bad (e:qV a b S=.bad)
 |int (i j:Am) (ea:a=.int i) (eb:b=.int j)
 |str (x y:An) (ea:a=.str x) (eb:b=.str y)
 |tup (x y:Aa D) (ea:a=.tup x) (eb:b=.tup y)
 |lst (x y:Aa D) (ea:a=.lst x) (eb:b=.lst y)
theorem AW (a b:D)(S:aq):yk a b S:=by
 cases a with
 |int i=>cases b with
  |int j=>exact .int i j rfl rfl
  |_=>exact .bad rfl
 |str i=>cases b with
  |str j=>exact .str i j rfl rfl
  |_=>exact .bad rfl
 |tup i=>cases b with
  |tup j=>exact .tup i j rfl rfl
  |_=>exact .bad rfl
 |lst i=>cases b with
  |lst j=>exact .lst i j rfl rfl
  |_=>exact .bad rfl
 |_=>exact .bad rfl
theorem LW:gh X (Ee .Add) qV:=by
 intro aj σ H s P α S v u T L a b Q I r B C O N Y;cases AW a b S with
 |bad e=>rw[e] at Y;exact Ao Y
 |int i j J U =>
  subst J U;exact D6 aj s σ H v u T L Q I B C ⟨i,j,xG O,xG N,xr Y r (by simp only[au])⟩
 |str x y J U =>
  subst J U;obtain⟨G,Y⟩:=x5 (X:=X) Y;simp only[au] at O N;exact oJ aj s σ H v u T L Q I B C ⟨x,y,O,N,by rw[<- zB];exact G,xr Y r (by simp only[au])⟩
 |tup xs E J U =>
  subst J U;obtain⟨G,Y⟩:=x5 (X:=X) Y;exact MP I r B C O N G Y
 |lst xs E J U =>
  subst J U;obtain⟨G,Y⟩:=x5 (X:=X) Y;exact MN I r B C O N G Y
def gu:G2:=λa b S=>match b with
 |.int k=>match a with
  |.tup xs=>yA (gg xs k) S
  |.lst xs=>yA (gg xs k) S
  |.loc i=>match S[i]? with
   |some (.lst xs)=>yA (gg xs k) S
   |_=>.bad
  |_=>.bad
 |_=>.bad
theorem tG {P:Hp}{α:ag}{k:Am}(Y:qD X.K P α ds vs)(h:gg ds k=Ab d):∃ v,gg vs k=Ab v/\au X.K P α d v:=by
 unfold gg at h ⊢;rw[<- Y.length];cases q:mw ds.length k with
 |none=>rw[q] at h;cases h
 |some j =>
  rw[q] at h;obtain⟨v,U,J⟩:=Y.get (show ds[j]? = Ab d from h)
  exact⟨v,U,J⟩
theorem L3:xm X gu:=by
 intro Y J aj σ H s P α S v u E C a b Q I r T L N j G B;cases b with
 |int k =>
  have A:=xG j;cases a with
  |tup xs =>
   obtain⟨d,e,ok⟩:=v7 (X:=X) G;simp only[au] at N;obtain⟨p,vs,rfl,q,t⟩:=N;obtain⟨w,O,U⟩:=tG t e;exact L5 Y J aj s σ H _ u E C Q I T L ⟨p,vs,k,w,rfl,A,xS r.sub q,O,xr ok r U⟩ B
  |lst xs =>
   obtain⟨d,e,ok⟩:=v7 (X:=X) G;simp only[au] at N;obtain⟨p,vs,rfl,q,t⟩:=N;obtain⟨w,O,U⟩:=tG t e;exact cV Y J aj s σ H _ u E C Q I T L ⟨p,vs,k,w,rfl,A,(xP r.sub q).l,O,xr ok r U⟩ B
  |loc i =>
   obtain⟨xs,M,G⟩:=gG (X:=X) (f:=λxs=>yA (gg xs k) S) G;obtain⟨d,e,ok⟩:=v7 (X:=X) G;simp only[au] at N;obtain⟨p,rfl,q⟩:=N;obtain⟨vs,z,t⟩:=r.at' i p _ q M;obtain⟨w,O,U⟩:=tG t e;exact cV Y J aj s σ H _ u E C Q I T L ⟨p,vs,k,w,rfl,A,.of z,O,xr ok r U⟩ B
  |_=>exact Ao G
 |_=>exact Ao G
def tU:G3:=λo i d S=>match o,i with
 |.loc n,.int k=>match S[n]? with
  |some (.lst xs)=>match mw xs.length k with
   |some j=>.ok () (S.set n (.lst (xs.set j d)))
   |none=>.bad
  |_=>.bad
 |_,_=>.bad
theorem CQ:dU X (dR X tU):=by
 intro aj s σ H o i v T N u Q I L B O h;obtain⟨P,α,S,a,b,d,r,G,C,E,Y⟩:=h;cases a with
 |loc n =>
  cases b with
  |int k =>
   obtain⟨xs,U,Y⟩:=gG (X:=X) (f:=λxs=>match mw xs.length k with|some j=>.ok () (S.set n (.lst (xs.set j d)))|none=>.bad) Y
   cases J:mw xs.length k with
   |none=>rw[J] at Y;exact Ao Y
   |some j =>
    rw[J] at Y;simp only[au] at G;obtain⟨p,rfl,q⟩:=G;obtain⟨vs,z,t⟩:=r.at' n p _ q U;refine US aj s σ H _ i v T N u Q I L B O ⟨p,vs,k,j,rfl,xG C,z,by rw[<- t.length];exact J,?_⟩
    refine Y _ P α (r.put (m':=.lst (xs.set j d)) q U (by intro z;cases z) ⟨vs.set j v,zK,t.set E j⟩) (qF.refl _) (Bu _)
  |_=>exact Ao Y
 |_=>exact Ao Y
def oC:D->aq->Ak Ah
 |.tup xs,_=>Ab xs.length
 |.lst xs,_=>Ab xs.length
 |.str x,_=>if x.length<=bb then Ab x.length else none
 |.dct0,_=>Ab 0
 |.loc i,S=>match S[i]? with
  |some (.lst xs)=>Ab xs.length
  |_=>none
 |_,_=>none
def sV:DF:=λds S=>match ds with
 |[d]=>match oC d S with
  |some n=>.ok (.int n) S
  |none=>.bad
 |_=>.bad
end
section
variable {X:Cx}
theorem wD {P:Hp}{α:ag}(Y:qD X.K P α [d] vs)(J:qJ vs us):∃ v u,vs=[v]/\us=[u]/\au X.K P α d v/\qK v u:=by
 obtain⟨v,U,rfl,p,t⟩:=Y.cons_inv;have:=t.nil_inv;subst this;obtain⟨u,rfl,q⟩:=vZ J;exact⟨v,u,rfl,rfl,p,q⟩
theorem mV {P:Hp}{α:ag}{e:D}(Y:qD X.K P α [d,e] vs)(U:qJ vs us):∃ v w u x,vs=[v,w]/\us=[u,x]/\au X.K P α d v/\au X.K P α e w/\qK v u/\qK w x:=by
 obtain⟨v,N,rfl,p,t⟩:=Y.cons_inv;obtain⟨w,N,rfl,G,t⟩:=t.cons_inv;have:=t.nil_inv;subst this;obtain⟨u,x,rfl,q,J⟩:=Q4 U;exact⟨v,w,u,x,rfl,rfl,p,G,q,J⟩
def oB (d:D)(S:aq):Ak Ah:=match d with
 |.dct0=>none
 |_=>oC d S
theorem LH {H P:Hp}{α:ag}{S:aq}{n:Ah}(r:bh X.K H P α S)(p:au X.K P α d v)(Y:oB d S=Ab n):MF X.K v H n:=by
 cases d with
 |str x =>
  cases (show v=.str x from p)
  obtain⟨G,rfl⟩:=gB Y;exact⟨by rw[<- zB];exact G,rfl⟩
 |tup xs =>
  simp only[au] at p;obtain⟨a,J,rfl,sq,t⟩:=p;cases Y;exact .inr ⟨J,xS r.sub sq,t.length⟩
 |lst xs =>
  simp only[au] at p;obtain⟨a,J,rfl,sq,t⟩:=p;cases Y;exact .inl ⟨J,(xP r.sub sq).l,t.length⟩
 |loc i =>
  simp only[au] at p;obtain⟨a,rfl,e⟩:=p;obtain⟨xs,U,Y⟩:=LK (f:=λxs=>Ab xs.length) Y;cases Y;obtain⟨J,z,t⟩:=r.at' i a _ e U;exact .inl ⟨J,.of z,t.length⟩
 |_=>exact nn Y
inductive wa (ds:Aa D)(S:aq)(r:ba D):Prop
 |bad (e:r=.bad)
 |of (d:D) (n:Ah) (ed:ds=[d]) (hn:oB d S=Ab n) (e:r=.ok (.int n) S)
theorem H9 (ds:Aa D)(S:aq):wa ds S (match ds with|[.dct0]=>.bad|_=>sV ds S):=by
 cases ds with
 |nil=>exact .bad rfl
 |cons d ds =>
  cases ds with
  |cons _ _=>cases d <;> exact .bad rfl
  |nil =>
   have z:(match [d] with|[D.dct0]=>ba.bad|_=>sV [d] S)=(match oB d S with|some n=>ba.ok (D.int n) S|none=>.bad):=by cases d <;> rfl
   rw[z];cases Y:oB d S with
   |none=>exact .bad rfl
   |some n=>exact .of d n rfl Y rfl
theorem MX (C:NE):wC X (.builtin "len") (λds S=>match ds with|[.dct0]=>.bad|_=>sV ds S):=by
 intro aj σ H s P α S vs us ds Q I r J O U;have Y:qG X P α (match ds with|[D.dct0]=>ba.bad|_=>sV ds S) (gw X P α Q):=U
 clear U;cases H9 ds S with
 |bad e=>rw[e] at Y;exact Ao Y
 |of d n G N e =>
  rw[e] at Y;subst G;obtain⟨v,u,rfl,rfl,p,q⟩:=wD O J;exact YA aj s σ H _ _ Q I J ⟨v,n,rfl,LH r p N,xr Y r (by simp only[au])⟩
noncomputable def mn:D->aq->Ak Eg
 |.non,_=>Ab "NoneType"
 |.bl _,_=>Ab "bool"
 |.int _,_=>Ab "int"
 |.str _,_=>Ab "str"
 |.tup _,_=>Ab "tuple"
 |.lst _,_=>Ab "list"
 |.dct0,_=>Ab "dict"
 |.loc i,S=>match S[i]? with
  |some (.lst _)=>Ab "list"
  |some (.dct _)=>Ab "dict"
  |_=>none
 |_,_=>none
def gA (a b:Eg):As:=a == b||(a == "bool" && b == "int")
noncomputable def fE (b:Eg):As:=b == "int" || b == "bool" || b == "tuple" || b == "list" || b == "str" || b == "dict"
noncomputable def LC (a b:Eg):Ak As:=if (Ji a == Ji b)=true then Ab true else if PySem.W.kitMeta b=true then (fastBuiltinMro a).map (·.contains (.type b)) else none
noncomputable def xt:Aa Eg:=["NoneType","bool","int","str","tuple","list","dict"]
noncomputable def xw:Aa Eg:=["int","bool","tuple","list","str","dict"]
theorem PV:(xt.all λa=>xw.all λb=>decide (LC a b=Ab (gA a b)))=true:=by decide +kernel
theorem D4 {b:Eg}(Y:fE b=true):b∈xw:=by simpa [fE,xw,or_assoc] using Y
theorem PX {K:Ai}{a b:Eg}(J:a∈xt)(Y:fE b=true):Lq K (.type a) (.type b)=Ab (gA a b):=
 Bz (p:=LC a b=Ab (gA a b)) (Bs.mp (Bs.mp PV a J) b (D4 Y))
def zO:DF:=λds S=>match ds with
 |[d,.ty b]=>if fE b then match mn d S with
   |some a=>.ok (.bl (gA a b)) S
   |none=>.bad
  else .bad
 |_=>.bad
inductive X_ (X:Cx)(H:Hp)(v:V)(a:Eg):Prop
 |of (t:jf X.K H v (.type a))
 |tup (p:Af) (vs:Aa V) (e:v=.ref p) (q:iy X.K H p vs) (ea:a = "tuple")
 |lst (p:Af) (vs:Aa V) (e:v=.ref p) (q:jg X.K H p vs) (ea:a = "list")
theorem RI {S:aq}{a:Eg}(h:mn d S=Ab a):a∈xt:=by
 cases d with
 |non=>cases h;exact .head _
 |bl b=>cases h;exact .tail _ (.head _)
 |int i=>cases h;exact .tail _ (.tail _ (.head _))
 |str x=>cases h;exact .tail _ (.tail _ (.tail _ (.head _)))
 |tup xs=>cases h;exact .tail _ (.tail _ (.tail _ (.tail _ (.head _))))
 |lst xs=>cases h;exact .tail _ (.tail _ (.tail _ (.tail _ (.tail _ (.head _)))))
 |dct0=>cases h;exact .tail _ (.tail _ (.tail _ (.tail _ (.tail _ (.tail _ (.head _))))))
 |loc i =>
  rcases nD (f:=λ_=>Ab "list") (g:=λ_=>Ab "dict") h with⟨_,_,h⟩|⟨_,_,h⟩
  .cases h;exact .tail _ (.tail _ (.tail _ (.tail _ (.tail _ (.head _)))))
  .cases h;exact .tail _ (.tail _ (.tail _ (.tail _ (.tail _ (.tail _ (.head _))))))
 |_=>exact nn h
theorem A3 {H P:Hp}{α:ag}{S:aq}{a:Eg}(r:bh X.K H P α S)(p:au X.K P α d v)(h:mn d S=Ab a):X_ X H v a:=by
 cases d with
 |non=>cases h;cases (show v=.non from p);exact .of .non
 |bl b=>cases h;cases (show v=.bl b from p);exact .of (.bl b)
 |int i=>cases h;cases (show v=.int i from p);exact .of (.int i)
 |str x=>cases h;cases (show v=.str x from p);exact .of (.str x)
 |tup xs =>
  cases h;simp only[au] at p;obtain⟨a,vs,e,q,t⟩:=p;exact .tup a vs e (xS r.sub q) rfl
 |lst xs =>
  cases h;simp only[au] at p;obtain⟨a,vs,e,q,t⟩:=p;exact .lst a vs e (xP r.sub q).l rfl
 |dct0 =>
  cases h;simp only[au] at p;obtain⟨a,rfl,q⟩:=p;exact .of (.dK (r.sub _ _ q))
 |loc i =>
  simp only[au] at p;obtain⟨a,rfl,q⟩:=p;rcases nD (f:=λ_=>Ab "list") (g:=λ_=>Ab "dict") h with⟨xs,Y,h⟩|⟨aw,Y,h⟩
  .cases h
   obtain⟨vs,z,t⟩:=r.at' i a _ q Y;exact .of (.lst z)
  .cases h
   obtain⟨vs,z,t⟩:=r.at' i a _ q Y;exact .of (.dK z)
 |_=>exact nn h
inductive yg (ds:Aa D)(S:aq):Prop
 |bad (e:zO ds S=.bad)
 |of (d:D) (b a:Eg) (ed:ds=[d,.ty b]) (hb:fE b=true) (ha:mn d S=Ab a) (e:zO ds S=.ok (.bl (gA a b)) S)
theorem IK (ds:Aa D)(S:aq):yg ds S:=by
 cases ds with
 |nil=>exact .bad rfl
 |cons d ds =>
  cases ds with
  |nil=>exact .bad rfl
  |cons e ds =>
   cases ds with
   |cons _ _=>cases e <;> exact .bad rfl
   |nil =>
    cases e with
    |ty b =>
     have z:zO [d,.ty b] S=if fE b then (match mn d S with|some a=>.ok (.bl (gA a b)) S|none=>.bad) else .bad:=rfl
     by_cases J:fE b=true
     .rw[Ax J] at z
      cases Y:mn d S with
      |none=>rw[Y] at z;exact .bad z
      |some a=>rw[Y] at z;exact .of d b a rfl J Y z
     .rw[Bb J] at z
      exact .bad z
    |_=>exact .bad rfl
theorem QP:wC X (.builtin "isinstance") zO:=by
 intro aj σ H s P α S vs us ds Q I r A j G;cases IK ds S with
 |bad e=>rw[e] at G;exact Ao G
 |of d b a E k T e =>
  subst E;rw[e] at G;obtain⟨v,w,u,x,rfl,rfl,p,U,q,y⟩:=mV j A;simp only[au] at U;subst U;cases (show x=Ji b from y)
  have Y:=PX (K:=X.K) (RI T) k;have J:∀ O,EP X aj σ Q (.bool (gA a b)) { s with toks:=O }:=λO=>⟨.bl _,H,I.tok O,rfl,xr G r (by simp only[au])⟩
  cases A3 r p T with
  |of l=>exact ZS I q l Y J
  |tup U M e sq N =>
   subst e N;cases (show u=Dk U from q)
   obtain⟨ao,L,⟨o,B,C,_⟩,_⟩:=I.tuple sq;exact Eh Xz I.kIn ⟨o,B,C⟩ Y (λz=>nomatch z) J
  |lst U M e sq N =>
   subst e N;cases (show u=Dk U from q)
   obtain⟨ao,L,⟨o,_,B,C,_⟩,_⟩:=I.list sq;exact Eh Rx I.kIn ⟨o,B,C⟩ Y (λz=>nomatch z) J
noncomputable def xC:Aa D->Ak (Aa As)
 |[]=>Ab []
 |.bl b::r=>(xC r).map (b::·)
 |_=>none
theorem yG {P:Hp}{α:ag}:∀ {ds:Aa D} {bs:Aa As} {vs:Aa V} {us:ah},xC ds=Ab bs->qD X.K P α ds vs->qJ vs us->us=bs.map Fu
 |[],bs,vs,us,h,Y,J=>by
  cases h;have:=Y.nil_inv;subst this;cases J;rfl
 |d::ds,bs,vs,us,h,Y,J=>by
  cases d with
  |bl b =>
   obtain⟨G,q,rfl⟩:=Gf.mp (show (xC ds).map (b::·)=Ab bs from h)
   obtain⟨w,O,rfl,p,t⟩:=Y.cons_inv;simp only[au] at p;subst p;cases J with
   |cons N U =>
    cases (show _=Fu b from N)
    rw[yG q t U];rfl
  |_=>exact nn h
def jG (Y:As):DF:=λds S=>match ds with
 |[d]=>match (x8 d).bind xC with
  |some J=>.ok (.bl (if Y then J.any id else J.all id)) S
  |none=>.bad
 |_=>.bad
theorem lO (bs:Aa As):((Cg bs.length).all λi=>bs.getD i false)=bs.all id:=by
 induction bs with
 |nil=>rfl
 |cons b bs Y =>
  rw[Bc,Kz,Me,Lu,Me,<- Y];rfl
theorem lP (bs:Aa As):((Cg bs.length).any λi=>bs.getD i false)=bs.any id:=by
 induction bs with
 |nil=>rfl
 |cons b bs Y =>
  rw[Bc,Kz,Kv,List.any_map,Kv,<- Y];rfl
theorem ZT {H:Hp}{o:Ch}{h':Bn}{J:Ah}(I:Inv X aj σ H s)(k:∀ b Y,b ∉ [s.heap.objs.size]->(s.heap.push o).get? b=Ab Y->h'.get? b=Ab Y):Inv X aj σ H { s with heap:=h',toks:=J }:=
 I.kept λb u e=>k b u (by simp;exact Cp (Bh e)) (Aj _ e)
theorem jB {bs:Aa As}(hi:ao=bs.map Fu){A:Bk}:TruthOf X.prog X.w A (λi v=>ao.toArray[i]? = Ab v) (λi=>bs.getD i false):=λi v U N O hv G=>by
 subst hi;have Y:(bs.map Fu)[i]? = Ab v:=by simpa using hv
 rw[Ea] at Y;cases e:bs[i]? with
 |none=>rw[e] at Y;exact nn Y
 |some b =>
  rw[e] at Y;cases Dc Y;have:bs.getD i false=b:=by simp[Jq,e]
  have J:N (bs.getD i false) U:=G;rw[this] at J;exact Yw J
theorem P9 {Y:As}{S:aq}{P:Hp}{α:ag}{Ok:D->aq->Prop}(h:qG X P α (jG Y ds S) Ok):∃ d xs bs,ds=[d]/\zn d xs/\xC xs=Ab bs/\Ok (.bl (if Y then bs.any id else bs.all id)) S:=by
 obtain⟨d,rfl,J⟩:=rO (X:=X) (β:=D) (g:=λd=>match (x8 d).bind xC with|some bs=>.ok (D.bl (if Y then bs.any id else bs.all id)) S|none=>.bad) h
 cases G:(x8 d).bind xC with
 |none=>rw[G] at J;exact Ao J
 |some bs =>
  rw[G] at J;obtain⟨xs,N,U⟩:=Em.mp G;exact⟨d,xs,bs,rfl,xy N,U,J⟩
theorem MV (J:As)(hc:X.calm=true):wC X (.builtin (if J then "any" else "all")) (jG J):=by
 intro aj σ H s P α S vs us ds Q I r j g i;obtain⟨d,xs,z,A,h,T,ok⟩:=P9 i;clear i;subst A;obtain⟨v,u,rfl,rfl,p,q⟩:=wD g j;clear g;have N:∀ {o:Ch} (U:Bn) (G:Ah),(∀ b x,b ∉ [s.heap.objs.size]->(s.heap.push o).get? b=Ab x->U.get? b=Ab x)->EP X aj σ Q (.bool (if J then z.any id else z.all id)) { s with heap:=U,toks:=G }:=
  λ{o} U G k=>⟨.bl _,H,ZT I k,rfl,xr ok r (by simp only[au])⟩
 clear j ok;have l:X.A.in1.handled=none:=I.ok.hd hc;cases h with
 |tup A =>
  subst A;obtain⟨a,ws,ao,rfl,sq,t,L,B,hl,_⟩:=uQ I r p;cases (show u=Dk a from q)
  have O:=yG T t L;have Y:ao.toArray.size=z.length:=by rw[O];simp
  have C:a≠s.heap.objs.size:=by obtain⟨o,e,_⟩:=B;exact Cp (Bh e)
  have W:=Walks.tuple (prog:=X.prog) (w:=X.w) l s.heap.objs.size a C ao.toArray;have y:∀ o,(s.heap.push o).IsTuple a ao.toArray:=λo=>by obtain⟨o,e,c⟩:=B;exact⟨o,Aj _ e,c⟩
  have M:s.heap.IsTuple a ao.toArray:=B;cases J with
  |false =>
   refine call_all_walk (Jb M ⟨s.heap.objs.size,_,_,_,_,_,_,rfl,W,⟨⟨_,Bj _ rfl,rfl,rfl⟩,y _⟩,jB O,λU G k=>?_⟩);rw[Y,lO];exact N U G k
  |true =>
   refine call_any_walk (Jb M ⟨s.heap.objs.size,_,_,_,_,_,_,rfl,W,⟨⟨_,Bj _ rfl,rfl,rfl⟩,y _⟩,jB O,λU G k=>?_⟩);rw[Y,lP];exact N U G k
 |lst A =>
  subst A;obtain⟨a,ws,ao,n,rfl,sq,t,L,B,hl,_⟩:=vM I r p;cases (show u=Dk a from q)
  have m:s.heap.IsList a ao.toArray:=⟨_,B,rfl,n,rfl⟩;have O:=yG T t L;have Y:ao.toArray.size=z.length:=by rw[O];simp
  have C:a≠s.heap.objs.size:=Cp (Bh B);have W:=Walks.list (prog:=X.prog) (w:=X.w) l s.heap.objs.size a C ao.toArray;have E:∀ o,(s.heap.push o).IsList a ao.toArray:=λo=>⟨_,Aj _ B,rfl,n,rfl⟩;cases J with
  |false =>
   refine call_all_walk (Ia m ⟨s.heap.objs.size,_,_,_,_,_,_,rfl,W,⟨⟨_,Bj _ rfl,rfl,rfl⟩,E _⟩,jB O,λU G k=>?_⟩);rw[Y,lO];exact N U G k
  |true =>
   refine call_any_walk (Ia m ⟨s.heap.objs.size,_,_,_,_,_,_,rfl,W,⟨⟨_,Bj _ rfl,rfl,rfl⟩,E _⟩,jB O,λU G k=>?_⟩);rw[Y,lP];exact N U G k
def iW:DF:=λds S=>match ds with
 |[.int i]=>.ok (.int i) S
 |[.bl b]=>.ok (.int (xa b)) S
 |_=>.bad
inductive yh (ds:Aa D)(S:aq):Prop
 |bad (e:iW ds S=.bad)
 |int (i:Am) (e:ds=[.int i])
 |bl (b:As) (e:ds=[.bl b])
theorem IH (ds:Aa D)(S:aq):yh ds S:=by
 cases ds with
 |nil=>exact .bad rfl
 |cons d ds =>
  cases ds with
  |cons _ _=>cases d <;> exact .bad rfl
  |nil =>
   cases d with
   |int i=>exact .int i rfl
   |bl b=>exact .bl b rfl
   |_=>exact .bad rfl
theorem MW:wC X (.type "int") iW:=by
 intro aj σ H s P α S vs us ds Q I r Y U J;cases IH ds S with
 |bad e=>rw[e] at J;exact Ao J
 |int i e =>
  subst e;obtain⟨v,u,rfl,rfl,p,q⟩:=wD U Y;exact l5 aj s σ H _ _ Q I Y (.inl ⟨_,by rw[xG p],xr J r (by simp only[au])⟩)
 |bl b e =>
  subst e;obtain⟨v,u,rfl,rfl,p,q⟩:=wD U Y;simp only[au] at p;subst p;exact l5 aj s σ H _ _ Q I Y (.inr ⟨_,rfl,xr J r (by simp only[au];rfl)⟩)
def yI:DF:=λds S=>match ds with
 |[d]=>match x8 d with
  |some xs=>.ok (.tup xs) S
  |none=>.bad
 |_=>.bad
theorem YD:wC X (.type "tuple") yI:=by
 intro aj σ H s P α S vs us ds Q I r G B L;obtain⟨d,rfl,Y⟩:=rO (X:=X) (β:=D) (g:=λd=>match x8 d with|some xs=>.ok (D.tup xs) S|none=>.bad) L
 obtain⟨xs,U,J⟩:∃ xs,x8 d=Ab xs/\gw X P α Q (.tup xs) S:=by
  cases U:x8 d with
  |none=>rw[U] at Y;exact Ao Y
  |some xs=>rw[U] at Y;exact⟨xs,rfl,Y⟩
 obtain⟨v,u,rfl,rfl,p,q⟩:=wD B G;cases xy U with
 |tup e =>
  subst e;have O:=p;simp only[au] at p;obtain⟨a,N,rfl,sq,t⟩:=p;exact gU aj s σ H _ _ Q I G ⟨a,N,rfl,.inr ⟨xS r.sub sq,xr J r O⟩⟩
 |lst e =>
  subst e;simp only[au] at p;obtain⟨a,N,rfl,sq,t⟩:=p;exact gU aj s σ H _ _ Q I G ⟨a,N,rfl,.inl ⟨(xP r.sub sq).l,λl C=>gH r C t J⟩⟩
def pQ:DF:=λds S=>match ds with
 |[d]=>match x8 d with
  |some xs=>.ok (.lst xs) S
  |none=>.bad
 |_=>.bad
theorem KZ:wC X (.type "list") pQ:=by
 intro aj σ H s P α S vs us ds Q I r G C B;obtain⟨d,rfl,Y⟩:=rO (X:=X) (β:=D) (g:=λd=>match x8 d with|some xs=>.ok (D.lst xs) S|none=>.bad) B
 obtain⟨xs,U,J⟩:∃ xs,x8 d=Ab xs/\gw X P α Q (.lst xs) S:=by
  cases U:x8 d with
  |none=>rw[U] at Y;exact Ao Y
  |some xs=>rw[U] at Y;exact⟨xs,rfl,Y⟩
 obtain⟨v,u,rfl,rfl,p,q⟩:=wD C G;cases xy U with
 |tup e =>
  subst e;simp only[au] at p;obtain⟨a,N,rfl,sq,t⟩:=p;exact gX aj s σ H _ _ Q I G ⟨a,N,rfl,.inr (xS r.sub sq),λl O=>w8 r O t J⟩
 |lst e =>
  subst e;simp only[au] at p;obtain⟨a,N,rfl,sq,t⟩:=p;exact gX aj s σ H _ _ Q I G ⟨a,N,rfl,.inl ((xP r.sub sq).l),λl O=>w8 r O t J⟩
end
section
variable {X:Cx}
structure rq (K:Ai)(cl:ag):Prop where
 ex:∀ C∈cl,ow K C
 one:∀ C∈cl,∀ B∈cl,Lq K (.ref C) (.ref B)=Ab (C == B)
 ve:∀ C∈cl,Lq K (.ref C) (.type "ValueError")=Ab true
def zR (Y:ag):DF:=λds S=>match ds with
 |[.exn (.ref C),.obj B]=>if Y.contains C&&Y.contains B then .ok (.bl (C == B)) S else .bad
 |[.exn (.ref C),.ty b]=>if Y.contains C&&(b == "ValueError") then .ok (.bl true) S else .bad
 |_=>zO ds S
theorem ZG {H P:Hp}{α:ag}{S:aq}{C:Af}{u:Ac}(I:Inv X aj σ H s)(r:bh X.K H P α S)(p:au X.K P α (.exn (.ref C)) v)(q:qK v u):∃ a,u=.ref a/\v9 a C s.heap:=by
 simp only[au] at p;obtain⟨a,rfl,z⟩:=p;obtain⟨y,_⟩:=I.hok a _ (r.sub _ _ z);exact⟨a,q,y⟩
inductive wd (cl:ag)(ds:Aa D)(S:aq):Prop
 |bad (e:zR cl ds S=.bad)
 |old (e:zR cl ds S=zO ds S)
 |obj (C B:Af) (ed:ds=[.exn (.ref C),.obj B]) (h1:C∈cl) (h2:B∈cl) (e:zR cl ds S=.ok (.bl (C == B)) S)
 |ve (C:Af) (ed:ds=[.exn (.ref C),.ty "ValueError"]) (h1:C∈cl) (e:zR cl ds S=.ok (.bl true) S)
theorem EV (Y:ag)(C:Af)(d:D)(S:aq):wd Y [.exn (.ref C),d] S:=by
 cases d with
 |obj B =>
  have z:zR Y [.exn (.ref C),.obj B] S=if (Y.contains C&&Y.contains B)=true then .ok (.bl (C == B)) S else .bad:=rfl
  by_cases h:(Y.contains C&&Y.contains B)=true
  .rw[Ax h] at z
   have J:=Fk.mp h;exact .obj C B rfl (Fx.mp J.1) (Fx.mp J.2) z
  .rw[Bb h] at z
   exact .bad z
 |ty b =>
  have z:zR Y [.exn (.ref C),.ty b] S=if (Y.contains C&&(b == "ValueError"))=true then .ok (.bl true) S else .bad:=rfl
  by_cases h:(Y.contains C&&(b == "ValueError"))=true
  .rw[Ax h] at z
   have J:=Fk.mp h;cases (Qh.mp J.2);exact .ve C rfl (Fx.mp J.1) z
  .rw[Bb h] at z
   exact .bad z
 |_=>exact .old rfl
theorem IJ (Y:ag)(ds:Aa D)(S:aq):wd Y ds S:=by
 cases ds with
 |nil=>exact .old rfl
 |cons a ds =>
  cases a with
  |exn c =>
   cases c with
   |ref C =>
    cases ds with
    |nil=>exact .old rfl
    |cons b ds =>
     cases ds with
     |nil=>exact EV Y C b S
     |cons _ _=>cases b <;> exact .old rfl
   |_=>exact .old rfl
  |_=>exact .old rfl
theorem KW {L:ag}(hK:rq X.K L):wC X (.builtin "isinstance") (zR L):=by
 intro aj σ H s P α S vs us ds Q I r N T Y;cases IJ L ds S with
 |bad e=>rw[e] at Y;exact Ao Y
 |old e=>rw[e] at Y;exact QP aj σ H s P α S vs us ds Q I r N T Y
 |obj C B G U M e =>
  rw[e] at Y;subst G;obtain⟨v,w,u,x,rfl,rfl,p,J,q,E⟩:=mV T N;simp only[au] at J;obtain⟨rfl,_⟩:=J;cases (show x=Dk B from E)
  obtain⟨a,rfl,A⟩:=ZG I r p q;exact Eh (rA (hK.ex C U)) I.kIn A (hK.one C U B M) (λz=>nomatch z) λO=>⟨.bl _,H,I.tok O,rfl,xr Y r (by simp only[au])⟩
 |ve C G U e =>
  rw[e] at Y;subst G;obtain⟨v,w,u,x,rfl,rfl,p,J,q,E⟩:=mV T N;simp only[au] at J;subst J;cases (show x=Ji "ValueError" from E)
  obtain⟨a,rfl,A⟩:=ZG I r p q;exact Eh (rA (hK.ex C U)) I.kIn A (hK.ve C U) (λz=>nomatch z) λO=>⟨.bl _,H,I.tok O,rfl,xr Y r (by simp only[au])⟩
def qi (X:Cx)(id:Eg)(g:D->Aa D->aq->ba D):Prop:=
 ∀ (aj:aa) (σ : _L.St) (H:Hp) (s:Ag) (P:Hp) (α : Aa Af) (S:aq) (v:V) (Y:Ac) (vs:Aa V) (us:ah) (a:D) (ds:Aa D) (Q:VK),Inv X aj σ H s->bh X.K H P α S->qK v Y->au X.K P α a v->qJ vs us->qD X.K P α ds vs->qT X P α (g a ds S) Q ->
  Ap (Au X.prog X.w) X.A (call (.builtin id) (Y::us)) (EP X aj σ Q) X.xe s
def ls (T:Eg)(g:D->Aa D->aq->ba D)(G:DE)(N:DA):DE:=λY S=>(G Y S).bind λa J=>if (mn a J == Ab T)=true then (N Y J).bind λds U=>g a ds U else .bad
theorem WU {H P:Hp}{α:ag}{S:aq}{a:D}{T:Eg}(r:bh X.K H P α S)(p:au X.K P α a v)(h:mn a S=Ab T)(hT:T = "list" \/ T = "dict" \/ T = "int" \/ T = "str"):yp X.K T v H:=by
 cases a with
 |int i=>cases h;simp only[au] at p;subst p;rfl
 |str x=>cases h;simp only[au] at p;subst p;rfl
 |lst xs =>
  cases h;simp only[au] at p;obtain⟨b,vs,rfl,q,t⟩:=p;exact .inl ⟨rfl,vs,(xP r.sub q).l⟩
 |dct0 =>
  cases h;simp only[au] at p;obtain⟨b,rfl,q⟩:=p;exact .inr (.inr (.inl ⟨rfl,.inl ⟨[],r.sub _ _ q⟩⟩))
 |loc i =>
  simp only[au] at p;obtain⟨b,rfl,q⟩:=p;rcases nD (f:=λ_=>Ab "list") (g:=λ_=>Ab "dict") h with⟨xs,Y,h⟩|⟨aw,Y,h⟩
  .cases h
   obtain⟨vs,z,t⟩:=r.at' i b _ q Y;exact .inl ⟨rfl,vs,jg.of z⟩
  .cases h
   obtain⟨vs,z,t⟩:=r.at' i b _ q Y;exact .inr (.inr (.inl ⟨rfl,.inl ⟨vs,z⟩⟩))
 |non=>cases h;exact absurd hT (by decide)
 |bl b=>cases h;exact absurd hT (by decide)
 |tup xs=>cases h;exact absurd hT (by decide)
 |_=>exact nn h
variable {o e:Bp}{es:Aa Bp}{fo:DE}{fa:DA}{name:An}{eh cf:En}{T id:Eg}{g:D->Aa D->aq->ba D}
theorem Z4 {P:Hp}{α:ag}{a:D}{S:aq}{β:Type}{k:ba β}{Ok:β->aq->Prop}(h:qG X P α (if (mn a S == Ab T)=true then k else .bad) Ok):mn a S=Ab T/\qG X P α k Ok:=by
 by_cases z:(mn a S == Ab T)=true
 .rw[Ax z] at h;exact⟨Qh.mp z,h⟩
 .rw[Bb z] at h;exact Ao h
theorem EA (pa:Xh T)(slot:Slot T name id)(B:typeOf (.builtin id)=pure (.type "method_descriptor"))(hT:T = "list" \/ T = "dict" \/ T = "int" \/ T = "str")(hm:qi X id g)(p:PE X o (tD X fo))(ha:PA X (e::es) (jy X fa))
  (U:La o name X.env (eval o X.env)=eval o X.env:=by rfl)
  (O:((Gp cf (Bl (e::es) X.env)).all (λx=>!x.1)&&(backToKw cf (keywordEach [] X.env)).all (λx=>x.1.isSome)
   && decide ((e::es).length+([]:Aa Keyword).length+(if ([] : Aa Keyword).isEmpty then 0 else 1)<30))=true:=by rfl)
  (G:(eh.endLine == cf.line)=true:=by rfl) (hs:Bl (e::es) X.env=(false,eval e X.env)::Bl es X.env:=by rfl) (J:(Gp cf (Bl es X.env)).any (·.1)=false:=by rfl) :
  PE X (.Call (.Attribute o name eh) (e::es) [] cf) (tD X (ls T g fo fa)):=by
 intro aj s σ H Q I h;obtain⟨P,α,m,S,r,re,b⟩:=h;refine Ut U O G rfl (bo (zM p I r re b) λvv s1 ⟨v,H1,z,N,d,n,Y,w⟩=>?_);obtain⟨ht,M⟩:=Z4 w;obtain⟨h1,a⟩:=WT Y.inv Y.val (WU Y.rel Y.rep ht hT);refine⟨T,id,pa,slot,B,h1,a,?_⟩;have k:=wZ ha Y.inv Y.rel Y.env (P:=z) (α:=N) (Ok:=gw X z N Q) (qT.base Y.same Y.pre (r:=(fa m n).bind λds C=>g d ds C) M) cf;rw[hs] at k ⊢;refine Od (by show (false||(Gp cf (Bl es X.env)).any (·.1))=false;rw[J] <;> rfl) (Pc ?_)
 exact bo k λus i ⟨vs,q,u,A,ds,C,c,t,l,zb,L,j,y,E⟩=>hm aj σ q i u A C v vv vs us d ds Q c l Y.val (au.mono j y _ _ Y.rep) t L (qT.base j y E)
def iQ (T:Eg)(g:D->Aa D->aq->ba D)(fo:DE):DE:=λJ S=>(fo J S).bind λa Y=>if (mn a Y == Ab T)=true then g a [] Y else .bad
theorem TH (z:Xh T)(slot:Slot T name id)(G:typeOf (.builtin id)=pure (.type "method_descriptor"))(hT:T = "list" \/ T = "dict" \/ T = "int" \/ T = "str")(hm:qi X id g)(L:PE X o (tD X fo))
  (J:La o name X.env (eval o X.env)=eval o X.env:=by rfl) (U:(eh.endLine == cf.line)=true:=by rfl):PE X (.Call (.Attribute o name eh) [] [] cf) (tD X (iQ T g fo)):=by
 intro aj s σ H Q I h;obtain⟨P,α,p,S,r,y,E⟩:=h;refine wpAny_Call_method0_late J U (bo (zM L I r y E) λM k ⟨v,j,B,O,d,u,Y,C⟩=>?_);obtain⟨w,N⟩:=Z4 C;obtain⟨q,A⟩:=WT Y.inv Y.val (WU Y.rel Y.rep w hT);exact⟨T,id,z,slot,G,q,A,Od rfl (PySem.evalArgs_none (hm aj σ j k B O u v M [] [] d [] Q Y.inv Y.rel Y.val Y.rep .nil .nil (qT.base Y.same Y.pre N)))⟩
def wR:D->Aa D->aq->ba D:=λa ds S=>match a,ds with
 |.loc i,[d]=>match S[i]? with
  |some (.lst xs)=>if xs.length<bb then .ok .non (S.set i (.lst (xs++[d]))) else .bad
  |_=>.bad
 |_,_=>.bad
inductive _d (a:D)(ds:Aa D)(S:aq):Prop
 |bad (e:wR a ds S=.bad)
 |of (i:Ah) (d:D) (xs:Aa D) (ea:a=.loc i) (ed:ds=[d]) (hS:S[i]? = Ab (.lst xs)) (hl:xs.length<bb) (e:wR a ds S=.ok .non (S.set i (.lst (xs++[d]))))
theorem O_ (a:D)(ds:Aa D)(S:aq):_d a ds S:=by
 cases a with
 |loc i =>
  cases ds with
  |nil=>exact .bad rfl
  |cons d ds =>
   cases ds with
   |cons _ _=>exact .bad rfl
   |nil =>
    have z:wR (.loc i) [d] S=(match S[i]? with|some (.lst xs)=>(if xs.length<bb then .ok .non (S.set i (.lst (xs++[d]))) else .bad)|_=>.bad):=rfl
    cases Y:S[i]? with
    |none=>rw[Y] at z;exact .bad z
    |some m =>
     rw[Y] at z;cases m with
     |lst xs =>
      by_cases J:xs.length<bb
      .exact .of i d xs rfl rfl Y J (z.trans (Ax J))
      .exact .bad (z.trans (Bb J))
     |_=>exact .bad z
 |_=>exact .bad rfl
theorem X6:qi X "list.append" wR:=by
 intro aj σ H s P α S v A vs us a ds Q I r B p U J Y;cases O_ a ds S with
 |bad e=>rw[e] at Y;exact Ao Y
 |of i d xs C O N L e =>
  rw[e] at Y;subst C O;obtain⟨w,u,rfl,rfl,M,E⟩:=wD J U;simp only[au] at p;obtain⟨b,rfl,q⟩:=p;obtain⟨G,z,t⟩:=r.at' i b _ q N;refine X8 aj s σ H (.ref b) [w] A [u] Q I B (.cons E .nil) ⟨b,G,w,rfl,rfl,z,by rw[<- t.length,<- zB];exact L,?_⟩
  exact xr Y (r.put (m':=.lst (xs++[d])) q N (by intro z;cases z) ⟨G++[w],zK,t.append (.cons M .nil)⟩) (by simp only[au])
end
noncomputable def bZ:D->Ak ci
 |.int i=>Ab (.inl i)
 |.str x=>Ab (.inr x)
 |_=>none
def RM (aw:Aa (ci × D))(k:ci):Ak D:=(aw.find? λY=>decide (Y.1=k)).map (·.2)
noncomputable def fF (aw:Aa (ci × D))(k:ci)(v:D):Aa (ci × D):=
 if (aw.any λY=>decide (Y.1=k))=true then aw.map (λY=>if Y.1=k then (Y.1,v) else Y) else aw++[(k,v)]
section
variable {K:Ai}{P:Hp}{α : Aa Af}
theorem B0 {vs:Aa (ci × V)}(r:oq K P α aw vs):aw.length=vs.length:=Paired.length r
theorem PY {k:ci}{vs:Aa (ci × V)}(h:oq K P α aw vs):(aw.any λY=>decide (Y.1=k))=(vs.any λY=>decide (Y.1=k)):=by
 induction h with
 |nil=>rfl
 |cons z t J=>rw[Kv,Kv,J,z.1]
theorem B3 {k:ci}(q:au K P α d v){aw:Aa (ci × D)}{vs:Aa (ci × V)}(h:oq K P α aw vs):oq K P α (aw.map λY=>if Y.1=k then (Y.1,d) else Y) (vs.map λY=>if Y.1=k then (Y.1,v) else Y):=by
 induction h with
 |nil=>exact .nil
 |cons z t J =>
  rw[Dt,Dt];refine .cons ?_ J;rw[<- z.1]
  split
  .exact⟨rfl,q⟩
  .exact z
theorem PZ {k:ci}(q:au K P α d v){aw:Aa (ci × D)}{vs:Aa (ci × V)}(h:oq K P α aw vs):oq K P α (aw++[(k,d)]) (vs++[(k,v)]):=by
 induction h with
 |nil=>exact .cons ⟨rfl,q⟩ .nil
 |cons z t Y=>exact .cons z Y
theorem B4 {k:ci}(q:au K P α d v){aw:Aa (ci × D)}{vs:Aa (ci × V)}(r:oq K P α aw vs):oq K P α (fF aw k d) (yS vs k v):=by
 unfold fF yS;rw[PY r]
 split
 .exact B3 q r
 .exact PZ q r
theorem L7 {k:ci}(h:bZ d=Ab k)(r:au K P α d v):v=kV k:=by
 cases d with
 |int i=>cases h;simp only[au] at r;exact r
 |str x=>cases h;simp only[au] at r;exact r
 |_=>cases h
end
section
variable {X:Cx}{o i e:Bp}{ar:En}{fo fi:DE}
def kM:DE:=λ_ S=>.ok .dct0 S
theorem GC:PE X (.Dict [] [] ar) (tD X kM):=by
 refine mz U2 λσ H Q ⟨P,α,N,S,r,O,Y⟩ p J=>?_;obtain⟨U,G⟩:=r.pure (o:=.dK []) J;refine Y _ _ _ α U G (Bu _) ?_;simp only[au];exact⟨p,rfl,zK⟩
def vD:G3:=λo i d S=>match o with
 |.loc n=>match S[n]? with
  |some (.dct aw)=>match bZ i with
   |some k=>if aw.length<bb then .ok () (S.set n (.dct (fF aw k d))) else .bad
   |none=>.bad
  |_=>tU o i d S
 |_=>tU o i d S
inductive vt (a b d:D)(S:aq):Prop
 |bad (e:vD a b d S=.bad)
 |old (e:vD a b d S=tU a b d S)
 |of (n:Ah) (kvs:Aa (ci × D)) (k:ci) (ea:a=.loc n) (hS:S[n]? = Ab (.dct kvs)) (hk:bZ b=Ab k) (hl:kvs.length<bb) (e:vD a b d S=.ok () (S.set n (.dct (fF kvs k d))))
theorem CP (a b d:D)(S:aq):vt a b d S:=by
 cases a with
 |loc n =>
  have z:vD (.loc n) b d S=(match S[n]? with|some (.dct aw)=>(match bZ b with|some k=>(if aw.length<bb then .ok () (S.set n (.dct (fF aw k d))) else .bad)|none=>.bad)|_=>tU (.loc n) b d S):=rfl
  cases J:S[n]? with
  |none=>rw[J] at z;exact .old z
  |some m =>
   rw[J] at z;cases m with
   |dct aw =>
    cases Y:bZ b with
    |none=>rw[Y] at z;exact .bad z
    |some k =>
     rw[Y] at z;by_cases U:aw.length<bb
     .exact .of n aw k rfl J Y U (z.trans (Ax U))
     .exact .bad (z.trans (Bb U))
   |_=>exact .old z
 |_=>exact .old rfl
theorem R7 (w:X.A.units+1<Fo):dU X (dR X vD):=by
 intro aj s σ H o i v B A u Q I C O U h;obtain⟨P,α,S,a,b,d,r,J,N,L,Y⟩:=h;cases CP a b d S with
 |bad e=>rw[e] at Y;exact Ao Y
 |old e =>
  rw[e] at Y;exact CQ aj s σ H o i v B A u Q I C O U ⟨P,α,S,a,b,d,r,J,N,L,Y⟩
 |of n aw k E G j M e =>
  rw[e] at Y;subst E;simp only[au] at J;obtain⟨p,rfl,q⟩:=J;obtain⟨vs,z,t⟩:=r.at' n p _ q G;cases L7 j N;cases (show B=Dk p from C)
  refine Z2 w I (tE.k (v:=v) z (by rw[<- B0 t,<- zB];exact M)) O U λy T=>⟨_,T,?_⟩
  exact Y _ P α (r.put (m':=.dct (fF aw k d)) q G (by intro z;cases z) ⟨_,zK,B4 L t⟩) (qF.refl _) (Bu _)
def _g:D->Aa D->aq->ba D:=λa ds S=>match a,ds with
 |.loc n,[i,x]=>match S[n]? with
  |some (.dct aw)=>match bZ i with
   |some k=>.ok ((RM aw k).getD x) S
   |none=>.bad
  |_=>.bad
 |_,_=>.bad
def fW:D->Aa D->aq->ba D:=λa ds S=>match a,ds with
 |.lst xs,[.bl k]=>match xC xs with
  |some Y=>.ok (.int (Y.countP (· == k):Ah)) S
  |none=>.bad
 |_,_=>.bad
noncomputable def tW (k:As):Aa As->Ak Ah
 |[]=>none
 |b::r=>if b=k then Ab 0 else (tW k r).map (· + 1)
def fX:D->Aa D->aq->ba D:=λa ds S=>match a,ds with
 |.lst xs,[.bl k]=>match (xC xs).bind (tW k) with
  |some j=>.ok (.int j) S
  |none=>.bad
 |_,_=>.bad
theorem sS (k:As){bs:Aa As}{y:Ac}(U:y∈(bs.map Fu).toArray):AaY y (.bool k) (Uu k y):=by
 have J:y∈bs.map Fu:=by rwa [List.mem_toArray] at U
 obtain⟨b,_,rfl⟩:=Dj.mp J;exact λY w A E s Q h=>AaM b k Y w E Q h
theorem eS (k:As)(bs:Aa As):(bs.map Fu).countP (Uu k)=bs.countP (· == k):=by
 rw[List.countP_map];rfl
theorem QF {β:Type}{r:ba β}{P:Hp}{α:ag}{Ok:β->aq->Prop}(e:r=.bad)(h:qG X P α r Ok):Fb:=by
 rw[e] at h;exact h
inductive _c (a:D)(ds:Aa D):Prop
 |no (h:∀ (g:Aa D->As->ba D),(match a,ds with|.lst xs,[.bl k]=>g xs k|_,_=>.bad)=.bad)
 |of (xs:Aa D) (k:As) (ea:a=.lst xs) (ed:ds=[.bl k])
theorem yz (a:D)(ds:Aa D):_c a ds:=by
 cases a with
 |lst xs =>
  cases ds with
  |nil=>exact .no λ_=>rfl
  |cons d ds =>
   cases ds with
   |cons _ _=>cases d <;> exact .no λ_=>rfl
   |nil =>
    cases d with
    |bl k=>exact .of xs k rfl rfl
    |_=>exact .no λ_=>rfl
 |_=>exact .no λ_=>rfl
theorem VP:qi X "list.count" fW:=by
 intro aj σ H s P α S v z vs us a ds Q I r A p O U Y;cases yz a ds with
 |no h=>exact(QF (X:=X) (r:=fW a ds S) (h _) Y).elim
 |of xs k E T =>
  subst E T;have Y:qG X P α (match xC xs with|some J=>ba.ok (D.int (J.countP (· == k):Ah)) S|none=>.bad) (gw X P α Q):=Y
  cases G:xC xs with
  |none=>rw[G] at Y;exact Ao Y
  |some J =>
   rw[G] at Y;obtain⟨u,M,rfl,rfl,C,w⟩:=wD U O;simp only[au] at C;subst C;cases (show M=Fu k from w)
   obtain⟨b,q,ao,n,rfl,sq,t,N,B,l,_⟩:=vM I r p;cases (show z=Dk b from A)
   have L:=yG G t N;subst L;refine Lf Nl ⟨_,B,rfl⟩ PySem.F.entry_list_count (PySem.F.args_list_count_2 _ _) (PySem.SeqAt.list_countAt b (J.map Fu).toArray n none #[] (.bool k) (Uu k)) ⟨B,λy j=>(sS k j).at _ _,?_⟩;refine⟨.int _,H,I.tok _,⟨_,rfl⟩,?_⟩;rw[show (J.map Fu).toArray.toList=J.map Fu from rfl,eS]
   exact xr Y r (by simp only[au])
theorem cN {k:As}:∀ {bs:Aa As} {j:Ah},tW k bs=Ab j->∃ h:j<bs.length,bs[j]=k/\∀ m (hm:m<bs.length),m<j->bs[m]≠k
 |[],j,h=>by cases h
 |b::r,j,h=>by
  unfold tW at h;by_cases Y:b=k
  .rw[Ax Y] at h
   cases h;exact⟨by simp,by simpa using Y,λm hm z=>absurd z (Aa5 _)⟩
  .rw[Bb Y] at h
   obtain⟨i,J,rfl⟩:=Gf.mp h;obtain⟨O,G,U⟩:=cN J;refine⟨by simp;lia,by simpa using G,λm hm N=>?_⟩
   cases m with
   |zero=>simpa using Y
   |succ m=>simpa using U m (by simp at hm;lia) li
theorem VQ:qi X "list.index" fX:=by
 intro aj σ H s P α S v vv vs us a ds Q I r q p T C Y;cases yz a ds with
 |no h=>exact(QF (X:=X) (r:=fX a ds S) (h _) Y).elim
 |of xs k u w =>
  subst u w;have Y:qG X P α (match (xC xs).bind (tW k) with|some j=>ba.ok (D.int j) S|none=>.bad) (gw X P α Q):=Y
  cases G:(xC xs).bind (tW k) with
  |none=>rw[G] at Y;exact Ao Y
  |some j =>
   rw[G] at Y;obtain⟨B,hb,M⟩:=Em.mp G;obtain⟨vx,c,rfl,rfl,E,x⟩:=wD C T;simp only[au] at E;subst E;cases (show c=Fu k from x)
   obtain⟨b,ws,ao,n,rfl,sq,t,U,A,hl,z⟩:=vM I r p;cases (show vv=Dk b from q)
   have L:=yG hb t U;subst L;obtain⟨h1,h2,l⟩:=cN M;have J:B.length<=sizeLine:=by
    have e1:=t.length;have e2:=U.length;rw[Aq] at e2;rw[zB] at z
    lia
   refine Lf Nm ⟨_,A,rfl⟩ PySem.F.entry_list_index (PySem.F.args_list_index_2 _ _) (AaR b (B.map Fu).toArray n (.bool k) (Uu k) (λy hy=>sS k hy) j (by simpa using h1) ?_ ?_ ?_) ⟨A,?_⟩
   .rw[Gq] at J;lia
   .simp[Uu,h2]
   .intro m g N
    have O:m<B.length:=by simpa using g
    have:=l m O N;simp[Uu,this]
   .exact⟨.int _,H,I.tok _,⟨_,rfl⟩,xr Y r (by simp only[au])⟩
end
def dE (S:aq):aq:=S.map λ_=>.dead
noncomputable def iY (H P:Hp)(α : Aa Af):Hp:=λb=>if (P b).isSome then P b else if b∈α then H b else none
section
variable {K:Ai}{H P:Hp}{α : Aa Af}{S:aq}
theorem V5 (r:bh K H P α S):qF (iY H P α) H:=λb o e=>by
 unfold iY at e
 split at e
 .exact r.sub b o e
 .split at e
  .exact e
  .cases e
theorem bh.frz (r:bh K H P α S):bh K H (iY H P α) α (dE S) where
 tb:=r.tb.keep (λ_ _ q _=>q) λb u q _ p n=>⟨by unfold iY;rw[p];simp[n],n⟩
 sub:=V5 r
 len:=by rw[r.len];simp[dE]
 nd:=r.nd
 sep:=λi a o U Y J=>by
  unfold dE at Y;rw[Ea] at Y;cases q:S[i]? with
  |none=>rw[q] at Y;cases Y
  |some m=>rw[q] at Y;cases Y;exact absurd rfl J
 at':=λi a o U Y=>by
  unfold dE at Y;rw[Ea] at Y;cases q:S[i]? with
  |none=>rw[q] at Y;cases Y
  |some m=>rw[q] at Y;cases Y;trivial
 own:=r.own
end
section
variable {X:Cx}{a b c e:Bp}{ar:En}{fa fe:DE}
def _f (i:Ah)(g:G2)(fe:DE):DS:=λY S=>match Y[i]? with
 |some (Ab x)=>(fe Y S).toS Y λy U=>(g x y U).toS Y λz J=>.nx (Y.set i (Ab z)) J
 |_=>.bad
def zX (xs:Aa D)(lo hi:Ak Am):Aa D:=(xs.drop (_H.bx xs.length 0 lo)).take (_H.bx xs.length xs.length hi-_H.bx xs.length 0 lo)
abbrev DO:=qE->aq->ba (Ak Am)
def zh (X:Cx)(P:Hp)(α : Aa Af)(Q:Ak Am->Hp->Prop)(o:Ak Am)(S':aq):Prop:=∀ J U Y,bh X.K J U Y S'->qF P U->α<+:Y->Q o J
def s_ (X:Cx)(f:DO):TO:=λσ H Q=>∃ P α Y S,bh X.K H P α S/\z9 X.K P α σ Y/\qG X P α (f Y S) (zh X P α Q)
def zH:DO:=λ_ S=>.ok none S
def z0 (f:DE):DO:=λY S=>(f Y S).bind λd J=>match d with
 |.int i=>.ok (Ab i) J
 |_=>.bad
theorem GP:PO X none (s_ X zH):=λaj s σ H Q I ⟨P,α,J,S,r,U,Y⟩=>F2 aj s σ H Q I (Y H P α r (qF.refl _) (Bu _))
theorem GQ (O:PE X e (tD X fe)):PO X (Ab e) (s_ X (z0 fe)):=by
 intro aj s σ H Q I h;obtain⟨P,α,J,S,r,M,L⟩:=h;refine F3 (te:=tD X fe) O aj s σ H Q I ⟨P,α,J,S,r,M,?_⟩;have Y:qG X P α ((fe J S).bind λd G=>match d with|.int i=>.ok (Ab i) G|_=>.bad) (zh X P α Q):=L
 cases q:fe J S with
 |bad=>rw[q] at Y;exact Y
 |ex c x w=>rw[q] at Y;exact Y
 |ok d G =>
  rw[q] at Y;intro v A N U E C T B;cases d with
  |int i=>exact⟨i,xG B,Y A N U E C T⟩
  |_=>exact Ao Y
theorem qD.cut {K:Ai}{P:Hp}{α:ag}(r:qD K P α ds vs)(lo hi:Ak Am):qD K P α (zX ds lo hi) (gZ vs lo hi):=by
 unfold zX gZ;rw[r.length];exact(r.drop _).take _
def sk (d:D)(lo hi:Ak Am)(S:aq):ba D:=match d with
 |.lst xs=>.ok (.lst (zX xs lo hi)) S
 |.loc i=>match S[i]? with
  |some (.lst xs)=>.ok (.lst (zX xs lo hi)) S
  |_=>.bad
 |.tup xs=>.ok (.tup (zX xs lo hi)) S
 |_=>.bad
def ka (fe:DE)(G O:DO):DE:=λY S=>(fe Y S).bind λd C=>(G Y C).bind λlo J=>(O Y J).bind λU N=>sk d lo U N
end
end _D
namespace _D
open _L _H
section
variable {prog:Be}{w:Br}{A:Bk}{E:ae}{s:Ag}
theorem gV {t N:Af}{items:Aw Ac}{O C:Ac}{lo hi:Ak Am}{Q:ae}(Y:Qm s.heap t items)(hs:s.heap.IsSliceOf N O C .none)(pl:Pz O lo)(B:Pz C hi)
  (hw:bx items.size 0 lo=0/\bx items.size items.size hi=items.size) (h:Q (.ref t) s):Ap (Au prog w) A (On (.ref t) (.ref N)) Q E s:=by
 obtain⟨L,G,U,_⟩:=id hs;have J:s.TypeIs (.ref N) "slice":=⟨L,G,U⟩;unfold On
 try with_reducible refine Ef ?_
 first|refine Ad (Al ?_)|skip
 refine Ad (Rz Y.typeIs (by decide) ?_)
 refine Ad (El (name:=Ga "__getitem__") Y.typeIs Do
  (Eo Do Y.typeIs Qg ?_ (Qy _ _)))
 show Ap _ _ (Je (.ref t) >>= _) _ _ s;refine Ad (Wz Y ?_);refine Ad (Kc J ?_);rw[Ax (by decide)]
 refine Ad (uL hs pl B ?_);show Ap _ _ (if (((bx items.size 0 lo:Ah):Am) == 0&&(1:Am) == 1&&(bx items.size items.size hi-bx items.size 0 lo) == items.size)=true then _ else _) _ _ s
 rw[hw.1,hw.2,Ax (by simp)]
 unfold Builtin.Tuple.tupleIsExact;refine Ad (Ad (Kc Y.typeIs (Al ?_)));rw[Ax (by decide)]
 exact Ad (Gw (Al ⟨_,rfl,Al h⟩))
end
section
variable {X:Cx}{e:Bp}{fe:DE}{ar p2:En}
def O8 (X:Cx):V->Ak Am->Ak Am->Hp->VK->Prop:=λx lo Y H Q=>∃ P α S d,bh X.K H P α S/\au X.K P α d x/\qT X P α (sk d lo Y S) Q
theorem OD:q_ X (O8 X):=by
 intro E s σ H x v A w lo J M Q I L B pl C h;obtain⟨P,α,S,d,r,p,U⟩:=h;cases d with
 |lst G =>
  simp only[au] at p;obtain⟨a,Y,rfl,q,t⟩:=p;exact aU E s σ H _ v A w lo J M Q I L B pl C ⟨a,Y,rfl,(xP r.sub q).l,λb O=>w8 r O (qD.cut t lo J) U⟩
 |loc i =>
  obtain⟨G,u,U⟩:=gG (X:=X) (f:=λG=>ba.ok (D.lst (zX G lo J)) S) U;simp only[au] at p;obtain⟨a,rfl,q⟩:=p;obtain⟨Y,z,t⟩:=r.at' i a _ q u;exact aU E s σ H _ v A w lo J M Q I L B pl C ⟨a,Y,rfl,jg.of z,λb O=>w8 r O (qD.cut t lo J) U⟩
 |tup G =>
  have y:=p;simp only[au] at p;obtain⟨a,Y,rfl,q,t⟩:=p;by_cases T:bx Y.length 0 lo=0/\bx Y.length Y.length J=Y.length
  .cases L
   obtain⟨o,k,j,g⟩:=I.tuple (xS r.sub q);have N:o.toArray.size=Y.length:=by rw[Bg];exact k.length.symm
   refine⟨"tuple",_,Do.lookup,j.typeIs,gV j B pl C (by rw[N];exact T) ⟨.ref a,H,I,rfl,xr U r ?_⟩⟩
   have e:zX G lo J=G:=by
    unfold zX;rw[t.length,T.1,T.2,<- t.length];simp
   rw[e];exact y
  .exact R8 E s σ H _ v A w lo J M Q I L B pl C ⟨a,Y,rfl,xS r.sub q,T,λb O=>gH r O (qD.cut t lo J) U⟩
 |_=>exact Ao U
theorem YM {lo hi:Ak Bp}{E L:DO}(b:PE X e (tD X fe))(a:PO X lo (s_ X E))(h:PO X hi (s_ X L)):PE X (.Subscript e (.Slice lo hi none p2) ar) (tD X (ka fe E L)):=
 mz (rR OD b a h) λσ H Q ⟨P,α,G,S,r,j,s⟩=>by
  refine⟨P,α,G,S,r,j,?_⟩;have Y:qG X P α ((fe G S).bind λd T=>(E G T).bind λlo N=>(L G N).bind λhi B=>sk d lo hi B) (gw X P α Q):=s;cases q:fe G S with
  |bad=>rw[q] at Y;exact Y
  |ex c x f=>rw[q] at Y;exact Y
  |ok d T =>
   rw[q] at Y;intro v H1 o O r1 A M i;refine⟨o,O,G,T,r1,j.mono A M,?_⟩;have J:qG X o O ((E G T).bind λlo N=>(L G N).bind λhi B=>sk d lo hi B) (gw X o O Q):=qT.base A M Y;cases z:E G T with
   |bad=>rw[z] at J;exact J
   |ex c x f=>rw[z] at J;exact J
   |ok l N =>
    rw[z] at J;intro H2 I C m w p;refine⟨I,C,G,N,m,(j.mono A M).mono w p,?_⟩;have U:qG X I C ((L G N).bind λhi B=>sk d l hi B) (gw X I C Q):=qT.base w p J;cases y:L G N with
    |bad=>rw[y] at U;exact U
    |ex c x f=>rw[y] at U;exact U
    |ok u B =>
     rw[y] at U;intro H3 P3 k n g t;exact⟨P3,k,B,d,n,au.mono (w.trans g) (p.trans t) _ _ i,qT.base g t U⟩
def kW (d:D)(S:aq):ba D:=match d with
 |.int i=>if i.natAbs.log2<1920 then .ok (.str (toString i)) S else .bad
 |.str x=>if x.length<=bb then .ok (.str x) S else .bad
 |_=>.bad
set_option tactic.hygienic true in
theorem TK (C:PE X e (tD X fe)):PE X (.FormattedValue e (-1) none ar) (tD X (d1 kW fe)):=by
 intro j s σ H Q I h;obtain⟨P,α,A,S,r,T,L⟩:=h;refine FormattedValue_plain (bo (zM C I r T L) λk z ⟨v,O,E,B,d,y,J,G⟩=>?_);have p:=J.rep;have N:=J.val;have Y:=qT.base J.same J.pre G;cases d with
 |int i =>
  simp only[kW] at Y
  split at Y
  .rename_i U
   simp only[au] at p;subst p;obtain⟨t,rfl⟩:=N;exact formatField_int_small U ⟨.str _,O,J.inv.tok _,⟨_,rfl⟩,xr Y J.rel (by simp only[au])⟩
  .exact Ao Y
 |str x =>
  simp only[kW] at Y
  split at Y
  .rename_i U
   simp only[au] at p;subst p;obtain⟨t,rfl⟩:=N;exact formatField_str (λM w=>⟨.str _,O,J.inv.tok _,⟨_,rfl⟩,xr Y J.rel (by simp only[au])⟩) (by rw[<- zB];exact U)
  .exact Ao Y
 |_=>exact Ao Y
noncomputable def gC (Q:An):Aa DE->qE->aq->ba D
 |[],_,S=>if Q.length<=bb then .ok (.str Q) S else .bad
 |p::J,Y,S=>(p Y S).bind λd U=>match d with
  |.str y=>if (Q++y).length<=bb then gC (Q++y) J Y U else .bad
  |_=>.bad
def PJ (X:Cx)(es:Aa Bp)(G:Aa DE):Prop:=
 ∀ (Y:An) (U:aa) (s:Ag) (σ : _L.St) (H P:Hp) (α : Aa Af) (J:qE) (S:aq) (Q:VK),Inv X U σ H s->bh X.K H P α S->z9 X.K P α σ J->qT X P α (gC Y G J S) Q ->
  Ap (Au X.prog X.w) X.A (joinParts Y (evalEach es X.env)) (EP X U σ Q) X.xe s
theorem DV:PJ X [] []:=by
 intro J O s σ H P α G S Q I r N Y;obtain⟨U,Y⟩:=x5 (X:=X) Y;exact joinParts_nil ⟨.str _,H,I.tok _,⟨_,rfl⟩,xr Y r (by simp only[au])⟩ (by rw[<- zB];exact U)
theorem F0 {es:Aa Bp}{G:Aa DE}(T:PE X e (tD X fe))(E:PJ X es G):PJ X (e::es) (fe::G):=by
 intro J j s σ H P α O S Q I r M N;have N:qG X P α ((fe O S).bind λd B=>match d with|.str y=>if (J++y).length<=bb then gC (J++y) G O B else .bad|_=>.bad) (gw X P α Q):=N
 refine joinParts_cons (bo (zM T I r M N) λk w ⟨v,A,L,C,d,B,U,Y⟩=>?_);cases d with
 |str y =>
  have p:=U.rep;simp only[au] at p;subst p;obtain⟨t,rfl⟩:=U.val;obtain⟨z,Y⟩:=x5 (X:=X) Y;exact⟨by rw[<- zB];exact z,E (J++y) j w σ A L C O B Q U.inv U.rel U.env (qT.base U.same U.pre Y)⟩
 |_=>exact Ao Y
def dB (Y:Aa DE):DE:=λQ S=>gC Rw Y Q S
theorem GD {Y J:Bp}{qI:Aa Bp}{U:Aa DE}(h:PJ X (Y::J::qI) U):PE X (.JoinedStr (Y::J::qI) ar) (tD X (dB U)):=by
 intro B s σ H Q I O;obtain⟨P,α,N,S,r,C,G⟩:=O;exact JoinedStr_many (h Rw B s σ H P α N S Q I r C G)
end
end _D
namespace _D
open _L
variable {Fs:Aa (Ah × DF)}{α:ag}{N:Aa An}{ds qr:Aa D}{cx:Aa Ey}{vs:Aa V}{Q:ae}{C:Af}{Qa Qd:Ag->Prop}{m:Ah}{o':Ak (Ah × MO)}{tp:As}{xs ys:Aw Ac}{h':Bn}{id:Eg}{py:En}{S SF:aq}{R:Xv->Ag->Prop}{ak fv:qE}
def zU (tp:As)(h:Bn)(it l:Af)(k:Ah):Prop:=if tp then h.IsTupleIter it l k else h.IsListIter it l k
def xY (tp:As)(h:Bn)(l:Af)(xs:Aw Ac):Prop:=if tp then h.IsTuple l xs else h.IsList l xs
theorem zU.keep {h:Bn}{it l:Af}{k:Ah}(x:zU tp h it l k)(q:∀ o,h.get? it=Ab o->h'.get? it=Ab o):zU tp h' it l k:=by
 cases tp <;> (obtain⟨o,e,r⟩:=x;exact⟨o,q o e,r⟩)
theorem xY.keep {h:Bn}{l:Af}(x:xY tp h l xs)(q:∀ o,h.get? l=Ab o->h'.get? l=Ab o):xY tp h' l xs:=by
 cases tp <;> (obtain⟨o,e,r⟩:=x;exact⟨o,q o e,r⟩)
theorem zU.there {h:Bn}{it l:Af}{k:Ah}(x:zU tp h it l k):∃ o,h.get? it=Ab o/\∀ v,o.data≠.cell v:=by
 cases tp <;> (obtain⟨o,e,_,d⟩:=x;exact⟨o,e,λv z=>by rw[d] at z;cases z⟩)
section
variable {prog:Be}{w:Br}{A:Bk}{E:ae}{s:Ag}
theorem VV {it t:Af}{i:Ah}{items:Aw Ac}{x:Ac}(Y:s.heap.IsTupleIter it t i)(B:s.heap.IsTuple t items)(G:items[i]? = Ab x)
  (U:∀ h',h'.IsTupleIter it t (i+1)->Gz it s.heap h'->Q x { s with heap:=h' }) : Ap (Au prog w) A (Dv (.ref it)) Q E s:=by
 obtain⟨o,e,c,d⟩:=id Y;obtain⟨u,J,_,m,O⟩:=B;unfold Dv;refine Ad (El (name:=Ga "__next__") Y.typeIs Jf (Eo Jf Y.typeIs Qp ?_ (Qj _)));show Ap _ _ (field (.ref it) 0 >>= _) _ _ s;refine Ad (Ed e d (x:=.ref t) rfl ?_);show Ap _ _ (if (Dk t == De)=true then _ else _) _ _ s;rw[Bb (show ¬ ((Dk t == De)=true) from Gc)]
 show Ap _ _ (field (.ref it) 1 >>= _) _ _ s;refine Ad (Ed e d (x:=.int i 0) rfl ?_);show Ap _ _ (seqItems? (.ref t) >>= _) _ _ s;refine Ad (Go J O ?_);simp only[Fd,G];refine Ad (Ix e d (by simp) (Al ⟨x,rfl,Al (U _ ⟨_,Ek _ e (Li (Kl d _)),(Ze ..).trans c,?_⟩ (Hj ..))⟩))
 rw[Kl d];simp[Ly]
theorem rG {it t:Af}{i:Ah}{items:Aw Ac}{Q:ae}(J:A.handled=none)(Y:s.heap.IsTupleIter it t i)(L:s.heap.IsTuple t items)(O:items[i]? = none)
  (G:∀ h' e,Heap.ExtBut it s.heap h'->(∃ o,h'.get? e=Ab o/\o.cls=.type "StopIteration")->E (.ref e) { s with heap:=h' }) : Ap (Au prog w) A (Dv (.ref it)) Q E s:=by
 obtain⟨o,e,c,d⟩:=id Y;obtain⟨u,U,_,m,B⟩:=L;unfold Dv;refine Ad (El (name:=Ga "__next__") Y.typeIs Jf (Eo Jf Y.typeIs Qp ?_ (Qj _)));show Ap _ _ (field (.ref it) 0 >>= _) _ _ s;refine Ad (Ed e d (x:=.ref t) rfl ?_);show Ap _ _ (if (Dk t == De)=true then _ else _) _ _ s;rw[Bb (show ¬ ((Dk t == De)=true) from Gc)]
 show Ap _ _ (field (.ref it) 1 >>= _) _ _ s;refine Ad (Ed e d (x:=.int i 0) rfl ?_);show Ap _ _ (seqItems? (.ref t) >>= _) _ _ s;refine Ad (Go U B ?_);simp only[Fd,O];refine Ad (Gw (Ad (Ix e d (by simp) ?_)))
 show Ap _ _ (newExc (.type "StopIteration") [] >>= _) _ _ _;refine Ad ?_;simp only[newExc,newTuple];refine Ad (Dm ?_ (by size_fits))
 refine Ad (m:=Qq _ _) (Rl (a:=De) (by first|rfl|(simp only[Qq];rfl)) (Dm ?_ (by size_fits)))
 simp only[raiseNew];refine Ad (wpAny_handled ?_)
 first|rw[show A.in1.handled=none from J]|rw[J]
 exact Ad (Al (wpAny_throw (G _ _ (((Hj ..).extBut.push _).push _) ⟨_,Bj _ rfl,rfl⟩)))
theorem fB {it l:Af}{k:Ah}{x:Ac}(Y:zU tp s.heap it l k)(G:xY tp s.heap l xs)(U:xs[k]? = Ab x)
  (J:∀ h',zU tp h' it l (k+1)->Gz it s.heap h'->Q x { s with heap:=h' }) : Ap (Au prog w) A (Dv (.ref it)) Q E s:=by
 cases tp with
 |false=>exact wpAny_nextOf_list_item Y G U J
 |true=>exact VV Y G U J
theorem pB {it l:Af}{k:Ah}{Q:ae}(J:A.handled=none)(Y:zU tp s.heap it l k)(G:xY tp s.heap l xs)(O:xs[k]? = none)
  (U:∀ h' e,Heap.ExtBut it s.heap h'->(∃ o,h'.get? e=Ab o/\o.cls=.type "StopIteration")->E (.ref e) { s with heap:=h' }) : Ap (Au prog w) A (Dv (.ref it)) Q E s:=by
 cases tp with
 |false=>exact wpAny_nextOf_list_end J Y G O U
 |true=>exact rG J Y G O U
structure ZA (z I O i j:Af):Prop where
 Iz:I≠z
 Oz:O≠z
 iz:i≠z
 jz:j≠z
 IO:I≠O
 Ii:I≠i
 Ij:I≠j
 Oi:O≠i
 Oj:O≠j
 ij:i≠j
structure Off (z O i j a:Af):Prop where
 z:a≠z
 O:a≠O
 i:a≠i
 j:a≠j
abbrev Y5 (z O i j:Af)(h h':Bn):Prop:=∀ c o,c≠z->c≠O->c≠i->c≠j->h.get? c=Ab o->h'.get? c=Ab o
theorem J8 {d:As}{z I O i j a b:Af}{k:Ah}{x y p q:Ac}(D:ZA z I O i j)(Da:Off z O i j a)(r:Off z O i j b)
  (hz:Qr s.heap z I O .none) (hI:Km s.heap I (.ref i) (.ref j)) (hO:Km s.heap O p q) (h1:zU tp s.heap i a k) (h2:zU d s.heap j b k) (ha:xY tp s.heap a xs) (hb:xY d s.heap b ys) (hx:xs[k]? = Ab x) (hy:ys[k]? = Ab y)
  (hQ:∀ h',Qr h' z I O (Ly s.heap.objs.size)->Km h' O x y->zU tp h' i a (k+1)->zU d h' j b (k+1)->Km h' s.heap.objs.size x y->h'.objs.size=s.heap.objs.size+1->Y5 z O i j s.heap h'->Q (.ref s.heap.objs.size) { s with heap:=h' }) :
  Ap (Au prog w) A (Jo.«zip.__next__» ⟨[.ref z],[]⟩) (λfin s'=>∃ v,fin=.done (.ret v)/\Q v s') E s:=by
 show Ap _ _ (field (.ref z) 2 >>= _) _ _ _;refine Ad (Ed hz rfl (x:=.bool false) rfl ?_);show Ap _ _ (field (.ref z) 3 >>= _) _ _ _;refine Ad (Ed hz rfl (x:=.ref I) rfl (Ad (Go hI rfl ?_)));show Ap _ _ (Gs (.ref z) >>= _) _ _ _;refine Ad ?_;unfold Gs;refine Ad (Ed hz rfl (x:=.none) rfl (Al ?_));simp only[Du];refine Ad (Gw (Ad (Ed hz rfl (x:=.ref O) rfl (Ad (Jc hz (by simp) λg1 t J=>?_)))))
 replace t:Qr g1 z I O .ellipsis:=t
 refine Ad ?_;simp only[Ts,Aa6,Mr,Nr];refine Ad (Ad (Sf ?_));show Ap _ _ (Dv (.ref i) >>= _) _ _ _;refine Ad (fB (h1.keep λo e=>J.extBut _ _ D.iz e) (ha.keep λo e=>J.extBut _ _ Da.z e) hx λg2 i2 B=>Al ?_);have O2:Km g2 O p q:=B.extBut _ _ D.Oi (J.extBut _ _ D.Oz hO);refine Ad (Go O2 rfl (Ad (Pe O2 λg3 O3 G=>Ad (sB (Al ?_)))))
 replace O3:Km g3 O x q:=O3
 refine Ad (Ad (Sf ?_));show Ap _ _ (Dv (.ref j) >>= _) _ _ _;refine Ad (fB (h2.keep λo e=>G.extBut _ _ D.Oj.symm (B.extBut _ _ D.ij.symm (J.extBut _ _ D.jz e))) (hb.keep λo e=>G.extBut _ _ r.O (B.extBut _ _ r.i (J.extBut _ _ r.z e))) hy λg4 j4 H=>Al ?_);have O4:Km g4 O x q:=H.extBut _ _ D.Oj O3;refine Ad (Go O4 rfl (Ad (Pe O4 λY u M=>Ad (sB (Al (Al ?_))))))
 replace u:Km Y O x y:=u
 refine Ad (Go u rfl (Ad (wpAny_newTuple ?_)));have sz:Y.objs.size=s.heap.objs.size:=by rw[M.1,H.1,G.1,B.1,J.1]
 have z5:Qr Y z I O .ellipsis:=M.extBut _ _ D.Oz.symm (H.extBut _ _ D.jz.symm (G.extBut _ _ D.Oz.symm (B.extBut _ _ D.iz.symm t)));have k5:Y5 z O i j s.heap Y:=λc o U g c3 n e=>M.extBut _ _ g (H.extBut _ _ n (G.extBut _ _ g (B.extBut _ _ c3 (J.extBut _ _ U e))));have i5:zU tp Y i a (k+1):=i2.keep λo e=>M.extBut _ _ D.Oi.symm (H.extBut _ _ D.ij (G.extBut _ _ D.Oi.symm e));have j5:zU d Y j b (k+1):=j4.keep λo e=>M.extBut _ _ D.Oj.symm e;have zl:z<Y.objs.size:=Bh z5;show Ap _ _ (Ms (.ref z) (.ref Y.objs.size) >>= _) _ _ _;refine Ad ?_;unfold Ms;have z6:Qr (Y.push { cls:=.type "tuple",data:=.seq #[x,y] }) z I O .ellipsis:=Aj _ z5;refine Ad (Jc z6 (by simp) λg7 z7 f=>?_)
 replace z7:Qr g7 z I O (Ly Y.objs.size):=z7
 refine Jc z7 (by simp) λT l h=>?_
 replace l:Qr T z I O (Ly Y.objs.size):=l
 have up:∀ c o,c≠z->Y.get? c=Ab o->T.get? c=Ab o:=λc o U e=>h.extBut _ _ U (f.extBut _ _ U (Aj _ e));have T8:Km T Y.objs.size x y:=h.extBut _ _ (Hn zl) (f.extBut _ _ (Hn zl) (Bj _ rfl));have L:T.objs.size=Y.objs.size+1:=by rw[h.1,f.1,Ew]
 rw[sz] at l T8 L;refine Al ⟨_,rfl,?_⟩;show Q (.ref Y.objs.size) _;rw[sz];exact hQ T l (up _ _ D.Oz u) (i5.keep λo e=>up _ o D.iz e) (j5.keep λo e=>up _ o D.jz e) T8 L λc o U g c3 n e=>up c o U (k5 c o U g c3 n e)
end
section
variable {prog:Be}{w:Br}{A:Bk}{E:ae}{s:Ag}
theorem JA {tq:As}{z I O i j a b:Af}{k:Ah}{p q:Ac}{Q:Fin->Ag->Prop}(hh:A.handled=none)(D:ZA z I O i j)(Da:Off z O i j a)(g:Off z O i j b)
  (hz:Qr s.heap z I O .none) (hI:Km s.heap I (.ref i) (.ref j)) (hO:Km s.heap O p q) (h1:zU tp s.heap i a k) (h2:zU tq s.heap j b k) (ha:xY tp s.heap a xs) (hb:xY tq s.heap b ys) (G:xs[k]? = none\/ys[k]? = none)
  (h:∀ h' e,Y5 z O i j s.heap h'->(∃ o,h'.get? e=Ab o/\o.cls=.type "StopIteration")->E (.ref e) { s with heap:=h' }) : Ap (Au prog w) A (Jo.«zip.__next__» ⟨[.ref z],[]⟩) Q E s:=by
 show Ap _ _ (field (.ref z) 2 >>= _) _ _ _;refine Ad (Ed hz rfl (x:=.bool false) rfl ?_);show Ap _ _ (field (.ref z) 3 >>= _) _ _ _;refine Ad (Ed hz rfl (x:=.ref I) rfl (Ad (Go hI rfl ?_)));show Ap _ _ (Gs (.ref z) >>= _) _ _ _;refine Ad ?_;unfold Gs;refine Ad (Ed hz rfl (x:=.none) rfl (Al ?_));simp only[Du];refine Ad (Gw (Ad (Ed hz rfl (x:=.ref O) rfl (Ad (Jc hz (by simp) λt u J=>?_)))))
 replace u:Qr t z I O .ellipsis:=u
 refine Ad ?_;simp only[Ts,Aa6,Mr,Nr];refine Ad (Ad (Sf ?_));show Ap _ _ (Dv (.ref i) >>= _) _ _ _;have H:zU tp t i a k:=h1.keep λo e=>J.extBut _ _ D.iz e;have M:xY tp t a xs:=ha.keep λo e=>J.extBut _ _ Da.z e;cases f:xs[k]? with
 |none =>
  refine Ad (pB hh H M f λl e x2 d=>?_);obtain⟨v,U,T⟩:=d;have z2:Qr l z I O .ellipsis:=x2 _ _ D.iz.symm u;have r:e≠z:=λy=>by subst y;rw[z2] at U;cases U;simp at T
  exact Jc z2 (by simp) λg3 _ Y=>h g3 e (λc o B _ n _ y=>Y.extBut _ _ B (x2 _ _ n (J.extBut _ _ B y))) ⟨v,Y.extBut _ _ r U,T⟩
 |some x =>
  have hy:ys[k]? = none:=by
   rcases G with y|y
   .rw[f] at y;cases y
   .exact y
  refine Ad (fB H M f λl i2 L=>Al ?_);have O2:Km l O p q:=L.extBut _ _ D.Oi (J.extBut _ _ D.Oz hO);refine Ad (Go O2 rfl (Ad (Pe O2 λg3 O3 Y=>Ad (sB (Al ?_)))));refine Ad (Ad (Sf ?_));show Ap _ _ (Dv (.ref j) >>= _) _ _ _;refine Ad (pB hh (h2.keep λo e=>Y.extBut _ _ D.Oj.symm (L.extBut _ _ D.ij.symm (J.extBut _ _ D.jz e))) (hb.keep λo e=>Y.extBut _ _ g.O (L.extBut _ _ g.i (J.extBut _ _ g.z e))) hy λg4 e x4 d=>?_);obtain⟨v,U,T⟩:=d;have z4:Qr g4 z I O .ellipsis:=x4 _ _ D.jz.symm (Y.extBut _ _ D.Oz.symm (L.extBut _ _ D.iz.symm u));have r:e≠z:=λy=>by subst y;rw[z4] at U;cases U;simp at T
  exact Jc z4 (by simp) λg5 _ s5=>h g5 e (λc o B c2 n c4 y=>s5.extBut _ _ B (x4 _ _ c4 (Y.extBut _ _ c2 (L.extBut _ _ n (J.extBut _ _ B y))))) ⟨v,s5.extBut _ _ r U,T⟩
noncomputable abbrev mE (tp:As)(l:Af):Ch:={ cls:=.type (if tp then "tuple_iterator" else "list_iterator"),data:=.fields #[.ref l,.int 0 0] }
abbrev wn (tp:As)(h:Bn)(a:Af):Bn:=h.push (mE tp a)
abbrev wl (tp Y:As)(h:Bn)(a b:Af):Bn:=(wn tp h a).push (mE Y b)
abbrev wk (tp Y:As)(h:Bn)(a b:Af):Bn:=(wl tp Y h a b).push { cls:=.type "tuple",data:=.seq #[.ref h.objs.size,.ref (wn tp h a).objs.size] }
abbrev wj (tp Y:As)(h:Bn)(a b:Af):Bn:=(wk tp Y h a b).push { cls:=.type "tuple",data:=.seq #[.none,.none] }
abbrev r_ (tp Y:As)(h:Bn)(a b:Af):Bn:=(wj tp Y h a b).push { cls:=.type "zip",data:=.fields #[.none,.bool false,.bool false,.ref (wl tp Y h a b).objs.size,.ref (wk tp Y h a b).objs.size] }
set_option maxHeartbeats 4000000 in
theorem MC (tp:As)(a b:Af)(xs ys:Aw Ac) :
  Meets (Jo.«zip.__new__» ⟨[.type "zip",.ref a,.ref b],[]⟩) (λ_ R s=>xY tp s.heap a xs/\xY tp s.heap b ys/\R (.ok (.ret (.ref (wj tp tp s.heap a b).objs.size))) { s with heap:=r_ tp tp s.heap a b }):=
 .of_wp λprog w A R s h=>by
  obtain⟨Y,g,d,J,os⟩:=s;obtain⟨T,I,h⟩:=h;have O:=sub_zip;have B:∀ L:Ch,xY tp (Y.push L) b ys:=λL=>I.keep λo e=>Aj _ e;cases tp
  .have G:Heap.IsList (Vn ⟨Y,g,d,J,os⟩) a xs:=T
   have U:Heap.IsList (Vn ⟨Y.push { cls:=.type "list_iterator",data:=.fields #[.ref a,.int 0 0] },g,d,J,os⟩) b ys:=B _
   wp_walk using Ia G,Ia U
   exact⟨_,rfl,h⟩
  .have G:Heap.IsTuple (Vn ⟨Y,g,d,J,os⟩) a xs:=T
   have U:Heap.IsTuple (Vn ⟨Y.push { cls:=.type "tuple_iterator",data:=.fields #[.ref a,.int 0 0] },g,d,J,os⟩) b ys:=B _
   wp_walk using Jb G,Jb U
   exact⟨_,rfl,h⟩
theorem mI {h:Bn}{it l:Af}(e:h.get? it=Ab (mE tp l)):zU tp h it l 0:=by
 cases tp
 .exact⟨_,e,rfl,rfl⟩
 .exact⟨_,e,rfl,rfl⟩
theorem YB {a b:Af}(y:xY tp s.heap a xs)(z:xY tp s.heap b ys)
  (h:∀ h',Qr h' (s.heap.objs.size+4) (s.heap.objs.size+2) (s.heap.objs.size+3) .none->Km h' (s.heap.objs.size+2) (.ref s.heap.objs.size) (.ref (s.heap.objs.size+1)) ->
   Km h' (s.heap.objs.size+3) .none .none->zU tp h' s.heap.objs.size a 0->zU tp h' (s.heap.objs.size+1) b 0->h'.objs.size=s.heap.objs.size+5->(∀ c o,s.heap.get? c=Ab o->h'.get? c=Ab o)->Q (.ref (s.heap.objs.size+4)) { s with heap:=h' }) :
  Ap (Au prog w) A (call (.type "zip") [.ref a,.ref b]) Q E s:=by
 refine callType_new F.called_zip (by decide) (F.typeCall_zip_2 _ _) (F.newCall_zip_2 _ _) (λU=>F.args_object_init_3 U _ _) F.entry_zip_new (MC tp a b xs ys) ⟨y,z,?_⟩
 have G:(wn tp s.heap a).objs.size=s.heap.objs.size+1:=Ew ..;have J:(wl tp tp s.heap a b).objs.size=s.heap.objs.size+2:=by rw[Ew,G]
 have O:(wk tp tp s.heap a b).objs.size=s.heap.objs.size+3:=by rw[Ew,J]
 have Y:(wj tp tp s.heap a b).objs.size=s.heap.objs.size+4:=by rw[Ew,O]
 have j:(r_ tp tp s.heap a b).objs.size=s.heap.objs.size+5:=by rw[Ew,Y]
 have B:(r_ tp tp s.heap a b).get? (wj tp tp s.heap a b).objs.size=Ab _:=Bj _ rfl;have L:(r_ tp tp s.heap a b).get? (wk tp tp s.heap a b).objs.size=Ab _:=Aj _ (Bj _ rfl);have T:(r_ tp tp s.heap a b).get? (wl tp tp s.heap a b).objs.size=Ab _:=Aj _ (Aj _ (Bj _ rfl));have I:(r_ tp tp s.heap a b).get? (wn tp s.heap a).objs.size=Ab (mE tp b):=Aj _ (Aj _ (Aj _ (Bj _ rfl)));have M:(r_ tp tp s.heap a b).get? s.heap.objs.size=Ab (mE tp a):=Aj _ (Aj _ (Aj _ (Aj _ (Bj _ rfl))));have H:∀ c o,s.heap.get? c=Ab o->(r_ tp tp s.heap a b).get? c=Ab o:=λc o e=>Aj _ (Aj _ (Aj _ (Aj _ (Aj _ e))));show _/\_;rw[J,O,Y] at B;rw[G,J] at T;rw[O] at L;rw[G] at I;rw[Y];exact⟨⟨_,B,rfl⟩,h _ B T L (mI M) (mI I) j H⟩
end
def Sq (tp:As)(K:Ai)(H:Hp)(a:Af)(xs:Aa V):Prop:=if tp then iy K H a xs else jg K H a xs
section
variable {X:Cx}{aj:aa}{σ : _L.St}{H:Hp}{s:Ag}
theorem Sq.at {a:Af}{xs:Aa V}(I:Inv X aj σ H s)(q:Sq tp X.K H a xs):∃ ao,qJ xs ao/\xY tp s.heap a ao.toArray:=by
 cases tp with
 |true =>
  obtain⟨ao,Y,p,_⟩:=I.tuple q;exact⟨ao,Y,p⟩
 |false =>
  obtain⟨ao,Y,p,_⟩:=I.list q;exact⟨ao,Y,p.isList⟩
theorem Sq.inj {a:Af}{xs ys:Aa V}(I:Inv X aj σ H s)(q:Sq tp X.K H a xs)(Y:Sq tp X.K H a ys):xs=ys:=by
 cases tp with
 |true=>exact I.tuple_inj q Y
 |false=>exact I.list_inj q Y
theorem Sq.off {a b:Af}{xs:Aa V}(I:Inv X aj σ H s)(q:Sq tp X.K H a xs)(f:xM X aj H b):a≠b:=by
 have Y:H a≠none\/∃ o,X.K.lookup a=Ab o:=by
  cases tp with
  |true =>
   rcases q with (q|⟨o,q⟩)|⟨o,_,_,q,_⟩
   .exact .inl (by rw[q];intro z;cases z)
   .exact .inl (by rw[q];intro z;cases z)
   .exact .inr ⟨_,q⟩
  |false =>
   rcases q with (q|⟨o,q⟩)|⟨o,_,_,q,_⟩
   .exact .inl (by rw[q];intro z;cases z)
   .exact .inl (by rw[q];intro z;cases z)
   .exact .inr ⟨_,q⟩
 rintro rfl;rcases Y with k|⟨o,k⟩
 .exact k f.1
 .have e:=I.mod.kin a o k
  rcases f.2.2.2.1 with z|z
  .exact I.ok.noex a o e z
  .exact absurd (Bh (I.ok.bs a o e).1) (Oc.mpr z)
theorem Inv.turnLay {fp:ag}{T:Af}{xs:Aa V}{ao:ah}(I:Inv X aj σ H s)(J:∀ b∈fp,xM X aj H b)(k:∀ b o,b ∉ fp->s.heap.get? b=Ab o->h'.get? b=Ab o)(y:∀ b∈fp,∃ o,h'.get? b=Ab o)
  (hT:s.heap.objs.size<=T) (L:qJ xs ao) (B:Qm h' T ao.toArray) (hz:xs.length<=sizeLine):Inv X aj σ (cc H T (.tup xs)) { s with heap:=h' }:=by
 have G:H T=none:=I.hok.fresh hT;have w:∀ b o,s.heap.get? b=Ab o->b≠T:=λb o e=>Cp (Az (Bh e) hT);refine I.step (g':=s.gens) (d':=s.drawn) (t':=s.toks) (ch:=fp) (λb Y=>⟨(J b Y).2.2.2.1,(J b Y).2.1,(J b Y).2.2.2.2.1,(J b Y).2.2.2.2.2⟩) (λb o _ _ hc e _=>k b o hc e) (λb o _ _ hc e _=>⟨o.slots,k b o hc e⟩)
  (λb o _ e n=>by rw[qN (w b o e)];exact n) (λb o hc e=>⟨o,k b o hc e⟩) (λb ys e=>by rw[qN (qX e G)];exact e) (λb o u e=>by rw[qN (qX e G)];exact e)
  (λb j e=>⟨#[],by rw[qN (qX e G),e];simp⟩) (λm E=>?_) (λb u e=>?_) I.bare
 .obtain⟨o,A,M,O,r⟩:=E
  exact⟨o,A,M,k _ o (λz=>(J _ z).2.1 rfl) O,r⟩
 .by_cases Y:b=T
  .subst Y
   rw[zK] at e;cases e;exact⟨hz,ao,L,B⟩
  .rw[qN Y] at e
   refine(I.hok b u e).stay (λc v hc q=>k c v (λz=>?_) q) (λc q=>by rw[qN (qX q G)];exact q) λc ys q=>by rw[qN (qX q G)];exact q
   have U:=(J c z).1;rcases hc with rfl|hc
   .rw[U] at e;cases e
   .rw[U] at hc;cases hc
theorem Inv.turnL {fp:ag}(I:Inv X aj σ H s)(Y:∀ b∈fp,xM X aj H b)(k:∀ b o,b ∉ fp->s.heap.get? b=Ab o->h'.get? b=Ab o):Inv X aj σ H { s with heap:=h' }:=by
 refine I.step (g':=s.gens) (d':=s.drawn) (t':=s.toks) (ch:=fp) (λb U=>⟨(Y b U).2.2.2.1,(Y b U).2.1,(Y b U).2.2.2.2.1,(Y b U).2.2.2.2.2⟩) (λb o _ _ hc e _=>k b o hc e) (λb o _ _ hc e _=>⟨o.slots,k b o hc e⟩)
  (λb o _ e n=>n) (λb o hc e=>⟨o,k b o hc e⟩) (λb ys e=>e) (λb o u e=>e) (λb T e=>⟨#[],by rw[e];simp⟩) (λm O=>?_) (λb u e=>?_) I.bare
 .obtain⟨o,B,L,G,r⟩:=O
  exact⟨o,B,L,k _ o (λz=>(Y _ z).2.1 rfl) G,r⟩
 .refine(I.hok b u e).stay (λc v hc q=>k c v (λz=>?_) q) (λc q=>q) λc ys q=>q
  have J:=(Y c z).1;rcases hc with rfl|hc
  .rw[J] at e;cases e
  .rw[J] at hc;cases hc
end
def zj (tp:As)(K:Ai)(a b:Af):It:=
  ⟨λi H=>∃ xs ys x y,Sq tp K H a xs/\Sq tp K H b ys/\xs[i]? = Ab x/\ys[i]? = Ab y,
   λi H v Y=>∃ T x y,v=.ref T/\H T=none/\Y=cc H T (.tup [x,y])/\(∀ xs,Sq tp K H a xs->xs[i]? = Ab x)/\∀ ys,Sq tp K H b ys->ys[i]? = Ab y,
   λi H=>∃ xs ys,Sq tp K H a xs/\Sq tp K H b ys/\(xs.length<=i\/ys.length<=i)⟩
def iJ (tp:As)(z I O i j a b:Af)(k:Ah)(h:Bn):Prop:=∃ p q,Qr h z I O .none/\Km h I (.ref i) (.ref j)/\Km h O p q/\zU tp h i a k/\zU tp h j b k
theorem pL {z I O i j a b:Af}{k:Ah}{h:Bn}(st:iJ tp z I O i j a b k h):∀ c∈[z,I,O,i,j],∃ o,h.get? c=Ab o/\∀ v,o.data≠.cell v:=λc Y=>by
 obtain⟨p,q,U,G,J,B,L⟩:=st;simp only[AT,Dp,Hk] at Y;rcases Y with rfl|rfl|rfl|rfl|rfl
 .exact⟨_,U,λv y=>by cases y⟩
 .exact⟨_,G,λv y=>by cases y⟩
 .exact⟨_,J,λv y=>by cases y⟩
 .exact B.there
 .exact L.there
theorem JX {c z I O i j:Af}(h:c ∉ [z,I,O,i,j]):c≠z/\c≠O/\c≠i/\c≠j:=by
 simp only[AT,Dp,Hk,not_or] at h;exact⟨h.1,h.2.2.1,h.2.2.2.1,h.2.2.2.2⟩
theorem J0 {P:Be}{w:Br}{K:Ai}{oh:Aa Bp}{x1:Ah}{nj:En}{z I O i j a b:Af}(D:ZA z I O i j):lj P w K (.Tuple oh x1 nj) (zj tp K a b) [z,I,O,i,j] z (iJ tp z I O i j a b) where
 mem:=.head _
 obj:=λk h st=>pL st
 keep:=λk h h' st l=>by
  obtain⟨p,q,B,A,g,f,r⟩:=st;exact⟨p,q,l z (.head _) _ B,l I (.tail _ (.head _)) _ A,l O (.tail _ (.tail _ (.head _))) _ g,f.keep λo e=>l i (.tail _ (.tail _ (.tail _ (.head _)))) o e,r.keep λo e=>l j (.tail _ (.tail _ (.tail _ (.tail _ (.head _))))) o e⟩
 item:=by
  intro X hP hw hK Y k aj s σ H E J U st hg;subst hP hw hK;obtain⟨p,q,B,A,g,f,r⟩:=st;obtain⟨xs,ys,x,y,v,d,hx,hy⟩:=hg;obtain⟨ia,ra,ha⟩:=v.at J;obtain⟨ib,rb,hb⟩:=d.at J;obtain⟨u,hu,ru⟩:=ra.get hx;obtain⟨u',zy,zc⟩:=rb.get hy;have G:∀ {c:Af} {M:Aa V},Sq tp X.K H c M->Off z O i j c:=λ{c M} L=>⟨L.off J (U z (.head _)),L.off J (U O (.tail _ (.tail _ (.head _)))),L.off J (U i (.tail _ (.tail _ (.tail _ (.head _))))),L.off J (U j (.tail _ (.tail _ (.tail _ (.tail _ (.head _))))))⟩;have hT:s.TypeIs (.ref z) "zip":=⟨_,B,rfl⟩;unfold Py;refine Ad (Kx (El (name:=Ga "__next__") hT Pk (Eo Pk hT sK
   (J8 D (G v) (G d) B A g f r ha hb (by simpa using hu) (by simpa using zy) λh' a1 a2 a3 a4 a5 a6 a7=>Al ?_) (Zg _))))
  refine⟨_,rfl,wpAny_letOwnedTupleGo_zip (s:={ s with heap:=h' }) a1 λh2 b1 b2=>?_⟩
  have up:∀ c o,c≠z->h'.get? c=Ab o->h2.get? c=Ab o:=λc o n e=>(b2.2 c n).trans e;have zl:z<s.heap.objs.size:=Bh B;have T2:Km h2 s.heap.objs.size u u':=up _ _ (Hn zl) a5;have t:iJ tp z I O i j a b (k+1) h2:=⟨u,u',b1,up _ _ D.Iz (a7 I _ D.Iz D.IO D.Ii D.Ij A),up _ _ D.Oz a2,a3.keep λo e=>up _ o D.iz e,a4.keep λo e=>up _ o D.jz e⟩;refine⟨.ref s.heap.objs.size,cc H s.heap.objs.size (.tup [x,y]),?_,rfl,⟨_,x,y,rfl,J.hok.fresh (Av _),rfl,λM qz=>by rw[qz.inj J v];exact hx,λM qz=>by rw[qz.inj J d];exact hy⟩,t,λc Y=>?_⟩
  .show _L.Inv X aj σ (cc H s.heap.objs.size (.tup [x,y])) { s with heap:=h2 }
   refine Inv.turnLay (fp:=[z,I,O,i,j]) (ao:=[u,u']) J U (λc o Y e=>?_) (λc Y=>?_) (Av _) (.cons ru (.cons zc .nil)) ⟨_,T2,rfl,_,rfl⟩ (by show 2<=sizeLine;decide)
   .have Y:=JX Y
    exact up c o Y.1 (a7 c o Y.1 Y.2.1 Y.2.2.1 Y.2.2.2 e)
   .obtain⟨o,e,_⟩:=pL t c Y
    exact⟨o,e⟩
  .have hn:=(U c Y).1
   rw[qN ?_]
   .exact hn
   .rintro rfl
    obtain⟨o,e,_⟩:=pL ⟨p,q,B,A,g,f,r⟩ _ Y;exact absurd (Bh e) (Fz _)
 done:=by
  intro X hP hw hK Y k aj s σ H E J U st hg;subst hP hw hK;obtain⟨p,q,B,A,g,f,r⟩:=st;obtain⟨xs,ys,v,d,zb⟩:=hg;obtain⟨ia,ra,ha⟩:=v.at J;obtain⟨ib,rb,hb⟩:=d.at J;have G:∀ {c:Af} {M:Aa V},Sq tp X.K H c M->Off z O i j c:=λ{c M} L=>⟨L.off J (U z (.head _)),L.off J (U O (.tail _ (.tail _ (.head _)))),L.off J (U i (.tail _ (.tail _ (.tail _ (.head _))))),L.off J (U j (.tail _ (.tail _ (.tail _ (.tail _ (.head _))))))⟩;have hT:s.TypeIs (.ref z) "zip":=⟨_,B,rfl⟩;have l1:=ra.length;have l2:=rb.length;unfold Py;refine Ad (Kx (El (name:=Ga "__next__") hT Pk (Eo Pk hT sK
   (JA (J.ok.hd Y) D (G v) (G d) B A g f r ha hb ?_ λh' e l he=>?_) (Zg _))))
  .rcases zb with y|y
   .exact .inl (by simp;lia)
   .exact .inr (by simp;lia)
  .obtain⟨o,ho,zx⟩:=he
   refine Ad (Tt (T:="StopIteration") (b:=true) ⟨o,ho,zx⟩ isSubtype_stop (Al ⟨rfl,Inv.turnL (fp:=[z,I,O,i,j]) J U λc o Y e=>?_⟩));have Y:=JX Y;exact l c o Y.1 Y.2.1 Y.2.2.1 Y.2.2.2 e
 self:=λ_ _ _ _ _ st h=>by
  obtain⟨p,q,B,_⟩:=st;exact t0 B h
noncomputable def yV (xs ys:Aa D):Aa D:=List.zipWith (λx y=>D.tup [x,y]) xs ys
def E2 (ds:Aa D):Ak (Aa D):=match ds with
 |[.tup xs,.tup ys]=>Ab (yV xs ys)
 |[.lst xs,.lst ys]=>Ab (yV xs ys)
 |_=>none
def tL (f:DA):DI:=λak S=>(f ak S).bind λds Y=>yA (E2 ds) Y
theorem J7 {xs ys:Aa D}{i:Ah}:(yV xs ys)[i]? = match xs[i]?,ys[i]? with|some x,Ab y=>Ab (D.tup [x,y])|_,_=>none:=by
 unfold yV;rw[List.getElem?_zipWith];cases xs[i]? <;> cases ys[i]? <;> rfl
theorem fO (xs ys:Aa D):(yV xs ys).length=min xs.length ys.length:=by simp[yV]
section
variable {K:Ai}
theorem Sq.mono {P Y:Hp}(e:qF P Y){a:Af}{xs:Aa V}(q:Sq tp K P a xs):Sq tp K Y a xs:=by
 cases tp with
 |true=>exact yB e q
 |false=>exact e.seq q
theorem PU {P:Hp}{a b:Af}{xs ys:Aa D}{Y:Aa V}(E:Sq tp K P a vs)(B:Sq tp K P b Y)(G:qD K P α xs vs)(A:qD K P α ys Y):su K (zj tp K a b) P α (yV xs ys) where
 go:=λi H M U S J r e _=>by
  rw[fO] at J;have I:i<vs.length:=by rw[<- G.length];lia
  have L:i<Y.length:=by rw[<- A.length];lia
  exact⟨vs,Y,vs[i],Y[i],E.mono (e.trans r.sub),B.mono (e.trans r.sub),by simp,by simp⟩
 yld:=λi H x n M U S J r e k y=>by
  obtain⟨T,u,w,rfl,l,rfl,g,f⟩:=y;rw[fO] at J;have I:i<xs.length:=by lia
  have L:i<ys.length:=by lia
  obtain⟨h,q,c⟩:=G.get (Ar I);obtain⟨v2,v,p⟩:=A.get (Ar L);have z:=g vs (E.mono (e.trans r.sub));have j:=f Y (B.mono (e.trans r.sub));rw[q] at z;cases z;rw[v] at j;cases j;obtain⟨d,O⟩:=r.pure (o:=.tup [u,w]) l;refine⟨_,.tup [xs[i],ys[i]],?_,d,O,?_⟩
  .rw[J7,Ar I,Ar L]
  .exact aK (.of zK) (.cons (au.mono (e.trans O) k _ _ c) (.cons (au.mono (e.trans O) k _ _ p) .nil))
 stop:=λi H M U S J r e _=>by
  rw[fO] at J;have s:=G.length;have t:=A.length;exact⟨vs,Y,E.mono (e.trans r.sub),B.mono (e.trans r.sub),by lia⟩
end
section
variable {X:Cx}{e1 e2:Bp}{oh:Aa Bp}{x1:Ah}{nj:En}{f:DA}{p ar:En}
theorem Y2 {aj:aa}{σ:_L.St}{H P:Hp}{s:Ag}{a b:Af}{xs ys:Aa D}{J:Aa V}{R:It->Hp->Prop}(I:Inv X aj σ H s)(r:bh X.K H P α S)(B:Sq tp X.K P a vs)(O:Sq tp X.K P b J)(T:qD X.K P α xs vs)(u:qD X.K P α ys J)
  (q:uw X P α R (yV xs ys) S):Ap (Au X.prog X.w) X.A (call (.type "zip") [.ref a,.ref b]) (λv E=>Ap (Au X.prog X.w) X.A (Ri v) (uv X aj σ (.Tuple oh x1 nj) R) X.xe E) X.xe s:=by
 obtain⟨g,t,k⟩:=(B.mono r.sub).at I;obtain⟨o,l,M⟩:=(O.mono r.sub).at I;refine YB k M λh' Y j A w L d y=>?_;refine t0 (s:={ s with heap:=h' }) Y ?_
 have D:ZA (s.heap.objs.size+4) (s.heap.objs.size+2) (s.heap.objs.size+3) s.heap.objs.size (s.heap.objs.size+1):=by constructor <;> (intro z;simp at z)
 refine⟨_,[s.heap.objs.size+4,s.heap.objs.size+2,s.heap.objs.size+3,s.heap.objs.size,s.heap.objs.size+1],_,_,H,rfl,I.kept (t':=s.toks) y,J0 (a:=a) (b:=b) D,⟨_,_,Y,j,A,w,L⟩,λc U=>?_,q _ _ P α r (qF.refl _) (Bu _) (PU B O T u)⟩;have G:s.heap.objs.size<=c:=by
  simp only[AT,Dp,Hk] at U;rcases U with rfl|rfl|rfl|rfl|rfl <;> simp
 exact I.fpOk G (I.hok.fresh G)
inductive ya (ds:Aa D)(its:Aa D):Prop
 |tup (xs ys:Aa D) (ed:ds=[.tup xs,.tup ys]) (e:its=yV xs ys)
 |lst (xs ys:Aa D) (ed:ds=[.lst xs,.lst ys]) (e:its=yV xs ys)
theorem MB {ao:Aa D}(h:E2 ds=Ab ao):ya ds ao:=by
 cases ds with
 |nil=>exact nn h
 |cons a ds =>
  cases a with
  |tup xs =>
   cases ds with
   |nil=>exact nn h
   |cons b ds =>
    cases b with
    |tup ys =>
     cases ds with
     |nil=>exact .tup xs ys rfl (Dc h).symm
     |cons _ _=>exact nn h
    |_=>exact nn h
  |lst xs =>
   cases ds with
   |nil=>exact nn h
   |cons b ds =>
    cases b with
    |lst ys =>
     cases ds with
     |nil=>exact .lst xs ys rfl (Dc h).symm
     |cons _ _=>exact nn h
    |_=>exact nn h
  |_=>exact nn h
theorem N3 (c:Gl X "zip")(hm:X.mg "zip" = none)(ha:PA X [e1,e2] (jy X f))(hs:Bl [e1,e2] X.env=(false,eval e1 X.env)::Bl [e2] X.env:=by rfl)(L:(Gp ar (Bl [e2] X.env)).any (·.1)=false:=by rfl) :
  PI X (.Tuple oh x1 nj) (.Call (.Name "zip" p) [e1,e2] [] ar) (sd X (tL f)):=by
 intro aj s σ H R I h;obtain⟨P,α,ak,S,r,t,d⟩:=h;refine Call_ (uF I c hm boot_zip (Iw (bo (wZ ha I r t d ar) λus s1 ⟨vs,H1,P1,g,ds,S1,j,z,k,i,y,e1,e2,A⟩=>?_) hs L));obtain⟨ao,o,q⟩:=v7 A;cases MB o with
 |tup xs ys U e =>
  subst U e;obtain⟨v,w,u,x,rfl,rfl,Y,J,G,O⟩:=mV y z;simp only[au] at Y J;obtain⟨a,n,rfl,E,B⟩:=Y;obtain⟨b,l,rfl,T,M⟩:=J;cases (show u=Dk a from G)
  cases (show x=Dk b from O)
  exact Y2 (tp:=true) j k E T B M (q.base e1 e2)
 |lst xs ys U e =>
  subst U e;obtain⟨v,w,u,x,rfl,rfl,Y,J,G,O⟩:=mV y z;simp only[au] at Y J;obtain⟨a,n,rfl,E,B⟩:=Y;obtain⟨b,l,rfl,T,M⟩:=J;cases (show u=Dk a from G)
  cases (show x=Dk b from O)
  exact Y2 (tp:=false) j k E.l T.l B M (q.base e1 e2)
end
def qw (K:Ai)(J:ai)(x:An)(st:Ey)(U:Aa An):Prop:=∃ f Y,J x=Ab (.ref f)/\rm K x x st f Y/\v8 K Y U []
def Lk (K:Ai)(f:Af)(fd:Fh):Prop:=∃ U J Y,K.lookup f=Ab ⟨U,J,.func fd,Y⟩
theorem pU {K:Ai}{x q:An}{st:Ey}{f:Af}{fd:Fh}(F:rm K x q st f fd):Lk K f fd:=by
 obtain⟨U,G,kV,J,T,B,O,L,Y,_,lk,_⟩:=F.ex;exact⟨U,G,Y,lk⟩
theorem Lk.one {K:Ai}{f:Af}{fd Y:Fh}(h:Lk K f fd)(h':Lk K f Y):fd=Y:=by
 obtain⟨L,T,G,e⟩:=h;obtain⟨B,O,U,J⟩:=h';rw[e] at J;cases J;rfl
def md (P:Be)(w:Br)(K:Ai)(U:ai)(base:Bn)(cm:As)(k:Ah)(x:An)(n:Ah)(F:DF):Prop:=
 ∃ f J Y,Y.length=n/\U x=Ab (.ref f)/\Ep K (.ref f)=true/\v8 K J Y [] /\ Lk K f J/\ma P w K U base cm k f J Y (pc K n F)
def dS (P:Be)(w:Br)(K:Ai)(U:ai)(base:Bn)(cm:As)(k:Ah)(x:An)(Y:Aa An)(F:DF):Prop:=
 ∃ f J,U x=Ab (.ref f)/\Ep K (.ref f)=true/\v8 K J Y [] /\ Lk K f J/\ma P w K U base cm k f J Y (pc K Y.length F)
section
variable {P:Be}{w:Br}{K:Ai}{mg:ai}{base:Bn}{cm:As}
theorem JI {x:An}{f:Af}{fd:Fh}{Y:Ac}(hm:mg x=Ab (.ref f))(lk:Lk K f fd)(h:fd.code=Y/\Mod K mg base):bK K x Y:=λc T e=>by
 obtain⟨U,G,J,lk⟩:=lk;rw[<- h.1];exact PySem.W.law_code h.2.kin h.2.glob e hm (h.2.kin _ _ lk) rfl
theorem TY {x:An}{st:Ey}{U:Aa An}{k:Ah}{g:DS}(h:qw K mg x st U)(S:cu N U (qM st))
  (J:∀ (f:Af) (Y:Ac) (A:Bk) (G:Aa Iu) (s:Ag) (H:Hp) (E:XK),bK K x Y->az cm k (A.deeper (Gx x (qM st) s.heap.objs.size f Y)) ->
   il (lh cm P w K mg base N x (qM st) f Y A G s H E) (zV st) (im (lh cm P w K mg base N x (qM st) f Y A G s H E) g)):md P w K mg base cm (k+1) x U.length (qQ N.length g):=by
 obtain⟨f,I,O,F,B⟩:=h;exact⟨f,I,U,rfl,O,F.kp,B,pU F,fnX F S λY A G s H E T L=>J f Y A G s H E (JI O (pU F) T) L⟩
theorem GK {x:An}{st:Ey}{G:Aa An}{k:Ah}{g:DS}(h:qw K mg x st G)(S:cu N G (qM st))
  (J:∀ (f:Af) (Y:Ac) (A:Bk) (U:Aa Iu) (s:Ag) (H:Hp) (E:XK),bK K x Y->az cm k (A.deeper (Gx x (qM st) s.heap.objs.size f Y)) ->
   il (lh cm P w K mg base N x (qM st) f Y A U s H E) (zV st) (im (lh cm P w K mg base N x (qM st) f Y A U s H E) g)):dS P w K mg base cm (k+1) x G (qQ N.length g):=by
 obtain⟨f,I,O,F,B⟩:=h;exact⟨f,I,O,F.kp,B,pU F,fnX F S λY A U s H E T L=>J f Y A U s H E (JI O (pU F) T) L⟩
theorem md.eq {x:An}{k n:Ah}{F G:DF}(h:md P w K mg base cm k x n F)(e:∀ ds S,ds.length=n->G ds S≠.bad->F ds S=G ds S):md P w K mg base cm k x n G:=by
 obtain⟨f,T,Y,B,U,O,J,L,X⟩:=h;exact⟨f,T,Y,B,U,O,J,L,X.eq e⟩
theorem md.mono {x:An}{j k n:Ah}{F:DF}(h:md P w K mg base cm j x n F)(T:j<=k:=by decide):md P w K mg base cm k x n F:=by
 obtain⟨f,y,G,I,L,U,O,z,X⟩:=h;exact⟨f,y,G,I,L,U,O,z,X.len,λA M s H Y J vs Q E B=>X.run A M s H Y J vs Q E (B.mono T)⟩
theorem md.any {x:An}{k n:Ah}{F:DF}(h:md P w K mg base false k x n F):md P w K mg base cm k x n F:=by
 obtain⟨f,L,J,O,G,Y,U,B,X⟩:=h;exact⟨f,L,J,O,G,Y,U,B,X.any⟩
end
section
variable {X:Cx}{cm:As}{k n:Ah}{F:DF}{x:An}{p ar:En}{e:Bp}{es:Aa Bp}{fa:DA}
theorem M_ (G:md X.prog X.w X.K X.mg X.base cm k x n F)(H:az cm k X.A)(B:ji X)(E:Gl X x)(I:PA X (e::es) (jy X fa))(Y:(x == ("__debug__" : An))=false:=by decide)(O:Bl (e::es) X.env=(false,eval e X.env)::Bl es X.env:=by rfl)(J:(Gp ar (Bl es X.env)).any (·.1)=false:=by rfl) :
  PE X (.Call (.Name x p) (e::es) [] ar) (tD X (qP n F fa)):=by
 obtain⟨f,z,A,M,U,L,T,w,G⟩:=G;exact GB G H B E U L T I Y O J
theorem Z6 (U:Gl X x)(hm:X.mg x=Ab (.ref C))(Y:Ep X.K (.ref C)=true)(J:(x == ("__debug__" : An))=false:=by decide):PE X (.Name x ar) (tD X (dC (.obj C))):=
 cG U hm (v:=.ref C) rfl (λP α => by simp only[au];exact⟨trivial,Y⟩) J
end
def xJ:DF:=λds S=>match ds with
 |[.dct0]=>.bad
 |_=>sV ds S
theorem KY {X:Cx}:wC X (.builtin "len") xJ:=MX trivial
def p5:DE:=λ_ _=>.bad
theorem TF {X:Cx}{e:Bp}:PE X e (tD X p5):=λ_ _ _ _ _ _ ⟨_,_,_,_,_,_,h⟩=>Ao h
theorem JG:∃ C:Am->Am->As,C=sD:=⟨_,rfl⟩
def JF:Am->Am->As:=u8 JG
theorem sE:JF=sD:=Vo JG
def wU:G2:=i2 JF λi j=>.int (i*j)
theorem a9 {X:Cx}:gh X (Ee .Mult) wU:=by
 unfold wU;rw[sE];exact BN
theorem wx {cm:As}{k:Ah}{A:Bk}(Y:az cm k A):A.units+1<Fo:=by have:=Y.units;lia
def lz (F:DF):DF:=λds S=>match F ds S with
 |.ok d Y=>.ok d Y
 |_=>.bad
theorem D3 {F:DF}{S':aq}{d:D}(h:F ds S=.ok d S'):lz F ds S=.ok d S':=by unfold lz;rw[h]
section
variable {X:Cx}{cm:As}{k n:Ah}{F:DF}{x:An}{p ar:En}{e:Bp}{es:Aa Bp}{fa:DA}{f:Af}{fd:Fh}{ps:Aa An}
theorem FR {aj:aa}{σ:_L.St}{H:Hp}{s:Ag}{Q:VK}{us:ah}{P:Hp}(G:ma X.prog X.w X.K X.mg X.base cm k f fd ps (pc X.K n F))(E:az cm k X.A)(y:v8 X.K fd ps [])
  (I:Inv X aj σ H s) (r:bh X.K H P α S) (L:qJ vs us) (T:qD X.K P α ds vs) (A:ds.length=n) (Y:qT X P α (lz F ds S) Q):Ap (Au X.prog X.w) X.A (call (.ref f) us) (EP X aj σ Q) X.xe s:=by
 have B:vs.length=n:=by rw[<- T.length];exact A
 have O:pc X.K n F vs H Q λ_ _ _=>Fb:=by
  refine⟨B,P,α,ds,S,r,T,?_⟩;unfold lz at Y;cases q:F ds S with
  |ok d w=>rw[q] at Y;exact Y
  |ex c x w=>rw[q] at Y;exact Ao Y
  |bad=>rw[q] at Y;exact Y
 have M:us.length=ps.length:=by rw[<- L.length];exact G.len _ _ _ _ O
 have U:=y s us I.kIn (by rw[Hg];exact M)
 rw[Hg] at U;refine Tl (Nk (G.run X.A X.stack s H ⟨us,[]⟩ us vs Q _ E I.env0 U L O) λr o J=>?_);cases r with
 |error u =>
  obtain⟨_,_,_,_,_,_,_,_,_,_,_,_,z⟩:=J;exact Ao z
 |ok j =>
  cases j with
  |ret u=>exact I.after J
  |next=>exact Ao J
  |brk=>exact Ao J
  |cont=>exact Ao J
theorem L_ (G:md X.prog X.w X.K X.mg X.base cm k x n F)(T:az cm k X.A)(z:Gl X x)(v:PA X (e::es) (jy X fa))(O:(x == ("__debug__" : An))=false:=by decide)(L:Bl (e::es) X.env=(false,eval e X.env)::Bl es X.env:=by rfl)(Y:(Gp ar (Bl es X.env)).any (·.1)=false:=by rfl) :
  PE X (.Call (.Name x p) (e::es) [] ar) (tD X (qP n (lz F) fa)):=by
 obtain⟨f,fd,ps,t,A,c,g,a,G⟩:=G;intro aj s σ H Q I h;obtain⟨P,α,ak,S,r,d,u⟩:=h;refine Kk (jV I z A ?_ O);refine Qz (h₀:=X.base) I.ok.mod.kin c (bo (wZ v I r d u ar) λus b ⟨vs,H1,i,w,ds,S1,B,E,l,q,y,M,o,U⟩=>⟨B.kIn,?_⟩) L Y;obtain⟨j,J⟩:=l9 (ak:=ak) (S:=S) U;exact FR G T g B l E y j (qT.base M o J)
end
structure QE (X:Cx)(e:Bp)(f:DE):Prop where
 get:PE X e (tD X f)
structure QT (X:Cx)(e:Bp)(t:DT):Prop where
 get:PT X e (me X t)
structure QW (X:Cx)(e:Bp)(t:DT):Prop where
 get:qg X e t
structure QA (X:Cx)(es:Aa Bp)(f:DA):Prop where
 get:PA X es (jy X f)
structure QO (X:Cx)(e:Ak Bp)(f:DO):Prop where
 get:PO X e (s_ X f)
structure QG (X:Cx)(t:Bp)(g:DG):Prop where
 get:PG X t (nq X g)
structure xg (X:Cx)(ts:Aa Bp)(g:pj):Prop where
 get:rf X ts (eI X g)
structure QI (X:Cx)(tg it:Bp)(f:DI):Prop where
 get:PI X tg it (sd X f)
structure QS (X:Cx)(s:Ey)(f:DS):Prop where
 get:PS X s (im X f)
structure QB (X:Cx)(ss:Aa Ey)(f:DS):Prop where
 get:il X ss (im X f)
structure QJ (X:Cx)(es:Aa Bp)(fs:Aa DE):Prop where
 get:PJ X es fs
structure je (X:Cx)(f:Ac->Ac->Jl Ac)(g:G2):Prop where
 get:gh X f g
structure ze (X:Cx)(f:Ac->Jl Ac)(g:D->aq->ba D):Prop where
 get:yc X f g
structure yb (X:Cx)(g:G2):Prop where
 get:xm X g
structure fr (X:Cx)(f:Ac)(F:DF):Prop where
 get:wC X f F
structure qu (X:Cx)(id:Eg)(g:D->Aa D->aq->ba D):Prop where
 get:qi X id g
structure vn (X:Cx)(g:G3):Prop where
 get:dU X (dR X g)
structure lu (X:Cx):Prop where
 get:Vh (Au X.prog X.w) X.A X.env X.xe
section
variable {X:Cx}{a b c e e1 e2 o i:Bp}{es qI:Aa Bp}{fa fb fc fe fo fi:DE}{ta tb:DT}{fA:DA}{f g:DS}{st:Ey}{yr:Aa Ey}{x:An}{p ar:En}{n k:Ah}{cm:As}{F:DF}{ou:G2}
theorem W0:QE X (.Constant .none j ar) (dC .non):=⟨TM⟩
theorem K8:QE X (.Constant (.bool v) j ar) (dC (.bl v)):=⟨E9⟩
theorem SH:QE X (.Constant (.int v) j ar) (dC (.int v)):=⟨TL⟩
theorem SK:QE X (.Constant (.str v) j ar) (dC (.str v)):=⟨TU⟩
theorem SN (m:Ah)(U:X.N[m]? = Ab x)(hv:qv X.env.scope x)(J:(x == ("__debug__" : An))=false)(Y:(x == ("__classdict__" : An))=false):QE X (.Name x ar) (qB m):=⟨dv m U hv J Y⟩
theorem F7 {nm:Eg}(U:Gl X x)(hm:X.mg x=none)(hv:Gm x=Ab (.type nm))(Y:x ≠ "__name__")(J:(x == ("__debug__" : An))=false):QE X (.Name x ar) (dC (.ty nm)):=⟨GA U hm hv Y J⟩
theorem SE (J:Gl X x)(hm:X.mg x=Ab (.ref C))(Y:Ep X.K (.ref C)=true)(U:(x == ("__debug__" : An))=false):QE X (.Name x ar) (dC (.obj C)):=⟨Z6 J hm Y U⟩
theorem F9 {v:Am}(J:Gl X x)(hm:∃ t,X.mg x=Ab (.int v t))(Y:(x == ("__debug__" : An))=false):QE X (.Name x ar) (dC (.int v)):=⟨let ⟨_,h⟩:=hm;cG (v:=.int v) J h ⟨_,rfl⟩ (λ_ _=>by simp only[au]) Y⟩
theorem SD:QE X e p5:=⟨TF⟩
theorem CI {op:UnaryOp}{h:D->aq->ba D}(J:ze X (Zv op) h)(Y:QE X a fa):QE X (.UnaryOp op a ar) (d1 h fa):=⟨ED J.1 Y.1⟩
theorem SJ (Y:QE X a fa):QE X (.UnaryOp .Not a ar) (iR fa):=⟨TN Y.1⟩
theorem CH {op:Aa4}(U:je X (Ee op) ou)(J:QE X a fa)(Y:QE X b fb):QE X (.BinOp a op b ar) (d2 ou fa fb):=⟨EC U.1 J.1 Y.1⟩
theorem XZ {op:Wu}(Y:je X (Dh op) ou)(U:QE X a fa)(J:QE X b fb)(hm:Mc op b=false:=by first|exact k8 _|with_unfolding_all rfl):QE X (.Compare a [op] [b] ar) (d2 ou fa fb):=⟨TJ Y.1 U.1 J.1 hm⟩
theorem U7 {op Y:Wu}{g':G2}(U:je X (Dh op) ou)(J:je X (Dh Y) g')(O:QE X a fa)(B:QE X b fb)(G:QE X c fc)(hm:Zd [op,Y] [b,c]=false:=by with_unfolding_all rfl):QE X (.Compare a [op,Y] [b,c] ar) (w4 ou g' fa fb fc):=⟨YK U.1 J.1 O.1 B.1 G.1 hm⟩
theorem W1  (h:QE X a fa):QE X (.BoolOp op [a] ar) fa:=⟨TQ h.1⟩
theorem XX (J:QE X a fa)(Y:QE X (.BoolOp .And (b::qI) ar) fb):QE X (.BoolOp .And (a::b::qI) ar) (uB fa fb):=⟨TC J.1 Y.1⟩
theorem CF (Y:QT X c ta)(U:QE X a fa)(J:QE X b fb):QE X (.IfExp c a b ar) (p_ ta fa fb):=⟨EB Y.1 U.1 J.1⟩
theorem SM  (h:QA X es fA):QE X (.Tuple es x1 ar) (xI fA):=⟨TX h.1⟩
theorem SI (h:QA X es fA):QE X (.List es ar) (zL fA):=⟨Z7 h.1⟩
theorem FB (h:QA X es fA):QE X (.List es ar) (dD fA):=⟨GE h.1⟩
theorem F8:QE X (.Dict [] [] ar) kM:=⟨GC⟩
theorem CG (U:yb X ou)(J:QE X a fa)(Y:QE X b fb)(hs:u0 b:=by intro _ _;rfl):QE X (.Subscript a b ar) (d2 ou fa fb):=⟨JJ U.1 J.1 Y.1 hs⟩
theorem U9 {lo hi:Ak Bp}{Y J:DO}{B:En}(O:QE X e fe)(G:QO X lo Y)(U:QO X hi J):QE X (.Subscript e (.Slice lo hi none B) ar) (ka fe Y J):=⟨YM O.1 G.1 U.1⟩
theorem FG:QO X none zH:=⟨GP⟩
theorem FH (Y:QE X e fe):QO X (Ab e) (z0 fe):=⟨GQ Y.1⟩
theorem SG (Y:QE X e fe):QE X (.FormattedValue e (-1) none ar) (d1 kW fe):=⟨TK Y.1⟩
theorem SU:QJ X [] []:=⟨DV⟩
theorem FE {Y:Aa DE}(U:QE X e fe)(J:QJ X es Y):QJ X (e::es) (fe::Y):=⟨F0 U.1 J.1⟩
theorem FA {Y:Aa DE}(h:QJ X (e1::e2::qI) Y):QE X (.JoinedStr (e1::e2::qI) ar) (dB Y):=⟨GD h.1⟩
theorem XU:QA X [] qC:=⟨Z3⟩
theorem aF (Y:QE X e fa)(J:QA X es fA)(hs:Bl (e::es) X.env=(false,eval e X.env)::Bl es X.env:=by rfl):QA X (e::es) (qA fa fA):=⟨cF Y.1 J.1 hs⟩
theorem z_ (G:md X.prog X.w X.K X.mg X.base cm k x n F)(T:az cm k X.A)(O:ji X)(B:Gl X x)(L:QA X (e::es) fA)(Y:(x == ("__debug__" : An))=false)(U:Bl (e::es) X.env=(false,eval e X.env)::Bl es X.env:=by rfl)(J:(Gp ar (Bl es X.env)).any (·.1)=false:=by rfl):QE X (.Call (.Name x p) (e::es) [] ar) (qP n F fA):=⟨M_ G T O B L.1 Y U J⟩
theorem U6 (O:fr X (.builtin id) F)(B:Gl X x)(hm:X.mg x=none)(hv:Gm x=Ab (.builtin id))(L:QA X (e::es) fA)(G:x ≠ "__name__")(Y:(x == ("__debug__" : An))=false)(U:Bl (e::es) X.env=(false,eval e X.env)::Bl es X.env:=by rfl)(J:(Gp ar (Bl es X.env)).any (·.1)=false:=by rfl):QE X (.Call (.Name x p) (e::es) [] ar) (qH F fA):=⟨YJ O.1 B hm hv L.1 G Y U J⟩
theorem XY {T:Eg}(O:fr X (.type T) F)(B:Gl X x)(hm:X.mg x=none)(hv:Gm x=Ab (.type T))(L:QA X (e::es) fA)(G:x ≠ "__name__")(Y:(x == ("__debug__" : An))=false)(U:Bl (e::es) X.env=(false,eval e X.env)::Bl es X.env:=by rfl)(J:(Gp ar (Bl es X.env)).any (·.1)=false:=by rfl):QE X (.Call (.Name x p) (e::es) [] ar) (qH F fA):=⟨Z5 O.1 B hm hv L.1 G Y U J⟩
theorem gI {T:Eg}{name:An}{B:En}{h:D->Aa D->aq->ba D}(E:Xh T)(slot:Slot T name id)(O:typeOf (.builtin id)=pure (.type "method_descriptor"))(hT:T = "list" \/ T = "dict" \/ T = "int" \/ T = "str")(hm:qu X id h)(L:QE X o fo)(I:QA X (e::es) fA)
  (J:La o name X.env (eval o X.env)=eval o X.env:=by rfl)
  (G:((Gp ar (Bl (e::es) X.env)).all (λx=>!x.1)&&(backToKw ar (keywordEach [] X.env)).all (λx=>x.1.isSome)&&decide ((e::es).length+([]:Aa Keyword).length+(if ([] : Aa Keyword).isEmpty then 0 else 1)<30))=true:=by rfl)
  (U:(B.endLine == ar.line)=true:=by rfl) (hs:Bl (e::es) X.env=(false,eval e X.env)::Bl es X.env:=by rfl) (Y:(Gp ar (Bl es X.env)).any (·.1)=false:=by rfl):QE X (.Call (.Attribute o name B) (e::es) [] ar) (ls T h fo fA):=⟨EA E slot O hT hm.1 L.1 I.1 J G U hs Y⟩
theorem uJ {T:Eg}{name:An}{G:En}{h:D->Aa D->aq->ba D}(O:Xh T)(slot:Slot T name id)(U:typeOf (.builtin id)=pure (.type "method_descriptor"))(hT:T = "list" \/ T = "dict" \/ T = "int" \/ T = "str")(hm:qu X id h)(B:QE X o fo)
  (Y:La o name X.env (eval o X.env)=eval o X.env:=by rfl) (J:(G.endLine == ar.line)=true:=by rfl):QE X (.Call (.Attribute o name G) [] [] ar) (iQ T h fo):=⟨TH O slot U hT hm.1 B.1 Y J⟩
theorem KA (h:QW X e ta):QT X e ta:=⟨qg.pt h.1⟩
theorem aH (Y:QT X a ta):QW X (.BoolOp .And [a] ar) ta:=⟨GW Y.1⟩
theorem mS (Y:QT X a ta):QW X (.BoolOp .Or [a] ar) ta:=⟨NI Y.1⟩
theorem WA (J:QT X a ta)(Y:QW X (.BoolOp .And (b::qI) ar) tb):QW X (.BoolOp .And (a::b::qI) ar) (vB ta tb):=⟨NH J.1 Y.1⟩
theorem dO (J:QT X a ta)(Y:QW X (.BoolOp .Or (b::qI) ar) tb):QW X (.BoolOp .Or (a::b::qI) ar) (wG ta tb):=⟨EL J.1 Y.1⟩
theorem W8 (Y:QT X a ta):QT X (.UnaryOp .Not a ar) (xD ta):=⟨NF Y.1⟩
theorem W7 {op:Wu}(Y:je X (Dh op) ou)(U:QE X a fa)(J:QE X b fb)(hm:Mc op b=false:=by first|exact k8 _|with_unfolding_all rfl):QT X (.Compare a [op] [b] ar) (cj (d2 ou fa fb)):=⟨ND Y.1 U.1 J.1 hm⟩
theorem UF {op Y:Wu}{g':G2}(U:je X (Dh op) ou)(J:je X (Dh Y) g')(O:QE X a fa)(B:QE X b fb)(G:QE X c fc)(hm:Zd [op,Y] [b,c]=false:=by with_unfolding_all rfl):QT X (.Compare a [op,Y] [b,c] ar) (cj (w4 ou g' fa fb fc)):=⟨YW U.1 J.1 O.1 B.1 G.1 hm⟩
theorem W9 (U:QE X a fa)(J:∀ Y,isTrue a X.env Y=(do let v <- Y;Sc a.pos;holding [v] (truthy v)):=by intro _;rfl):QT X a (cj fa):=⟨NG U.1 J⟩
theorem FD (U:X.N.Nodup)(hi:X.N[m]? = Ab x)(Y:Loc X.env.scope x)(J:X.fn x=true\/X.env.scope.names.lookup x=Ab .local):QG X (.Name x ar) (br m):=⟨GM U hi Y J⟩
theorem aG:xg X [] y7:=⟨GN⟩
theorem rV {h:DG}{Y:pj}(h1:QG X e h)(h2:xg X es Y)(hs:(Gv (e::es) X.env).map (·.2)=assign e X.env::(Gv es X.env).map (·.2):=by rfl):xg X (e::es) (zW h Y):=⟨YO h1.1 h2.1 hs⟩
theorem W3 {kk:Ah}{J:pj}(G:X.calm=true)(h:xg X es J)(U:(Gv es X.env).length=n:=by rfl)(Y:(Gv es X.env).findIdx? (·.1)=none:=by rfl):QG X (.Tuple es kk ar) (m_ n J):=⟨N1 G h.1 U Y⟩
theorem SO {h:G3}(J:QE X o fo)(hi:QE X i fi)(hs:vn X h)
  (Y:∀ v,assign (.Subscript o i ar) X.env v=(do
   let ov <- holding [v] (eval o X.env)
   let iv <- holding [v,ov] (eval i X.env)
   Sc ar
   holding [v,ov,iv] (setItem ov iv v)
   release [v,ov,iv] []):=by intro _;rfl):QG X (.Subscript o i ar) (vj fo fi h):=⟨N0 J.1 hi.1 hs.1 Y⟩
theorem SS {tg:Bp}(Y:QE X e fa):QI X tg e (vJ fa):=⟨N2 Y.1⟩
theorem UB {tg:Bp}(J:Gl X "range")(hm:X.mg "range" = none)(U:QA X (e::es) fA)(hs:Bl (e::es) X.env=(false,eval e X.env)::Bl es X.env:=by rfl)(Y:(Gp ar (Bl es X.env)).any (·.1)=false:=by rfl):QI X tg (.Call (.Name "range" p) (e::es) [] ar) (y9 fA):=⟨YQ J hm U.1 hs Y⟩
theorem W4 {U:Aa Bp}{J:Ah}{B:En}(G:Gl X "zip")(hm:X.mg "zip" = none)(O:QA X [e1,e2] fA)(hs:Bl [e1,e2] X.env=(false,eval e1 X.env)::Bl [e2] X.env:=by rfl)(Y:(Gp ar (Bl [e2] X.env)).any (·.1)=false:=by rfl):QI X (.Tuple U J B) (.Call (.Name "zip" p) [e1,e2] [] ar) (tL fA):=⟨N3 G hm O.1 hs Y⟩
theorem XW:QB X [] zI:=⟨N7⟩
theorem mR (h:QS X st f):QB X [st] f:=⟨N8 h.1⟩
theorem b7 (h1:QS X st f)(h2:QB X yr g):QB X (st::yr) (qO f g):=⟨GR h1.1 h2.1⟩
theorem FI (Y:QE X e fa)(hs:Nv e none ar.line X.env=pure false:=by rfl):QS X (.Expr e ar) (vY fa):=⟨GS Y.1 hs⟩
theorem W6 (Y:QE X e fa):QS X (.Return (Ab e) ar) (qW fa):=⟨NA Y.1⟩
theorem K9 {as bs:Aa Ey}(Y:QT X c ta)(J:QB X as f)(U:QB X bs g):QS X (.If c as bs ar) (gk ta f g):=⟨EI Y.1 J.1 U.1⟩
theorem W5 {tg Y:Bp}{J:DI}{h:DG}(hp:lu X)(U:X.calm=true)(hi:QI X tg Y J)(G:QG X tg h)(O:QB X cx f)(hs:∀ x,Fw Y X.env x=pure x:=by intro _;rfl):QS X (.For tg Y cx [] ar) (gL J h f):=⟨N6 hp.1 U hi.1 G.1 O.1 hs⟩
theorem SX {Y:En}(U:X.N.Nodup)(O:QE X e fa)(hi:X.N[m]? = Ab x)(G:Loc X.env.scope x)(hs:Nv e (Ab (.Name x Y)) ar.line X.env=pure false)(J:X.fn x=true\/X.env.scope.names.lookup x=Ab .local):QS X (.Assign [.Name x Y] e ar) (zA fa (br m)):=⟨NB U O.1 hi G hs J⟩
theorem SV {tg:Bp}{h:DG}(J:QE X e fa)(Y:QG X tg h)(hs:Mb [tg] e ar.line X.env=pure false:=by rfl)(hw:Ma [tg] e X.env=pure none:=by rfl)(h1:(Gv [tg] X.env).map (·.2)=[assign tg X.env]:=by rfl):QS X (.Assign [tg] e ar) (zA fa h):=⟨N5 J.1 Y.1 hs hw h1⟩
theorem SW {l:Ah}{y:An}{J Y:En} {kt k2 pt2} (L:X.calm=true) (O:X.N.Nodup) (T:QA X [a,b] fA) (hi:X.N[m]? = Ab x) (B:X.N[l]? = Ab y) (U:m≠l) (E:X.env.scope.names.lookup x=Ab .local) (G:X.env.scope.names.lookup y=Ab .local)
  (hw:Ma [.Tuple [.Name x J,.Name y py] kt Y] (.Tuple [a,b] k2 pt2) X.env=pure (Ab [x,y]):=by rfl) (hs:Mb [.Tuple [.Name x J,.Name y py] kt Y] (.Tuple [a,b] k2 pt2) ar.line X.env=pure false:=by rfl) :
  QS X (.Assign [.Tuple [.Name x J,.Name y py] kt Y] (.Tuple [a,b] k2 pt2) ar) (pH m l fA):=⟨N9 L O T.1 hi B U E G hw hs⟩
theorem UE {L:Af}{G U:En}(T:X.calm=true)(O:ji X)(E:Gl X x)(hm:X.mg x=Ab (.ref C))(H:bR X.K C L=true)(I:QA X (e::qI) fA)(Y:(x == ("__debug__" : An))=false)(B:Bl (e::qI) X.env=(false,eval e X.env)::Bl qI X.env:=by rfl)(J:(Gp U (Bl qI X.env)).any (·.1)=false:=by rfl) :
  QS X (.Raise (Ab (.Call (.Name x G) (e::qI) [] U)) none ar) (yT (.ref C) fA):=⟨YV T O E hm H I.1 Y B J⟩
theorem SY {nm:An}{I:Af}{J:Ey}{Y:Aa Ey}{H U:En}{T:ah}(z:ji X)(M:∀ E G,lu (Cx.tryIn X E G)->QB (Cx.tryIn X E G) cx f)(hs:∀ e,QB (Cx.suite X e) (J::Y) g)(y:Gl X x)(hm:X.mg x=Ab (.ref I))(O:∀ c∈T,Ju X.K c (.ref I)=Ab true)(w:X.N.Nodup)(hi:X.N[m]? = Ab nm)(B:X.env.scope.names.lookup nm=Ab .local)(L:(x == ("__debug__" : An))=false)(j:X.N.length=n) :
  QS X (.Try cx [.ExceptHandler (Ab (.Name x H)) (Ab nm) (J::Y) U] [] [] ar) (fJ n m T f g):=⟨j▸NC z (λE G A=>(M E G ⟨A⟩).1) (λe=>(hs e).1) y hm O w hi B L⟩
theorem A8:je X (Ee .Add) qV:=⟨LW⟩
theorem AJ:je X (Ee .Sub) jH:=⟨D1⟩
theorem AF:je X (Ee .Mult) wU:=⟨a9⟩
theorem AA:je X (Ee .FloorDiv) vQ:=⟨LX⟩
theorem AE:je X (Ee .Mod) yK:=⟨LZ⟩
theorem AH:je X (Ee .Pow) iZ:=⟨D0⟩
theorem OO:je X (Dh .Lt) vm:=⟨K5⟩
theorem ON:je X (Dh .LtE) og:=⟨HV⟩
theorem OL:je X (Dh .Gt) uq:=⟨HS⟩
theorem OK:je X (Dh .GtE) wz:=⟨HR⟩
theorem RW:je X (Dh .Is) uo:=⟨HU⟩
theorem RU (Y:az cm k X.A):je X (Dh .Eq) j_:=⟨HQ Y.units⟩
theorem E0 (Y:az cm k X.A):je X (Dh .NotEq) k_:=⟨HW Y.units⟩
theorem AG:ze X (Zv .USub) kY:=⟨RJ⟩
theorem OM:yb X gu:=⟨L3⟩
theorem KJ:fr X (.builtin "isinstance") zO:=⟨QP⟩
theorem RX {Y:ag}(h:rq X.K Y):fr X (.builtin "isinstance") (zR Y):=⟨KW h⟩
theorem KL:fr X (.builtin "len") xJ:=⟨KY⟩
theorem A9 (Y:X.calm=true):fr X (.builtin "all") (jG false):=⟨MV false Y⟩
theorem AB:fr X (.type "int") iW:=⟨MW⟩
theorem MA:fr X (.type "tuple") yI:=⟨YD⟩
theorem RY:fr X (.type "list") pQ:=⟨KZ⟩
theorem eQ:qu X "list.append" wR:=⟨X6⟩
theorem i6:qu X "list.count" fW:=⟨VP⟩
theorem i7:qu X "list.index" fX:=⟨VQ⟩
theorem AI (Y:az cm k X.A):vn X vD:=⟨R7 (wx Y)⟩
end
section
variable {P:Be}{w:Br}{K:Ai}{mg:ai}{base:Bn}{cm:As}
theorem i9 {U:An}{am:Eu}{f:Af}{Y:Ac}{A:Bk}{J:Aa Iu}{s:Ag}{H:Hp}{E:XK}:lu (lh cm P w K mg base N U am f Y A J s H E):=⟨YG⟩
theorem IE {x:An}{st:Ey}{U:Aa An}{k:Ah}{g:DS}(h:qw K mg x st U)(S:cu N U (qM st))(G:zV st=cx)
  (J:∀ (f:Af) (Y:Ac) (A:Bk) (O:Aa Iu) (s:Ag) (H:Hp) (E:XK),bK K x Y->az cm k (A.deeper (Gx x (qM st) s.heap.objs.size f Y)) ->
   QB (lh cm P w K mg base N x (qM st) f Y A O s H E) cx g):md P w K mg base cm (k+1) x U.length (qQ N.length g):=
 TY h S λf Y A O s H E L B=>G▸(J f Y A O s H E L B).1
theorem EE {x:An}{st:Ey}{U:Aa An}{k:Ah}{g:DS}(h:qw K mg x st U)(S:cu N U (qM st))(G:zV st=cx)
  (J:∀ (f:Af) (Y:Ac) (A:Bk) (O:Aa Iu) (s:Ag) (H:Hp) (E:XK),bK K x Y->az cm k (A.deeper (Gx x (qM st) s.heap.objs.size f Y)) ->
   QB (lh cm P w K mg base N x (qM st) f Y A O s H E) cx g):dS P w K mg base cm (k+1) x U (qQ N.length g):=
 GK h S λf Y A O s H E L B=>G▸(J f Y A O s H E L B).1
theorem GJ {x:An}{st:Ey}{Y:Aa An}(h:qw K mg x st Y):md P w K mg base cm 0 x Y.length λ_ _=>.bad:=by
 obtain⟨f,G,U,F,O⟩:=h;exact⟨f,G,Y,rfl,U,F.kp,O,pU F,⟨λvs H Q E z=>z.1,λA B s H J L vs Q E _ _ _ _ z=>by obtain⟨_,_,_,_,_,_,_,z⟩:=z;exact Ao z⟩⟩
end
structure ue (X:Cx)(ifs:Aa Bp)(t:DT):Prop where
 get:qh X ifs t
section
variable {X:Cx}{ce tg bg e:Bp}{cy es:Aa Bp}{am:Eu}{ar p:En}{N':Aa An}{bz:Aa (Ak Ah)}{fi:DI}{g:DG}{t u:DT}{fe:DE}{fa:DA}{x:An}{cm:As}{k n:Ah}{F:DF}
theorem FJ:ue X [] zY:=⟨GV⟩
theorem UG (h1:QT X e t)(h2:ue X es u):ue X (e::es) (vB t u):=⟨YX h1.1 h2.1⟩
theorem zz (G:md X.prog X.w X.K X.mg X.base cm k x n F)(L:az cm k X.A)(O:Gl X x)(B:QA X (e::es) fa)(Y:(x == ("__debug__" : An))=false)(U:Bl (e::es) X.env=(false,eval e X.env)::Bl es X.env:=by rfl)(J:(Gp ar (Bl es X.env)).any (·.1)=false:=by rfl) :
  QE X (.Call (.Name x p) (e::es) [] ar) (qP n (lz F) fa):=⟨L_ G L O B.1 Y U J⟩
end
def mq (o:Ak (Ah × MO))(S:aq):Prop:=match o with
 |none=>NE
 |some p=>S[p.1]? = Ab p.2
open Classical in
def oY (o:Ak (Ah × MO))(S:aq):As:=decide (mq o S)
theorem yC {o:Ak (Ah × MO)}:oY o S=true↔mq o S:=by simp[oY]
structure l_ (K:Ai)(J:It)(P:Hp)(α : Aa Af)(o:Ak (Ah × MO))(ds:Aa D):Prop where
 go:∀ i H P1 α1 S,i<ds.length->bh K H P1 α1 S->mq o S->qF P P1->α<+:α1->J.go i H
 yld:∀ i H x H' P1 α1 S,i<ds.length->bh K H P1 α1 S->mq o S->qF P P1->α<+:α1->J.yld i H x H'->∃ P2 d,ds[i]? = Ab d/\bh K H' P2 α1 S/\qF P1 P2/\au K P2 α1 d x
 stop:∀ i H P1 α1 S,ds.length<=i->bh K H P1 α1 S->mq o S->qF P P1->α<+:α1->J.stop i H
theorem su.two {K:Ai}{J:It}{P:Hp}(h:su K J P α ds):l_ K J P α none ds:=
 ⟨λi H U Y S a b _ c d=>h.go i H U Y S a b c d,λi H x G U Y S a b _ c d e=>h.yld i H x G U Y S a b c d e,λi H U Y S a b _ c d=>h.stop i H U Y S a b c d⟩
abbrev oz:=qE->aq->ba (Ak (Ah × MO) × Aa D)
inductive nk (X:Cx)(f:oz)(σ : _L.St)(H:Hp)(R:It->Hp->Prop):Prop
 |mk (P:Hp) (α : Aa Af) (env:qE) (S:aq) (r:bh X.K H P α S) (re:z9 X.K P α σ env) (af:qG X P α (f env S) (λp S'=>∀ J H' P' α',bh X.K H' P' α' S'->qF P P'->α<+:α'->l_ X.K J P' α' p.1 p.2->R J H')):nk X f σ H R
def xE (f:DI):oz:=λak S=>(f ak S).bind λds Y=>.ok (none,ds) Y
section
variable {X:Cx}{K:Ai}{tg e:Bp}{fa:DE}{ar:En}
theorem GO {f:DI}(h:PI X tg e (sd X f)):PI X tg e (nk X (xE f)):=PI.weak h λσ H R ⟨P,α,ak,S,r,E,Y⟩=>by
 refine⟨P,α,ak,S,r,E,?_⟩;unfold xE at Y;cases q:f ak S with
 |bad=>rw[q] at Y;exact Y
 |ex c x A=>rw[q] at Y;exact Y
 |ok ds I =>
  rw[q] at Y;exact λJ G T U B O L it=>Y J G T U B O L it.two
theorem PP {P:Hp}{a:Af}{n:Ah}(Y:α[n]? = Ab a):l_ K (yf K a) P α (Ab (n,.lst ds)) ds where
 go:=λi H O U S J r st e G=>by
  obtain⟨vs,z,t⟩:=r.at' n a _ (pZ G Y) st;exact⟨vs,vs[i]'(by rw[<- t.length];exact J),.of z,by simp⟩
 yld:=λi H x E O U S J r st e G y=>by
  obtain⟨rfl,y⟩:=y;obtain⟨vs,z,t⟩:=r.at' n a _ (pZ G Y) st;have L:=y vs (.of z);obtain⟨v,B,T⟩:=t.get (Ar J);rw[L] at B;cases B;exact⟨O,_,Ar J,r,qF.refl _,T⟩
 stop:=λi H O U S J r st e G=>by
  obtain⟨vs,z,t⟩:=r.at' n a _ (pZ G Y) st;exact⟨vs,.of z,by rw[<- t.length];exact J⟩
noncomputable def E_ (d:D)(S:aq):ba (Ak (Ah × MO) × Aa D):=match d with
 |.tup xs=>.ok (none,xs) S
 |.lst xs=>.ok (none,xs) S
 |.loc n=>match S[n]? with
  |some (.lst xs)=>.ok (Ab (n,.lst xs),xs) S
  |_=>.bad
 |_=>.bad
def ju (f:DE):oz:=λak S=>(f ak S).bind λd Y=>E_ d Y
theorem EF (E:PE X e (tD X fa)):PI X tg e (nk X (ju fa)):=by
 intro l s σ H R I h;obtain⟨P,α,ak,S,r,re,c⟩:=h;refine bo (zM E I r re c) λj B ⟨v,H1,y,A,d,M,Y,U⟩=>?_;have O:∀ ds,x8 d=Ab ds->(∀ J T L G,bh X.K T L G M->qF P L->α<+:G->l_ X.K J L G none ds->R J T)->Ap (Au X.prog X.w) X.A (Ri j) (uv X l σ tg R) X.xe B:=λds k q =>
  r9 Y.inv Y.rel Y.val Y.rep k λJ T L G u h1 i it=>q J T L G u (Y.same.trans h1) (Y.pre.trans i) it.two
 cases d with
 |tup xs=>exact O xs rfl U
 |lst xs=>exact O xs rfl U
 |loc n =>
  obtain⟨xs,g,U⟩:=gG (X:=X) (f:=λxs=>ba.ok (Ab (n,MO.lst xs),xs) M) U;have w:=Y.rep;simp only[au] at w;obtain⟨a,rfl,E⟩:=w;cases (show j=Dk a from Y.val)
  obtain⟨vs,z,t⟩:=Y.rel.at' n a _ E g;obtain⟨ao,rv,p,hz⟩:=Y.inv.list (jg.of z);refine Ia p.isList ?_;refine⟨B.heap.objs.size,[B.heap.objs.size],_,_,H1,rfl,Y.inv.kept (t':=B.toks) λb o e=>Aj _ e,lW a _,⟨_,Bj _ rfl,rfl,rfl⟩,λb x=>?_,U _ _ y A Y.rel Y.same Y.pre (PP E)⟩;have e:b=B.heap.objs.size:=by simpa using x
  subst e;exact Y.inv.fpOk (Av _) (Y.inv.hok.fresh (Av _))
 |_=>exact Ao U
end
noncomputable def xz (m:As)(Y:Bp)(av:Ac)(ak:Iu):Jl Pa:=match m with
 |false=>do let _ <- call (.builtin "list.append") [av,<- eval Y ak]
 |true=>do let v <- eval Y ak;Sc Y.pos;let _ <- call (.builtin "set.add") [av,v]
def xK (m:As)(U:Bp)(J:Aa Dy)(am:Eu)(G:En)(k:Ah)(av:Ac)(ak:Iu):Jl Pa:=
 match J[k+1]? with
 |some Y=>do
  let x <- eval Y.iter ak
  Sc Y.iter.pos
  let x <- Fw Y.iter ak x
  let it <- holding [x] (Ri x)
  let _ <- runOwn (.compStart (xW m U J am G) (k+1) it av ak) ak
 |none=>xz m U av ak
theorem UY (m:As)(G Y O:Bp)(B:Aa Bp)(J:Aa Dy)(am:Eu)(U:En)(it av:Ac)(ak:Iu)(k:Ah)(L:J[k]? = Ab ⟨Y,O,B,0⟩)(I:∀ g',J[k+1]? = Ab g'->g'.is_async=0) :
  Aa7 (xW m G J am U) k it av ak=(do
   Sc O.pos
   match <- Py it with
   |none=>pure (.done .next)
   |some v =>
    Kr Y it v
    assign Y ak v
    let mut ok:=true
    for c in B do
     if ok then ok <- isTrue c ak (eval c ak)
    if ok then xK m G J am U k av ak
    again (.compLoop (xW m G J am U) k it av ak)):=by
 cases m <;>
 .unfold Aa7 xK xW xz
  simp only[L];cases q:J[k+1]? with
  |none=>rfl
  |some g' =>
   have T:=I g' q;have E:(g'.is_async != 0)=false:=by rw[T];rfl
   simp only[E,Bo,Ds,bind_assoc,pure_bind];rfl
abbrev DK:=qE->aq->Aa D->ba (qE × Aa D)
def ja (o:Ak (Ah × MO))(g:DG)(t:DT)(k:DK):Aa D->DK
 |[],ak,S,J=>if oY o S then .ok (ak,J) S else .bad
 |d::ds,ak,S,J=>if oY o S then (g d ak S).bind λY G=>(t Y G).bind λb U =>
   if b then (k Y U J).bind λp O=>ja o g t k ds p.1 O p.2 else ja o g t k ds Y U J
  else .bad
def zC (fe:DE):DK:=λak S Y=>(fe ak S).bind λx J=>if Y.length<bb then .ok (ak,Y++[x]) J else .bad
def JC (B:Acc)(Y:Cx)(aj:aa)(P1:Hp)(J:ag)(av:Af)(ak:qE)(S:aq)(ds:Aa D)(s:Ag):Prop:=
 ∃ σ H P α o,fj B Y aj P1 J [] av ak S ds s σ H P α o
def PK (B:Acc)(Y:Cx)(step:Ac->Jl Pa)(k:DK):Prop:=
 ∀ (O:aa) (L:Hp) (U:ag) (J:Af) (ak T:qE) (S E:aq) (ds G:Aa D) (s:Ag),(∀ H:Hp,H J=none->xM Y O H J)->JC B Y O L U J ak S ds s->k ak S ds=.ok (T,G) E ->
  Ap (Au Y.prog Y.w) Y.A (step (.ref J)) (λ_ I=>JC B Y O L U J T E G I) (λ_ _=>Fb) s
section
variable {B:Acc}{Y:Cx}{ce tg bg:Bp}{cy:Aa Bp}{bi:Aa Dy}{am:Eu}{ar:En}{k:Ah}{g:DG}{t:DT}{fe:DE}{it av:Af}{fp:ag}{J:It}{tn:Ah->Bn->Prop}{items:Aa D}{P1:Hp}{α1:ag}{aj:aa}
theorem ZL {X:Cx}{H:Hp}{b:Af}{h:Bn}(f:xM X aj H b)(I:b ∉ fp):xM X (aj++yQ fp h) H b:=by
 obtain⟨O,L,A,E,T,U⟩:=f;refine⟨O,L,A,E,T,λp G=>?_⟩;rcases Bw.mp G with z|z
 .exact U p (Dq _ z)
 .rcases Bw.mp z with z|z
  .exact U p (Cf _ z)
  .rintro rfl
   exact I (lL z).1
theorem ba.bind_inv {β γ:Type}{r:ba β}{f:β->aq->ba γ}{x:γ}(h:r.bind f=.ok x S):∃ b U,r=.ok b U/\f b U=.ok x S:=by
 cases r with
 |ok b U=>exact⟨b,U,rfl,h⟩
 |_=>cases h
inductive yi (o:Ak (Ah × MO))(g:DG)(t:DT)(k:DK)(d:D)(ds acc:Aa D)(env:qE)(S SF:aq)(x:qE × Aa D):Prop
 |no (env1:qE) (S1 S2:aq) (z:mq o S) (q1:g d env S=.ok env1 S1) (q2:t env1 S1=.ok false S2) (r:ja o g t k ds env1 S2 acc=.ok x SF):yi o g t k d ds acc env S SF x
 |yes (env1:qE) (S1 S2:aq) (env5:qE) (ds5:Aa D) (S5:aq) (z:mq o S) (q1:g d env S=.ok env1 S1) (q2:t env1 S1=.ok true S2) (q3:k env1 S2 acc=.ok (env5,ds5) S5) (r:ja o g t k ds env5 S5 ds5=.ok x SF):yi o g t k d ds acc env S SF x
set_option tactic.hygienic true in
theorem V8 {o:Ak (Ah × MO)}{k:DK}{d:D}{av:Aa D}{x:qE × Aa D}(h:ja o g t k (d::ds) ak S av=.ok x SF):yi o g t k d ds av ak S SF x:=by
 simp only[ja] at h
 split at h
 .rename_i z
  obtain⟨U,I,E,h⟩:=ba.bind_inv h;obtain⟨b,L,T,h⟩:=ba.bind_inv h;cases b with
  |false=>exact .no U I L (yC.mp z) E T h
  |true =>
   obtain⟨⟨G,O⟩,H,A,h⟩:=ba.bind_inv h;exact .yes U I L G O H (yC.mp z) E T A h
 .cases h
set_option tactic.hygienic true in
theorem PC {o:Ak (Ah × MO)}{k:DK}{av:Aa D}(h:ja o g t k [] ak S av=.ok (fv,qr) SF):mq o S/\ak=fv/\av=qr/\S=SF:=by
 simp only[ja] at h
 split at h
 .rename_i z
  cases h;exact⟨yC.mp z,rfl,rfl,rfl⟩
 .cases h
inductive ye (B:Acc)(Y:Cx)(pins:aa)(P1:Hp)(α1:ag)(fp:ag)(acc:Af)(tn:Ah->Bn->Prop)(G:Aa D->DK)(items:Aa D)(x:qE × Aa D)(SF:aq)(n:Ah)(s:Ag):Prop
 |mk (i:Ah) (σ : _L.St) (H P:Hp) (α : Aa Af) (o:Ch) (env:qE) (S:aq) (ds:Aa D) (hn:n=items.length-i) (hi:i<=items.length) (st:fj B Y pins P1 α1 fp acc env S ds s σ H P α o) (st1:tn i s.heap) (run:G (items.drop i) env S ds=.ok x SF):ye B Y pins P1 α1 fp acc tn G items x SF n s
theorem M1 {m:As}{M:Kq}{A:Bk}{Q:Fin->Ag->Prop}{E:ae}{s:Ag}{it av:Ac}{U:Iu}(O:bi[k]? = Ab ⟨tg,bg,cy,0⟩)(has:∀ g',bi[k+1]? = Ab g'->g'.is_async=0)
  (w:∀ s,Qa s->Q (.again (.compLoop (xW m ce bi am ar) k it av U)) s) (z:∀ s,Qd s->Q (.done .next) s)
  (h:Ap M A (Py it) (λr G=>(r=none->Qd G)/\∀ v,r=Ab v->Ap M A (Kr tg it v) (λ_ T=>Ap M A (assign tg U v) (λ_ L=>Ap M A (uP cy U) (λb s4=>(b=false->Qa s4)/\(b=true->Ap M A (xK m ce bi am ar k av U) (λ_ I=>Qa I) E s4)) E L) E T) E G) E s) :
  Ap M A (Aa7 (xW m ce bi am ar) k it av U) Q E s:=by
 rw[UY m ce tg bg cy bi am ar it av U k O has];refine Ad (Oh (Ad (bo h λr G ⟨y,o⟩=>?_)));cases r with
 |none=>exact Al (z _ (y rfl))
 |some v =>
  refine Ad (bo (o v rfl) λ_ T u=>Ad (bo u λ_ L j=>Ad (bo j λb s4 H=>?_)));cases b with
  |false=>exact Al (w _ (H.1 rfl))
  |true=>exact Ad (bo (H.2 rfl) λ_ I q=>Al (w _ q))
theorem PB (G:∀ H:Hp,(∀ b∈fp,H b=none)->∀ b∈fp,xM Y aj H b)(U:av ∉ fp)(o:Ch)(O:Hp)(j:∀ b∈fp,O b=none):∀ b∈fp,xM Y (aj++[(av,o)]) O b:=λb T=>by
 obtain⟨I,A,y,w,M,L⟩:=G O j b T;refine⟨I,A,y,w,M,λp E=>?_⟩;rcases Bw.mp E with z|z
 .exact L p (Dq _ z)
 .rcases Bw.mp z with z|z
  .exact L p (Cf _ z)
  .rw[Cu.mp z]
   rintro rfl;exact U T
theorem jD {i:Ah}{h:Bn}(T:lj Y.prog Y.w Y.K tg J fp it tn)(O:tn (i+1) h)(pl:∀ b∈fp,∃ o,h.get? b=Ab o/\∀ v,o.data≠.cell v){E:Ag}{G:_L.St}{I:Hp}(L:Inv Y (aj++yQ fp h) G I E):tn (i+1) E.heap/\(∀ b∈fp,I b=none):=by
 refine⟨T.keep _ _ _ O λb U o' e=>(L.pin (b,o') (Cf _ (Cf _ (vV U e)))).1,λb U=>?_⟩;obtain⟨o',e,H⟩:=pl b U;exact(L.pin (b,o') (Cf _ (Cf _ (vV U e)))).2.1
theorem iP {kk:DK}{E:ae}{s:Ag}{σ:_L.St}{H P:Hp}{o:Ch}{i:Ah}(hc:Y.calm=true)(hx:Y.xe=λ_ _=>Fb)
  (T:lj Y.prog Y.w Y.K tg J fp it tn) (zc:l_ Y.K J P1 α1 o' items) (hg:PG Y tg (nq Y g)) (ht:qh Y cy t) (he:PK B Y (λav=>xK B.m ce bi am ar k av Y.env) kk) (l:∀ H:Hp,H av=none->xM Y aj H av) (y0:∀ H:Hp,(∀ b∈fp,H b=none)->∀ b∈fp,xM Y aj H b) (zx:av ∉ fp)
  (hi:i<=items.length) (st:fj B Y aj P1 α1 fp av ak S ds s σ H P α o) (zs:tn i s.heap) (run:ja o' g t kk (items.drop i) ak S ds=.ok (fv,qr) SF)
  (hA:∀ s' zl H' P' zb o1 U S' z3,i<items.length->fj B Y aj P1 α1 fp av U S' z3 s' zl H' P' zb o1->tn (i+1) s'.heap->ja o' g t kk (items.drop (i+1)) U S' z3=.ok (fv,qr) SF->Qa s')
  (hD:∀ s' zl H' P' zb o',fj B Y aj P1 α1 fp av fv SF qr s' zl H' P' zb o'->Qd s') :
  Ap (Au Y.prog Y.w) Y.A (Py (.ref it)) (λr s1=>(r=none->Qd s1)/\∀ v,r=Ab v->Ap (Au Y.prog Y.w) Y.A (Kr tg (.ref it) v) (λ_ s2=>Ap (Au Y.prog Y.w) Y.A (assign tg Y.env v) (λ_ s3=>Ap (Au Y.prog Y.w) Y.A (uP cy Y.env) (λb s4=>(b=false->Qa s4)/\(b=true->Ap (Au Y.prog Y.w) Y.A (xK B.m ce bi am ar k (.ref av) Y.env) (λ_ s5=>Qa s5) E s4)) E s3) E s2) E s1) E s:=by
 have I1:=_D.Inv.pin1 st.inv (l H st.acn) st.at' (B.cell st.acc);have h:=PB y0 zx o;by_cases I:i<items.length
 .have y1:items.drop i=items[i]::items.drop (i+1):=Fp I
  rw[y1] at run;have run:=V8 run;have z2:mq o' S:=by cases run with|no _ _ _ z=>exact z|yes _ _ _ _ _ _ z=>exact z
  refine fL (T.item Y rfl rfl rfl hc i _ s σ H (λ_ _=>Fb) I1 (h H st.fpn) zs (zc.go i H P α S I st.rel z2 st.same st.pre)) λr s1 ⟨u,hr,h1⟩=>⟨λz=>(by rw[hr] at z;cases z),λv hv=>?_⟩
  obtain rfl:v=u:=Dc (hv.symm.trans hr);refine fL h1 λ_ s2 ⟨x,H2,I2,rx,y,A,y2⟩=>?_;obtain⟨P2,d,hd,r2,e2,rp⟩:=zc.yld i H x H2 P α S I st.rel z2 st.same st.pre y;cases (Ar I).symm.trans hd;have pl:=T.obj _ _ A;have y3:=I2.pinned (h _ y2) pl;have z4:∀ U f b j,g items[i] ak S=.ok U f->t U f=.ok b j->(∀ s4 G q n L (e:Inv Y (aj++yQ fp s2.heap) G q s4),fj B Y aj P1 α1 fp av U j ds s4 G q n L o->tn (i+1) s4.heap->(b=false->Qa s4)/\(b=true->Ap (Au Y.prog Y.w) Y.A (xK B.m ce bi am ar k (.ref av) Y.env) (λ_ s5=>Qa s5) E s4))->Ap (Au Y.prog Y.w) Y.A (assign tg Y.env v) (λ_ s3=>Ap (Au Y.prog Y.w) Y.A (uP cy Y.env) (λb s4=>(b=false->Qa s4)/\(b=true->Ap (Au Y.prog Y.w) Y.A (xK B.m ce bi am ar k (.ref av) Y.env) (λ_ s5=>Qa s5) E s4)) E s3) E s2:=by
   intro U f b j q1 q2 next;refine fL (hx▸IZ hg y3 r2 (st.env.mono e2 (Bu _)) rx rp q1) λ_ s3 ⟨G,H3,P3,y4,I3,r3,yt,e3,z5⟩=>?_;refine fL (hx▸CD ht I3 r3 yt q2) λb' s4 ⟨hb,q,n,L,e,r4,z7,e4,zy⟩=>?_;have w:Inv Y (aj++yQ fp s2.heap) G q s4:=e.pins_of λp hp=>e.pin p (Cf _ ((Bw.mp hp).elim (λz=>Dq _ (Dq _ z)) λz=>Cf _ z));have a4:=e.pin (av,o) (Cf _ (Dq _ (Cf _ (Cu.mpr rfl))));rw[hb];exact next s4 G q n L w ⟨w.unpinned,r4,z7,((st.same.trans e2).trans e3).trans e4,(st.pre.trans z5).trans zy,(jD T A pl w).2,a4.2.1,a4.1,B.mono ((e2.trans e3).trans e4) (z5.trans zy) st.acc⟩ (jD T A pl w).1
  cases run with
  |no U f j _ q1 q2 run=>exact z4 U f false j q1 q2 λs4 G q n L e O z1=>⟨λ_=>hA s4 G q n L o U j ds I O z1 run,λz=>(by cases z)⟩
  |yes U f j c z6 S5 _ q1 q2 q3 run =>
   refine z4 U f true j q1 q2 λs4 G q n L e O z1=>⟨λz=>(by cases z),λ_=>?_⟩
   refine fL (he (aj++yQ fp s2.heap) P1 α1 av U c j S5 ds z6 s4 (λH hn=>ZL (l H hn) zx) ⟨G,q,n,L,o,e,O.rel,O.env,O.same,O.pre,λb hb=>(by cases hb),O.acn,O.at',O.acc⟩ q3) λ_ s5 ⟨z8,H5,P5,yr,o5,M⟩=>?_
   exact hA s5 z8 H5 P5 yr o5 c S5 z6 I ⟨M.inv.unpinned,M.rel,M.env,M.same,M.pre,(jD T A pl M.inv).2,M.acn,M.at',M.acc⟩ (jD T A pl M.inv).1 run
 .rw[Ob li] at run
  obtain⟨z,rfl,rfl,rfl⟩:=PC run;refine fL (T.done Y rfl rfl rfl hc i _ s σ H (λ_ _=>Fb) I1 (h H st.fpn) zs (zc.stop i H P α _ li st.rel z st.same st.pre)) λr s1 ⟨hr,I2⟩=>⟨λ_=>?_,λv hv=>(by rw[hr] at hv;cases hv)⟩
  have a:=_D.Inv.pinned1 I2;exact hD s1 σ H P α o ⟨I2.unpinned,st.rel,st.env,st.same,st.pre,st.fpn,a.2,a.1,st.acc⟩
theorem VM (P:Be)(w:Br)(m:As)(ce:Bp)(bi:Aa Dy)(am:Eu)(ar:En)(k:Ah)(it av:Ac)(ak:Iu):(Au P w).den (.compLoop (xW m ce bi am ar) k it av ak)=(Aa7 (xW m ce bi am ar) k it av ak).onRaise (λx=>do Sd x ak;theTreesLotGoes x):=by cases m <;> rfl
theorem VN (A:Bk)(m:As)(ce:Bp)(bi:Aa Dy)(am:Eu)(ar:En)(k:Ah)(it av:Ac)(ak:Iu):A.under (.compLoop (xW m ce bi am ar) k it av ak)=A:=by cases m <;> rfl
theorem iO {kk:DK}{s:Ag}{σ:_L.St}{H P:Hp}{U:Aa D}{o:Ch}(hc:Y.calm=true)(hx:Y.xe=λ_ _=>Fb)(j:bi[k]? = Ab ⟨tg,bg,cy,0⟩)(has:∀ g',bi[k+1]? = Ab g'->g'.is_async=0)
  (T:lj Y.prog Y.w Y.K tg J fp it tn) (c:l_ Y.K J P1 α1 o' items) (e:PG Y tg (nq Y g)) (x:qh Y cy t) (he:PK B Y (λav=>xK B.m ce bi am ar k av Y.env) kk) (L:∀ H:Hp,H av=none->xM Y aj H av) (M:∀ H:Hp,(∀ b∈fp,H b=none)->∀ b∈fp,xM Y aj H b) (l:av ∉ fp)
  (st:fj B Y aj P1 α1 fp av ak S U s σ H P α o) (d:tn 0 s.heap) (run:ja o' g t kk items ak S U=.ok (fv,qr) SF)
  (f:∀ s' G u w O o',fj B Y aj P1 α1 fp av fv SF qr s' G u w O o'->R (.ok .next) s') :
  Ja (Au Y.prog Y.w) Y.A (.compLoop (xW B.m ce bi am ar) k (.ref it) (.ref av) Y.env) R s:=by
 refine codeAny_loop rfl (ye B Y aj P1 α1 fp av tn (ja o' g t kk) items (fv,qr) SF) (λn s hI=>?_) items.length ⟨0,σ,H,P,α,o,ak,S,U,rfl,Hc _,st,d,run⟩;obtain⟨i,σ,H,P,α,o,ak,S,ds,r,v,st,p,run⟩:=hI;subst r;rw[VM,VN];refine wpAny_noted (M1 (m:=B.m) j has (Qa:=λs'=>∃ m,m<items.length-i/\ye B Y aj P1 α1 fp av tn (ja o' g t kk) items (fv,qr) SF m s') (Qd:=R (.ok .next)) (λ_ h=>⟨rfl,h⟩) (λ_ h=>h) ?_);exact iP hc hx T c e x he L M l v st p run (λs' G u w O o1 E a y A z q I=>⟨_,Nat.sub_succ_lt_self _ _ A,i+1,G,u,w,O,o1,E,a,y,rfl,A,z,q,I⟩) f
set_option tactic.hygienic true in
theorem F1 (a:Y.xe=λ_ _=>Fb)(L:bi[k+1]? = none)(n:PE Y ce (tD Y fe)):PK jv Y (λav=>xK false ce bi am ar k av Y.env) (zC fe):=by
 intro aj P1 α1 av ak bj S S' ds zc s O ⟨σ,H,P,α,o,st⟩ run;show Ap _ _ (xK false ce bi am ar k (.ref av) Y.env) _ _ s;unfold xK;rw[L];dsimp only[xz];unfold zC at run;cases w:fe ak S with
 |bad=>rw[w] at run;cases run
 |ex c z S'=>rw[w] at run;cases run
 |ok d5 S5 =>
  rw[w,ba.bind_ok] at run
  split at run
  .rename_i v
   cases run;have fA:=O H st.acn;have x:=_D.Inv.pin1 st.inv fA st.at' (jv.cell st.acc);refine Ad (fL (a▸IY n x st.rel st.env w) λA M ⟨v5,d,P5,j,U⟩=>?_);have J:=_D.Inv.pinned1 U.inv;have h:=U.inv.unpinned;obtain⟨u,y⟩:=J;obtain⟨f,n5,vs,i,I,T,hz⟩:=st.acc;subst i;have l:vs.length=ds.length:=T.length.symm;have zb:=I.length;refine Ad (Lf Yb ⟨_,u,rfl⟩ Xb (Wl _ _) (Za av f.toArray n5 A (by rw[Bg];rw[<- zB];lia)) ⟨u,?_⟩)
   have q:=ZB u (·.push A)
   have G:=O d y;have E:∀ b o,b≠av->M.heap.get? b=Ab o->(M.heap.update av (Fj (·.push A))).get? b=Ab o:=λb o p e=>(Df M.heap _ (Fm p)).trans e
   have r:=h.turned (t':=M.toks) E y G.2.1 G.2.2.2.1 G.2.2.2.2.1 G.2.2.2.2.2;refine Al ⟨σ,d,P5,j,_,r,U.rel,U.env,st.same.trans U.same,st.pre.trans U.pre,λb p=>(by simp at p),y,q,?_⟩
   refine⟨f++[A],_,vs++[v5],by simp <;> rfl,I.append (.cons U.val .nil),?_,by simp;lia⟩
   exact(qD.mono U.same U.pre _ _ T).append (.cons U.rep .nil)
  .cases run
end
theorem sL {prog:Be}{w:Br}{A:Bk}{s:Ag}{G:Bp}{Y:Aa Dy}{am:Eu}{J:En}{k:Ah}{it av:Ac}{ak:Iu}{g:Dy}{m:As}(T:Y[k]? = Ab g)(H:g.is_async=0)
  (h0:Ja (Au prog w) A (.compLoop (xW m G Y am J) k it av ak) R s)
  (h:Ap (Au prog w) A (Ri it) (λU s'=>Ja (Au prog w) A (.compLoop (xW m G Y am J) k U av ak) R s') (notedBy (Au prog w) A ak λx s'=>R (.error x) s') s) :
  Ja (Au prog w) A (.compStart (xW m G Y am J) k it av ak) R s:=by
 refine Uv ?_;have L:(Au prog w).den (.compStart (xW m G Y am J) k it av ak)=(compStart (xW m G Y am J) k it av ak).onRaise (λx=>do Sd x ak;Sc theWindowsPlace):=by cases m <;> rfl
 have I:A.under (.compStart (xW m G Y am J) k it av ak)=A:=by cases m <;> rfl
 have B:(AaS (xW m G Y am J) k it av ak).quiet=true/\∀ U,(AaS (xW m G Y am J) k U av ak).quiet=true:=by cases m <;> exact⟨rfl,λ_=>rfl⟩
 rw[L,I];refine wpAny_notedAt ?_;have O:clausesOf (xW m G Y am J)=Y:=by cases m <;> rfl
 have E:(g.is_async != 0)=false:=by rw[H];rfl
 unfold compStart;simp only[O,T,Option.elim,E,Bo,Ds];refine Ad (Jz (wpAny_ite ?_))
 split
 .exact Al (And.intro B.1 h0)
 .refine Ad (Gw ?_)
  exact Ad (Oh (Ad (Hw h (λU s' h'=>Al (And.intro (B.2 _) h')) λ_ _ x=>x)))
noncomputable def tu (m:As)(r:ba (qE × Aa D)):ba D:=match r with
 |.ok p Y=>if m then .ok (.loc Y.length) (Y++[.lst p.2]) else .ok (.lst p.2) Y
 |_=>.bad
def qZ (m:As)(bz:Aa (Ak Ah))(fi:oz)(g:DG)(t:DT)(k:DK):DE:=λak S=>(fi ak S).bind λp Y=>tu m (ja p.1 g t k p.2 (xQ bz ak) Y [])
section
variable {X:Cx}{ce tg bg:Bp}{cy:Aa Bp}{am:Eu}{ar:En}{N':Aa An}{bz:Aa (Ak Ah)}{fi:oz}{g:DG}{t:DT}{kk:DK}{qI:Aa Dy}{mm:As}
theorem X7 {P:Hp}{r:ba (qE × Aa D)}{Ok:D->aq->Prop}(h:qG X P α (tu mm r) Ok):∃ fv ds SF,r=.ok (fv,ds) SF/\(if mm then Ok (.loc SF.length) (SF++[.lst ds]) else Ok (.lst ds) SF):=by
 cases r with
 |ok p S =>
  obtain⟨fv,ds⟩:=p;refine⟨fv,ds,S,rfl,?_⟩;cases mm <;> exact h
 |ex c x S=>exact Ao h
 |bad=>exact Ao h
theorem YY {aj:aa}{σ:_L.St}{P1:Hp}{Y:ag}{av:Af}{s:Ag}{Q:VK}(c:jK X aj σ P1 Y ds SF av C s)(ok:if mm then gw X P1 Y Q (.loc SF.length) (SF++[.lst ds]) else gw X P1 Y Q (.lst ds) SF):EP X aj σ Q (.ref av) s:=by
 cases mm with
 |false=>exact GX c ok
 |true =>
  obtain⟨z,j,H,vs,I,r,L,B,A,E,_⟩:=c;exact⟨.ref av,_,I,rfl,pV r L E λv G U J O T M w=>ok v G U J O (B.trans T) (A.trans M) w⟩
theorem ZC {M:Kq}{A:Bk}{E:ae}{s:Ag}{Y:Af}{J:Aa (An × Af)}{O:An}{ak:Iu}{Q:Iu->Ag->Prop}
  (L:Q (newEnv am s.heap.objs.size Y (Ho (s.heap.objs.size+1) am.names J) O none .none (Ab ak) Qe) { s with heap:=Zh (s.heap.push { cls:=.type "dict",data:=.dict #[] }) am.names }) :
  Ap M A (We am Y J [] O none .none (Ab ak)) Q E s:=by
 simp only[We,Yc,Du];refine Ad (wpAny_alloc ?_);refine Ad (wpAny_layCells _ (λB U T=>by cases G:U == Oq <;> simp[G]) _ _ _ _ ?_)
 rw[show ({ s with heap:=s.heap.push { cls:=.type "dict",data:=.dict #[] } } : Ag).heap.objs.size=s.heap.objs.size+1 from Ew ..]
 refine Ad ?_;rw[Nr];exact Al (Al L)
theorem bD {B:Acc}{o0:Ch}{aj:aa}{σ:_L.St}{l P1:Hp}{α1:ag}{U:Ag}{S1:aq}{items:Aa D}{it:Af}{fp:ag}{tn:Ah->Bn->Prop}{J:It}{E:ae}{RR:Ac->Af->Xv->Ag->Prop}
  (hc:X.calm=true) (S:dc X.env.scope X.N am N' bz) (has:∀ g',(⟨tg,bg,cy,0⟩::qI:Aa Dy)[0+1]? = Ab g'->g'.is_async=0)
  (hg:∀ y C a G O,PG (qY X N' am y C a G O) tg (nq (qY X N' am y C a G O) g))
  (ht:∀ y C a G O,qh (qY X N' am y C a G O) cy t) (he:∀ y C a G O,PK B (qY X N' am y C a G O) (λav=>xK B.m ce (⟨tg,bg,cy,0⟩::qI) am ar 0 av (qY X N' am y C a G O).env) kk)
  (s:Inv X aj σ l U) (r:bh X.K l P1 α1 S1) (re:z9 X.K P1 α1 σ ak) (T:lj X.prog X.w X.K tg J fp it tn) (n:tn 0 U.heap) (hf:∀ b∈fp,xM X aj l b) (z4:l_ X.K J P1 α1 o' items) (run:ja o' g t kk items (xQ bz ak) S1 [] = .ok (fv,ds) SF)
  (h0:B.O X.K P1 α1 [] o0) (z2:o0.isFreed=false) (z5:∀ av C s',U.heap.objs.size<=av->(∃ m,s'.heap.Ns C m)->U.heap.objs.size<=C->av≠C->(∃ y zx H' P' zl o',fj B (qY X N' am y C fp U l) [] P1 α1 fp av fv SF ds s' zx H' P' zl o')->RR (.ref av) C (.ok .next) s') :
  Ap (Au X.prog X.w) X.A (We am X.env.globals (yH X.env.cells am.names []) [] X.env.qual none .none (Ab X.env)) (λd zs =>
   Ja (Au X.prog X.w) X.A (.compStart (xW B.m ce (⟨tg,bg,cy,0⟩::qI) am ar) 0 (.ref it) (.ref U.heap.objs.size) { d with scope:=relabel am X.env }) (RR (.ref U.heap.objs.size) d.locals) zs) E { U with heap:=U.heap.push o0 }:=by
 have u:∀ b∈fp,b<U.heap.objs.size:=λb w=>by
  obtain⟨o,e,_⟩:=T.obj 0 _ n b w;exact Bh e
 refine ZC ?_;dsimp only;generalize i:U.heap.push o0=L;have z1:L.objs.size=U.heap.objs.size+1:=by rw[<- i,Ew]
 have hC:U.heap.objs.size<=L.objs.size:=by rw[z1];exact Vp _
 have zc:U.heap.objs.size≠L.objs.size:=by rw[z1];exact Cp (Ka _)
 have kp:∀ b o,L.get? b=Ab o->(Zh (L.push { cls:=.type "dict",data:=.dict #[] }) am.names).get? b=Ab o:=λb o e=>pushCells_keeps _ _ b o (Aj _ e);have A:(Zh (L.push { cls:=.type "dict",data:=.dict #[] }) am.names).Ns L.objs.size (λ_=>none):=(Heap.Ns.new L (.type "dict")).keeps (pushCells_keeps _ _);have co:=cellsFrom_ok am.names (L.push { cls:=.type "dict",data:=.dict #[] }) (L.objs.size+1) [] ⟨λ_ _ j=>(nomatch j),Nu⟩ (by rw[Ew];exact Av _)
 rw[Ew] at co;generalize z3:Zh (L.push { cls:=.type "dict",data:=.dict #[] }) am.names=I at kp A co ⊢;have M:∀ b o,U.heap.get? b=Ab o->I.get? b=Ab o:=λb o e=>kp b o (i▸Aj _ e);have zb:I.get? U.heap.objs.size=Ab o0:=kp _ _ (i▸Bj _ z2);have I4:∀ f,Inv (qY X N' am (kJ X am L.objs.size) L.objs.size fp U l) [] (yU bz σ) l { U with heap:=I,toks:=f }:=λf =>
  YF (s4:={ U with heap:=I,toks:=f }) S s hf u hC A rfl rfl M co
 have q:∀ f,Ja (Au X.prog X.w) X.A (.compLoop (xW B.m ce (⟨tg,bg,cy,0⟩::qI) am ar) 0 (.ref it) (.ref U.heap.objs.size) (compEnvC am (kJ X am L.objs.size) L.objs.size X.env)) (RR (.ref U.heap.objs.size) L.objs.size) { U with heap:=I,toks:=f }:=λf=>by
  refine iO (B:=B) (kk:=kk) (o':=o') (Y:=qY X N' am (kJ X am L.objs.size) L.objs.size fp U l) (aj:=[]) (fp:=fp) (av:=U.heap.objs.size) (P1:=P1) (α1:=α1) (σ:=yU bz σ) (H:=l) (P:=P1) (α:=α1) (o:=o0) hc rfl rfl has T z4
   (hg _ _ _ _ _) (ht _ _ _ _ _) (he _ _ _ _ _) (λH hn=>?_) (λH hn b w=>?_) (λj=>Fz _ (u _ j)) ⟨I4 f,r,WB re bz,qF.refl _,Bu _,λb w=>(hf b w).1,s.hok.fresh (Av _),zb,h0⟩ (T.keep _ _ _ n λb w o e=>M b o e) run λs' zx H' P' zl o' st=>?_
  .refine⟨hn,zc,λj=>?_,.inr (Av _),λx c h z=>?_,λp hp=>absurd (show p∈([]:aa) from hp) (by simp)⟩
   .obtain⟨_,o,ho,_⟩:=s.stack.mem j
    exact Fz _ (Bh ho)
   .rcases xH S s.ok h with⟨m,_⟩|⟨m,_⟩
    .exact Fz _ (Nb hC (z▸(co.empty x c m).2))
    .obtain⟨v,ob,zy,_⟩:=s.cell x c m
     rw[z] at zy;exact Fz _ (Bh zy)
  .obtain⟨_,h1,h2,h3,h4,h5⟩:=hf b w
   refine⟨hn b w,Cp (Az (u b w) hC),λj=>?_,.inl w,λx c h=>(by
    rcases xH S s.ok h with⟨m,_⟩|⟨m,_⟩
    .exact Fm (Cp (Ig (Az (u b w) hC) (co.empty x c m).2))
    .exact h4 x c m),λp hp=>absurd (show p∈([]:aa) from hp) (by simp)⟩
   rcases AT.mp (s.stkSub b j) with z|z
   .exact h1 z
   .exact h2 z
  .obtain⟨m,j,_⟩:=st.inv.loc
   exact z5 _ _ s' (Av _) ⟨m,j⟩ hC zc ⟨_,_,_,_,_,_,st⟩
 exact sL (k:=0) rfl rfl (q _) (T.self X.A 0 _ _ _ (T.keep _ _ _ n λb w o e=>M b o e) (q _))
theorem YL (hc:X.calm=true)(S:dc X.env.scope X.N am N' bz)(hi:PI X tg bg (nk X fi))
  (hg:∀ L C ex Y U,PG (qY X N' am L C ex Y U) tg (nq (qY X N' am L C ex Y U) g))
  (ht:∀ L C ex Y U,qh (qY X N' am L C ex Y U) cy t) (has:∀ g',(⟨tg,bg,cy,0⟩::qI:Aa Dy)[0+1]? = Ab g'->g'.is_async=0) (he:∀ L C ex Y U,PK jv (qY X N' am L C ex Y U) (λav=>xK false ce (⟨tg,bg,cy,0⟩::qI) am ar 0 av (qY X N' am L C ex Y U).env) kk)
  (hs:∀ x,Fw bg X.env x=pure x:=by intro _;rfl):PE X (.ListComp ce (⟨tg,bg,cy,0⟩::qI) am ar) (tD X (qZ mm bz fi g t kk)):=by
 intro b s σ H Q I h;obtain⟨P,α,ak,y,r,re,af⟩:=h;rw[eval_ListComp];have O:qG X P α ((fi ak y).bind λp E=>tu mm (ja p.1 g t kk p.2 (xQ bz ak) E [])) (gw X P α Q):=af;refine Sz (use:=none) rfl hs (cB S I.ok) S.kind S.names ?_;refine bo (hi b s σ H (λJ H1=>∃ (M:Hp) (G:ag) (p:Ak (Ah × MO) × Aa _D.D) (E:aq),bh X.K H1 M G E/\qF P M/\α<+:G/\l_ X.K J M G p.1 p.2/\qG X P α (tu mm (ja p.1 g t kk p.2 (xQ bz ak) E [])) (gw X P α Q)) I ⟨P,α,ak,y,r,re,?_⟩) λxv s1 h1=>bo h1 λzl s2 h2=>?_
 .cases q:fi ak y with
  |bad=>rw[q] at O;exact O
  |ex c x S'=>rw[q] at O;exact O
  |ok p E=>rw[q] at O;exact λJ H1 M G r1 w z it=>⟨M,G,p,E,r1,w,z,it,O⟩
 obtain⟨it,fp,tn,J,H2,rfl,I2,T,d,hf,M,G,p,E,r1,w,z,l,zb⟩:=h2;obtain⟨fv,ds,SF,run,ok⟩:=X7 zb;refine Dm (bD (B:=jv) (o0:={ cls:=.type "list",dict:=none,data:=.seq ([] : Aa Ac).toArray }) (RR:=λav C=>compPost (Au X.prog X.w) X.A X.xe none (EP X b σ Q) av C) hc S has hg ht he I2 r1 (re.mono w z) T d hf l run ⟨[],0,[],rfl,.nil,.nil,Hc _⟩ rfl ?_);intro av C s' hA ⟨m,hm⟩ hC u ⟨L,zc,Hf,Pf,zs,of,o⟩;have n:∀ h',Gz C s'.heap h'->jK X b σ M G ds SF av C { s' with heap:=h' }:=λh' k=>sM I2 hf rfl hC hA u o k
 refine⟨m,hm,λh' k=>YY (mm:=mm) (n h' k) ?_⟩;cases mm with
 |false=>exact λv a P3 A f j i e=>ok v a P3 A f (w.trans j) (z.trans i) e
 |true=>exact λv a P3 A f j i e=>ok v a P3 A f (w.trans j) (z.trans i) e
theorem YU {i:Ah}{y:An}{py M:En}(hc:X.calm=true)(hN:X.N.Nodup)(S:dc X.env.scope X.N am N' bz)(hi:PI X tg bg (nk X fi))
  (hg:∀ w C ex Y U,PG (qY X N' am w C ex Y U) tg (nq (qY X N' am w C ex Y U) g))
  (ht:∀ w C ex Y U,qh (qY X N' am w C ex Y U) cy t) (has:∀ g',(⟨tg,bg,cy,0⟩::qI:Aa Dy)[0+1]? = Ab g'->g'.is_async=0) (he:∀ w C ex Y U,PK jv (qY X N' am w C ex Y U) (λav=>xK false ce (⟨tg,bg,cy,0⟩::qI) am ar 0 av (qY X N' am w C ex Y U).env) kk)
  (hy:X.N[i]? = Ab y:=by rfl) (z3:Loc X.env.scope y:=by first|exact AaL rfl|exact f8 rfl) (hf:X.fn y=true\/X.env.scope.names.lookup y=Ab .local:=by first|exact .inl rfl|exact .inr rfl|assumption)
  (hsw:Nv (.ListComp ce (⟨tg,bg,cy,0⟩::qI) am ar) (Ab (.Name y py)) M.line X.env=pure true:=by rfl)
  (hs:∀ x,Fw bg X.env x=pure x:=by intro _;rfl):PS X (.Assign [.Name y py] (.ListComp ce (⟨tg,bg,cy,0⟩::qI) am ar) M) (im X (zA (qZ mm bz fi g t kk) (br i))):=by
 intro aj s σ H D I h;obtain⟨P,α,ak,S0,r,re,af⟩:=h;have z4:=wM af;have O:qG X P α ((fi ak S0).bind λp u=>tu mm (ja p.1 g t kk p.2 (xQ bz ak) u [])) (λd S=>zD X P α (.nx (ak.set i (Ab d)) S) D):=z4;rw[exec_Assign_Name_used _ _ _ _ hsw];refine Ad (Oh (Ad ?_));show Ap _ X.A (do let _ <- comprehension (.ListComp ce (⟨tg,bg,cy,0⟩::qI) am ar) am X.env _ (newList []) false (eval bg X.env) (Ab (assign (.Name y py) X.env))) _ _ s
 refine Ad (Hw (Sz (use:=Ab (assign (.Name y py) X.env)) (Q:=λ_ E=>SP X aj D .next E) rfl hs (cB S I.ok) S.kind S.names ?_) (λ_ E hq=>Al (Al hq)) λ_ _ e=>e);refine bo (hi aj s σ H (λJ H1=>∃ (v:Hp) (G:ag) (p:Ak (Ah × MO) × Aa _D.D) (u:aq),bh X.K H1 v G u/\qF P v/\α<+:G/\l_ X.K J v G p.1 p.2/\qG X P α (tu mm (ja p.1 g t kk p.2 (xQ bz ak) u [])) (λd S=>zD X P α (.nx (ak.set i (Ab d)) S) D)) I ⟨P,α,ak,S0,r,re,?_⟩) λxv s1 h1=>bo h1 λz8 s2 h2=>?_
 .cases q:fi ak S0 with
  |bad=>rw[q] at O;exact O
  |ex c x S'=>rw[q] at O;exact O
  |ok p u=>rw[q] at O;exact λJ H1 v G r1 k l it=>⟨v,G,p,u,r1,k,l,it,O⟩
 obtain⟨it,fp,tn,J,H2,rfl,I2,T,zy,zc,v,G,p,u,r1,k,l,zx,z6⟩:=h2;obtain⟨fv,ds,SF,run,ok⟩:=X7 z6;refine Dm (bD (B:=jv) (o0:={ cls:=.type "list",dict:=none,data:=.seq ([] : Aa Ac).toArray }) (RR:=λav C=>compPost (Au X.prog X.w) X.A X.xe (Ab (assign (.Name y py) X.env)) (λ_ E=>SP X aj D .next E) av C) hc S has hg ht he I2 r1 (re.mono k l) T zy zc zx run ⟨[],0,[],rfl,.nil,.nil,Hc _⟩ rfl ?_);intro av C E hA ⟨m,hm⟩ hC n ⟨w,z7,Hf,Pf,yr,of,zs⟩;have z1:∀ h',Gz C E.heap h'->jK X aj σ v G ds SF av C { E with heap:=h' }:=λh' sb=>sM I2 zc rfl hC hA n zs sb
 show Ap _ X.A (assign (.Name y py) X.env (.ref av)) _ _ E;obtain⟨H3,P3,A,vs,I3,r3,zb,q1,q2,rp,zl⟩:=z1 E.heap (Sg _ _);obtain⟨r4,e4⟩:=r3.pure (o:=.lst vs) zb;have j:(cc H3 av (.lst vs)) C=none:=by rw[qN (Fm n)];exact zl
 have f:=I2.fpOk hC j;refine Yt (lU I3 hN hy z3 (show qK (V.ref av) (Dk av) from rfl) (λs5 I5 ⟨a,sb,ha⟩=>?_) hf)
 have z5:C≠a:=by
  rcases ha with rfl|ha
  .exact f.2.1
  .exact λz=>f.2.2.2.2.1 _ _ ha z.symm
 refine⟨m,hm.sameBut sb z5,λh' z2=>?_⟩;have I6:Inv X aj (σ.set i (Ab (V.ref av))) (cc H3 av (.lst vs)) { s5 with heap:=h' }:=I5.turned (t':=s5.toks) (λb o hb e=>(z2.2 b hb).trans e) j f.2.1 f.2.2.2.1 f.2.2.2.2.1 f.2.2.2.2.2
 cases mm with
 |false =>
  refine⟨_,_,I6,ok _ _ (cc P3 av (.lst vs)) A r4 ?_ ((k.trans q1).trans e4) (l.trans q2)⟩;exact((re.mono k l).mono (q1.trans e4) q2).set i (nJ (.inl (.inl zK)) (qD.mono e4 (Bu _) _ _ rp))
 |true =>
  have L:A<+:A++[av]:=Na _ _;have r5:=r3.new (o:=.lst vs) (m:=.lst ds) zb ⟨vs,zK,qD.mono (qF.refl _) L _ _ rp⟩;refine⟨_,_,I6,ok _ _ P3 (A++[av]) r5 ?_ (k.trans q1) ((l.trans q2).trans L)⟩;refine((re.mono k l).mono q1 (q2.trans L)).set i ?_;simp only[au];exact⟨av,rfl,by rw[<- r3.len];simp⟩
end
section
variable {X:Cx}
def OP:D->Aa D->aq->ba D:=λa ds S=>match a,ds with
 |.loc n,[i,x]=>match S[n]? with
  |some (.dct Y)=>match bZ i with
   |some k=>match RM Y k with
    |some d=>.ok d S
    |none=>if Y.length<bb then .ok x (S.set n (.dct (fF Y k x))) else .bad
   |none=>.bad
  |_=>.bad
 |_,_=>.bad
noncomputable def wV:Aa D->Ak (Aa Am)
 |[]=>Ab []
 |.int i::r=>(wV r).map (i::·)
 |_::_=>none
theorem lF (Y:Aa Am):wV (Y.map D.int)=Ab Y:=by
 induction Y with
 |nil=>rfl
 |cons n r J=>exact congrArg (Option.map (n::·)) J
theorem g9:∀ {ds:Aa D} {Y:Aa Am},wV ds=Ab Y->ds=Y.map D.int
 |[],Y,h=>by cases h;rfl
 |d::r,Y,h=>by
  cases d with
  |int i =>
   obtain⟨m,J,rfl⟩:=Gf.mp (show (wV r).map (i::·)=Ab Y from h)
   rw[g9 J];rfl
  |_=>exact nn h
theorem uZ {K:Ai}{P:Hp}:∀ {Y:Aa Am} {vs:Aa V},qD K P α (Y.map D.int) vs->vs=Y.map V.int
 |[],vs,r=>by rw[r.nil_inv];rfl
 |n::Y,vs,r=>by
  obtain⟨w,J,rfl,p,t⟩:=r.cons_inv;simp only[au] at p;rw[p,uZ t];rfl
def tS:G2:=λa b S=>match a,b with
 |.tup xs,.tup ys=>match wV xs,wV ys with
  |some Y,Ab J=>.ok (.bl (_H.lexLt Y J)) S
  |_,_=>.bad
 |_,_=>vm a b S
end
section
variable {X:Cx}
theorem eJ {aj:aa}{σ:_L.St}{H P:Hp}{s:Ag}{xs:Aa D}{v:V}{U:Ac}{J:Aa Am}(I:Inv X aj σ H s)(r:bh X.K H P α S)(G:qK v U)(p:au X.K P α (.tup xs) v)(h:wV xs=Ab J) :
  ∃ a ao,U=.ref a/\Qm s.heap a (List.toArray ao)/\Kt ao J:=by
 have:=g9 h;subst this;obtain⟨a,vs,ao,rfl,T,O,Y,B,L,_⟩:=uQ I r p;have:=uZ O;subst this;exact⟨a,ao,G,B,by simpa using mB Y⟩
set_option tactic.hygienic true in
theorem LY (A:X.A.units<Fo):gh X (Dh .Lt) tS:=by
 intro E σ H s P α S v u w L a b Q I r G J B O Y;unfold tS at Y
 split at Y
 .rename_i xs ys
  split at Y
  .rename_i q k y M
   obtain⟨a,o,rfl,z,T⟩:=eJ I r G B y;obtain⟨b,U,rfl,j,i2⟩:=eJ I r J O M;exact _H.mv z j (by simpa using T) (by simpa using i2) A ⟨.bl _,H,I,rfl,xr Y r (by simp only[au])⟩
  .exact Ao Y
 .exact K5 E σ H s P α S v u w L a b Q I r G J B O Y
end
section
variable {X:Cx}
def kX:G2:=λa b S=>match a,b with
 |.lst xs,.int k=>if 0<=k/\k<2 ^ 62/\xs.length*k.toNat<=bb then .ok (.lst (Di k.toNat xs).flatten) S else .bad
 |_,_=>wU a b S
theorem eB {K:Ai}{P:Hp}(r:qD K P α ds vs):∀ k:Ah,qD K P α (Di k ds).flatten (Di k vs).flatten
 |0=>by simpa using qD.nil
 |k+1=>by
  rw[Hi,Hi,Jp,Jp];exact r.append (eB r k)
inductive yd (a b:D)(S:aq):Prop
 |old (e:kX a b S=wU a b S)
 |of (xs:Aa D) (k:Am) (ea:a=.lst xs) (eb:b=.int k)
theorem IQ (a b:D)(S:aq):yd a b S:=by
 cases a with
 |lst xs=>cases b with
  |int k=>exact .of xs k rfl rfl
  |_=>exact .old rfl
 |_=>exact .old rfl
theorem BO:gh X (Ee .Mult) kX:=by
 intro i σ H s P α S v u q g a b Q I r y z p o E;cases IQ a b S with
 |old e =>
  rw[e] at E;exact a9 i σ H s P α S v u q g a b Q I r y z p o E
 |of xs k c x =>
  subst c x;obtain⟨h,E⟩:=x5 (X:=X) E;obtain⟨h1,h2,j⟩:=h;obtain⟨l,vs,Y,n,rfl,q1,t1,O,e,d,_⟩:=vM I r p;cases (show q=Dk l from y)
  have:=xG o;subst this;obtain⟨t,rfl⟩:=z;have hl:Y.length=vs.length:=O.length.symm;have L:Y.toArray.size*k.toNat<=sizeLine:=by rw[Bg,<- d,<- zB];exact j
  have G:¬ Y.toArray.size*k.toNat>(2 ^ 63-1)/8:=by
   have:(sizeLine:Ah)<=(2 ^ 63-1)/8:=by decide
   fin2
  have B:¬ (!Builtin.List.listFitsIndex k)=true:=by
   rw[fitsIndex_both om om];exact Gc
  have J:¬ Mz (Y.toArray.size*k.toNat)=true:=by
   rw[VX L];exact Gc
  have A:AaB (λw M=>w++M) #[] (Di (if Y.toArray.isEmpty=true then 0 else k.toNat) Y.toArray)=(Di k.toNat Y).flatten.toArray:=by
   have f:∀ m:Ah,AaB (λw M=>w++M) #[] (Di m Y.toArray)=(Di m Y).flatten.toArray:=λm=>by
    have:=lD Y m [];rw[Jn] at this;exact this
   rw[f];cases Y with
   |nil=>simp
   |cons a r'=>rw[Bb (by simp)]
  refine wpAny_binaryOp_repeat_ref (T:="list") (U:="int") (by decide) ⟨_,e,rfl⟩ (λs'=>typeIs_int s' k t) noFill_list_mul F.fills_int_mul F.slot_int_rmul repeat_list F.slot_int_index.lookup
   (Lf F.slot_int_rmul (typeIs_int s k t) F.entry_int_rmul (F.args_int_rmul_2 _ _) (int___rmul___int_list k t l Y.toArray n)
    ⟨e,rfl,⟨_,e,rfl⟩,Lf F.slot_list_mul ⟨_,e,rfl⟩ F.entry_list_mul (F.args_list_mul_2 _ _) (AutoListH.list___mul___list_int_3 l Y.toArray n k t B G J) ⟨e,?_⟩⟩)
  rw[A];exact f7 I r (eB t1 k.toNat) (O.rep k.toNat) (by rw[n6,Nat.mul_comm];exact j) E
def JD (X:Cx)(cm:As)(k:Ah)(f:Af)(p:Ah × DF):Prop:=∃ J Y,Ep X.K (.ref f)=true/\v8 X.K J Y [] /\ ma X.prog X.w X.K X.mg X.base cm k f J Y (pc X.K p.1 p.2)
inductive ol (X:Cx)(cm:As)(k:Ah):Aa Bp->Aa (Ah × DF)->Prop
 |nil:ol X cm k [] []
 |cons {x:An} {p:En} {n:Ah} {F:DF} {es:Aa Bp} {Fs:Aa (Ah × DF)}:md X.prog X.w X.K X.mg X.base cm k x n F->Gl X x->(x == ("__debug__" : An))=false->ol X cm k es Fs->ol X cm k (.Name x p::es) ((n,F)::Fs)
noncomputable def ur:Aa Af->DA
 |[]=>qC
 |f::Y=>qA (dC (.obj f)) (ur Y)
theorem NP (Y:ag)(ak:qE)(S:aq):ur Y ak S=.ok (Y.map D.obj) S:=by
 induction Y with
 |nil=>rfl
 |cons f Y J=>simp[ur,qA,dC,ba.bind,J]
theorem RE {cm:As}{k:Ah}{es:Aa Bp}(h:ol X cm k es Fs):∃ Y,PA X es (jy X (ur Y))/\Y.length=Fs.length/\∀ (i:Ah) (p:Ah × DF),Fs[i]? = Ab p->∃ f,Y[i]? = Ab f/\JD X cm k f p:=by
 induction h with
 |nil=>exact⟨[],Z3,rfl,λi p e=>by simp at e⟩
 |@cons x p n F es Fs G H U _ B =>
  obtain⟨Y,j,M,L⟩:=B;obtain⟨f,A,O,y,E,J,z,u,G⟩:=G;refine⟨f::Y,cF (Z6 H E J U) j,by simp[M],λi q e=>?_⟩
  cases i with
  |zero =>
   simp at e;subst e;exact⟨f,rfl,A,O,J,z,G⟩
  |succ i =>
   obtain⟨I,T,w⟩:=L i q (by simpa using e)
   exact⟨I,by simpa using T,w⟩
def bS (Fs:Aa (Ah × DF))(fi:DE)(U:DA):DE:=λak S=>(fi ak S).bind λd J=>match d with
 |.int k=>match gg Fs k with
  |some p=>(U ak J).bind λds Y=>if ds.length=p.1 then p.2 ds Y else .bad
  |none=>.bad
 |_=>.bad
inductive vq (X:Cx)(cm:As)(k:Ah)(P:Hp)(α : Aa Af)(Q:VK)(fa:DA)(env:qE)(v:V)(H1:Hp):Prop
 |mk (P1:Hp) (α1:ag) (S1:aq) (f:Af) (p:Ah × DF) (r:bh X.K H1 P1 α1 S1) (e1:qF P P1) (e2:α<+:α1) (hv:v=.ref f) (g:JD X cm k f p) (af:qG X P α ((fa env S1).bind λds S2=>if ds.length=p.1 then p.2 ds S2 else .bad) (gw X P α Q)):vq X cm k P α Q fa env v H1
theorem TV {cm:As}{k:Ah}{es:Aa Bp}{u e:Bp}{qI:Aa Bp}{lp sp ar:En}{fi:DE}{fa:DA}(T:ol X cm k es Fs)(hr:az cm k X.A)(hF:ji X)(hl:Fs.length<=bb)(hi:PE X u (tD X fi))(ha:PA X (e::qI) (jy X fa))(hs:u0 u:=by intro _ _;rfl)
  (he:Bl (e::qI) X.env=(false,eval e X.env)::Bl qI X.env:=by rfl) (zc:(Gp ar (Bl qI X.env)).any (·.1)=false:=by rfl):PE X (.Call (.Subscript (.List es lp) u sp) (e::qI) [] ar) (tD X (bS Fs fi fa)):=by
 obtain⟨A,zb,w,U⟩:=RE T;have n:PE X (.Subscript (.List es lp) u sp) (tD X (d2 gu (zL (ur A)) fi)):=JJ L3 (Z7 zb) hi hs;intro aj s σ H Q I h;obtain⟨P,α,ak,S,r,re,Y⟩:=h;refine Call_ (bo (n aj s σ H (vq X cm k P α Q fa ak) I ⟨P,α,ak,S,r,re,?_⟩) λvv s1 ⟨v,H1,I1,rv,P1,E,S1,f,p,r1,L,M,hv,⟨fd,ps,kp,hb,G⟩,zs⟩=>?_)
 .have zl:(A.map D.obj).length<=bb:=by rw[Aq,w];exact hl
  have ev:d2 gu (zL (ur A)) fi ak S=(fi ak S).bind λy o=>gu (.lst (A.map D.obj)) y o:=by
   simp only[d2,zL,NP,ba.bind,zl,Du]
  rw[ev];unfold bS at Y;cases q:fi ak S with
  |bad=>rw[q] at Y;exact Y
  |ex c x S'=>rw[q] at Y;exact Y
  |ok d S1 =>
   rw[q] at Y;simp only[ba.bind] at Y ⊢;cases d with
   |int kk =>
    simp only at Y;cases O:gg Fs kk with
    |none=>rw[O] at Y;exact Ao Y
    |some p =>
     rw[O] at Y;unfold gg at O;cases l:mw Fs.length kk with
     |none=>rw[l] at O;cases O
     |some j =>
      rw[l] at O;obtain⟨f,ef,gf⟩:=U j p O;have ea:gg (A.map D.obj) kk=Ab (.obj f):=by
       unfold gg;rw[Aq,w,l];simp[ef]
      simp only[gu,ea,yA];intro v H' b B g L M z;simp only[au] at z;exact⟨b,B,S1,f,p,g,L,M,z.1,gf,Y⟩
   |_=>exact Ao Y
 .subst hv
  cases (show vv=Dk f from rv)
  refine Qz (h₀:=X.base) I.ok.mod.kin kp (bo (wZ ha I1 r1 (re.mono L M) (qG.base' L M (λd S ok v H' b B g q1 q2 q3=>ok v H' b B g (L.trans q1) (M.trans q2) q3) zs) ar) λus s2 ⟨vs,H2,P2,zy,ds,o,I2,i,r2,zx,z,e3,e4,a⟩=>⟨I2.kIn,?_⟩) he zc;have J:qG X P1 E (if ds.length=p.1 then p.2 ds o else .bad) (gw X P1 E Q):=a
  by_cases t:ds.length=p.1
  .rw[Ax t] at J
   exact aL G hr hb hF I2 r2 i z t (qT.base e3 e4 J)
  .rw[Bb t] at J;exact Ao J
theorem Y7:Gm "set" = Ab (.type "set"):=by decide +kernel
variable {e:Bp}{fa:DE}{p1 p2 nw nu:En}
end
structure ut (X:Cx)(tg it:Bp)(f:oz):Prop where
 get:PI X tg it (nk X f)
structure QK (B:Acc)(Y:Cx)(step:Ac->Jl Pa)(k:DK):Prop where
 get:PK B Y step k
structure my (X:Cx)(cm:As)(k:Ah)(es:Aa Bp)(Fs:Aa (Ah × DF)):Prop where
 get:ol X cm k es Fs
section
variable {B:Acc}{X Y:Cx}{tg it e o ce bg ie:Bp}{es cy qI:Aa Bp}{fa fo fe fi:DE}{fA:DA}{fI:DI}{f2:oz}{g:DG}{t:DT}{kk:DK}{p ar:En}{n k:Ah}{x:An}{cm:As}{F:DF}{f:DS}{bi dy:Aa Dy}{am:Eu}{N':Aa An}{bz:Aa (Ak Ah)}{mm:As}
theorem SR (h:QI X tg it fI):ut X tg it (xE fI):=⟨GO h.1⟩
theorem SQ (h:QE X e fa):ut X tg e (ju fa):=⟨EF h.1⟩
theorem FF (G:Y.xe=λ_ _=>Fb)(J:bi[k+1]? = none)(U:QE Y ce fe):QK jv Y (λav=>xK false ce bi am ar k av Y.env) (zC fe):=⟨F1 G J U.1⟩
theorem U8 (E:X.calm=true)(S:dc X.env.scope X.N am N' bz)(hi:ut X tg bg f2)(I:∀ G C O J U,QG (qY X N' am G C O J U) tg g)(L:∀ G C O J U,ue (qY X N' am G C O J U) cy t)
  (has:∀ g',(⟨tg,bg,cy,0⟩::dy:Aa Dy)[0+1]? = Ab g'->g'.is_async=0)
  (T:∀ G C O J U,QK jv (qY X N' am G C O J U) (λav=>xK false ce (⟨tg,bg,cy,0⟩::dy) am ar 0 av (qY X N' am G C O J U).env) kk) (hs:∀ x,Fw bg X.env x=pure x) :
  QE X (.ListComp ce (⟨tg,bg,cy,0⟩::dy) am ar) (qZ mm bz f2 g t kk):=
 ⟨YL E S hi.1 (λG C O s H=>(I G C O s H).1) (λG C O s H=>(L G C O s H).1) has (λG C O s H=>(T G C O s H).1) hs⟩
theorem UD {y:An}{L:En}(z:X.calm=true)(A:X.N.Nodup)(S:dc X.env.scope X.N am N' bz)(hi:ut X tg bg f2)(j:∀ O C G U J,QG (qY X N' am O C G U J) tg g)(I:∀ O C G U J,ue (qY X N' am O C G U J) cy t)
  (has:∀ g',(⟨tg,bg,cy,0⟩::dy:Aa Dy)[0+1]? = Ab g'->g'.is_async=0)
  (E:∀ O C G U J,QK jv (qY X N' am O C G U J) (λav=>xK false ce (⟨tg,bg,cy,0⟩::dy) am ar 0 av (qY X N' am O C G U J).env) kk) (M:X.N[m]? = Ab y) (T:Loc X.env.scope y) (w:X.fn y=true\/X.env.scope.names.lookup y=Ab .local)
  (hsw:Nv (.ListComp ce (⟨tg,bg,cy,0⟩::dy) am ar) (Ab (.Name y py)) L.line X.env=pure true) (hs:∀ x,Fw bg X.env x=pure x):QS X (.Assign [.Name y py] (.ListComp ce (⟨tg,bg,cy,0⟩::dy) am ar) L) (zA (qZ mm bz f2 g t kk) (br m)):=
 ⟨YU z A S hi.1 (λO C G s H=>(j O C G s H).1) (λO C G s H=>(I O C G s H).1) has (λO C G s H=>(E O C G s H).1) M T w hsw hs⟩
theorem JB:my X cm k [] []:=⟨.nil⟩
theorem Y3 (G:md X.prog X.w X.K X.mg X.base cm k x n F)(U:Gl X x)(J:(x == ("__debug__" : An))=false)(h:my X cm k es Fs):my X cm k (.Name x p::es) ((n,F)::Fs):=⟨.cons G U J h.1⟩
theorem SL {lp sp:En}(T:my X cm k es Fs)(E:az cm k X.A)(U:ji X)(O:Fs.length<=bb)(hi:QE X ie fi)(L:QA X (e::qI) fA)(hs:u0 ie:=by intro _ _;rfl)
  (G:Bl (e::qI) X.env=(false,eval e X.env)::Bl qI X.env:=by rfl) (J:(Gp ar (Bl qI X.env)).any (·.1)=false:=by rfl):QE X (.Call (.Subscript (.List es lp) ie sp) (e::qI) [] ar) (bS Fs fi fA):=⟨TV T.1 E U O hi.1 L.1 hs G J⟩
theorem AD (J:az cm k X.A):je X (Dh .Lt) tS:=⟨LY (by have:=wx J;fin2)⟩
theorem RZ:je X (Ee .Mult) kX:=⟨BO⟩
end
def gN (H:Hp):Aa (Af × HO)->Hp
 |[]=>H
 |p::Y=>gN (cc H p.1 p.2) Y
theorem nU {b:Af}:∀ {L:Aa (Af × HO)} {H:Hp},b ∉ L.map (·.1)->gN H L b=H b
 |[],_,_=>rfl
 |p::Y,H,h=>by
  simp only[Dt,AT,not_or] at h;show gN (cc H p.1 p.2) Y b=H b;rw[nU h.2,qN h.1]
theorem eM {b:Af}{u:HO}:∀ {L:Aa (Af × HO)} {H:Hp},gN H L b=Ab u->(b,u)∈L\/H b=Ab u
 |[],_,h=>.inr h
 |p::J,H,h=>by
  rcases eM (L:=J) (H:=cc H p.1 p.2) h with h|h
  .exact .inl (Bt _ h)
  .by_cases Y:b=p.1
   .subst Y
    rw[zK] at h;cases h;exact .inl (Cq ..)
   .rw[qN Y] at h
    exact .inr h
section
variable {X:Cx}{aj:aa}{σ : _L.St}{H:Hp}{s:Ag}
theorem Inv.laidL {L:Aa (Af × HO)}{t':Ah}(I:Inv X aj σ H s)(k:∀ b u,s.heap.get? b=Ab u->h'.get? b=Ab u)(hp:∀ p∈L,s.heap.objs.size<=p.1)(O:∀ p∈L,zG X.prog X.w (gN H L) h' p.1 p.2) :
  Inv X aj σ (gN H L) { s with heap:=h',toks:=t' }:=by
 have Y:∀ b u,H b=Ab u->gN H L b=Ab u:=λb u e=>by
  rw[nU (L:=L)]
  .exact e
  .intro hb
   obtain⟨p,J,rfl⟩:=Dj.mp hb;rw[I.hok.fresh (hp p J)] at e;cases e
 have G:∀ b,b<s.heap.objs.size->gN H L b=H b:=λb hb=>nU λU=>by
  obtain⟨p,J,rfl⟩:=Dj.mp U;exact absurd (Az hb (hp p J)) (Fz _)
 refine I.un ⟨λb u q _ _ _=>k b u q,λb u q _ _ _=>⟨u.slots,k b u q⟩,λb u q n _=>by rw[G b (Bh q)];exact n,λb u q _=>⟨u,k b u q⟩,λb xs q=>Y b _ q,λb o xs q=>Y b _ q,λb B q=>⟨#[],by rw[Y b _ q];simp⟩⟩ λb u e=>?_
 rcases eM e with U|hb
 .exact O (b,u) U
 .exact(I.hok b u hb).stay (λc v _ q=>k c v q) (λc q=>Y c _ q) λc xs q=>Y c _ q
end
end _D
namespace _S
variable {mask:Ah}{xs:Aw Ah}
def Rs (xs:Aw Ah):Prop:=xs.toList.Pairwise (· < ·)
theorem Rs.lt (h:Rs xs){a b:Ah}{x y:Ah}(Q:a<b)(N:xs[a]? = Ab x)(U:xs[b]? = Ab y):x<y:=by
 obtain⟨O,G⟩:=Cs.mp N;obtain⟨Y,J⟩:=Cs.mp U;have:=Jr.mp h a b (by simpa using O) (by simpa using Y) Q
 rw[<- G,<- J];simpa using this
theorem n_ {i x d:Ah}(h:xs[i]? = Ab x):xs.getD i d=x:=by
 obtain⟨Q,Y⟩:=Cs.mp h;simp[Gk,Q,Y]
structure zp (xs:Aw Ah)(j p:Ah):Prop where
 le:p<=xs.size
 lo:∀ i x,i<p->xs[i]? = Ab x->x<j
 hi:∀ i x,p<=i->xs[i]? = Ab x->j<=x
set_option tactic.hygienic true in
theorem bP (h:Rs xs)(j:Ah):∀ (fuel lo hi:Ah),hi-lo<=fuel->lo<=hi->hi<=xs.size ->
  (∀ i x,i<lo->xs[i]? = Ab x->x<j)->(∀ i x,hi<=i->xs[i]? = Ab x->j<=x)->zp xs j (Zi xs j fuel lo hi)
 |0,lo,hi,L,B,J,U,G=>by
  have:lo=hi:=by lia
  subst this;exact⟨J,U,G⟩
 |fuel+1,lo,hi,L,B,J,U,G=>by
  unfold Zi;by_cases Y:lo<hi
  .rw[Ax Y]
   have C:(lo+hi)/2<xs.size:=by lia
   have e:xs[(lo+hi)/2]? = Ab xs[(lo+hi)/2]:=Dw C;simp only[n_ e]
   split
   .rename_i N
    refine bP h j fuel _ hi (by lia) (by lia) J (λi x O Q=>?_) G
    by_cases q:i=(lo+hi)/2
    .subst q;rw[e] at Q;cases Q;exact N
    .exact Ig (h.lt (by lia) Q e) N
   .rename_i N
    refine bP h j fuel lo _ (by lia) (by lia) (by lia) U (λi x O Q=>?_)
    by_cases q:i=(lo+hi)/2
    .subst q;rw[e] at Q;cases Q;lia
    .have:=h.lt (show (lo+hi)/2<i by lia) e Q
     lia
  .rw[Bb Y]
   have:lo=hi:=by lia
   subst this;exact⟨J,U,G⟩
theorem uA (h:Rs xs)(j:Ah):zp xs j (Cd xs j):=
 bP h j _ _ _ (by lia) (by lia) (Av _) (λi x Q=>by lia) λi x Q Y=>by
  have:=(Cs.mp Y).1
  lia
theorem bO (h:Rs xs){i j:Ah}(e:xs[i]? = Ab j):Cd xs j=i:=by
 have b:=uA h j;have U:=(Cs.mp e).1;by_cases J:Cd xs j<i
 .have Q:xs[Cd xs j]? = Ab xs[Cd xs j]:=Dw (by lia)
  have:=h.lt J Q e;have:=b.hi _ _ (Av _) Q
  lia
 .by_cases Y:i<Cd xs j
  .have:=b.lo _ _ Y e
   lia
  .lia
theorem iL (h:Rs xs){i j:Ah}(e:xs[i]? = Ab j):Cd xs (j+1)=i+1:=by
 have b:=uA h (j+1);have U:=(Cs.mp e).1;have G:i<Cd xs (j+1):=by
  apply Fq;intro q;have:=b.hi _ _ (by lia) e
  lia
 by_cases J:i+1<Cd xs (j+1)
 .have Y:i+1<xs.size:=by have:=b.le;lia
  have Q:xs[i+1]? = Ab xs[i+1]:=Dw Y;have:=b.lo _ _ J Q;have:=h.lt (Ka i) e Q
  lia
 .lia
theorem iM (h:Rs xs):Cd xs 0=0:=by
 have b:=uA h 0;apply Fq;intro q;have Q:0<xs.size:=by have:=b.le;lia
 have Y:xs[0]? = Ab xs[0]:=Dw Q;have:=b.lo _ _ (by lia) Y
 lia
structure Tb (t:Fi):Prop where
 rs:Rs t.place
 dm:t.dummies=#[]
theorem cM (j:Ah):Yo #[] j=false:=by simp[Yo]
theorem lS {t:Fi}(T:Tb t){i j:Ah}(e:t.place[i]? = Ab j):t.slot j=.live i:=by
 unfold AaT;simp only[bO T.rs e,e];simp
theorem oV {t:Fi}(T:Tb t)(j:Ah):(∃ i,t.slot j=.live i/\t.place[i]? = Ab j)\/(t.slot j=.empty/\j ∉ t.place.toList):=by
 by_cases h:j∈t.place.toList
 .obtain⟨i,Y,e⟩:=Cz.mp h
  have Q:t.place[i]? = Ab j:=by rw[<- Ba,Ar Y,e]
  exact .inl ⟨i,lS T Q,Q⟩
 .refine .inr ⟨?_,h⟩
  unfold AaT;simp only[T.dm,cM];rw[Bb,Bb (by simp)]
  intro q;apply h;have:t.place[Cd t.place j]? = Ab j:=by simpa using q
  obtain⟨U,J⟩:=Cs.mp this;rw[<- J];simp
theorem WG (h:Rs xs){j:Ah}(O:j ∉ xs.toList):Rs (Bv xs (Cd xs j) j):=by
 have b:=uA h j;unfold Rs;rw[Ta];have Y:∀ (i:Ah) (x:Ah),xs.toList[i]? = Ab x->(i<Cd xs j->x<j)/\(Cd xs j<=i->j<x):=λi x e=>by
  have U:xs[i]? = Ab x:=by rw[<- Ba];exact e
  refine⟨λq=>b.lo _ _ q U,λq=>?_⟩;have C:=b.hi _ _ q U;have:x≠j:=by
   rintro rfl;exact O (Cb e)
  lia
 have G:∀ x∈xs.toList.take (Cd xs j),x<j:=λx Q=>by
  obtain⟨i,J,e⟩:=Cz.mp Q;rw[Dn] at J;rw[Si] at e;exact(Y i x (by rw[Ar (by lia),e])).1 (by lia)
 have N:∀ x∈xs.toList.drop (Cd xs j),j<x:=λx Q=>by
  obtain⟨i,J,e⟩:=Cz.mp Q;rw[Ez] at J;rw[Sj] at e;exact(Y (Cd xs j+i) x (by rw[Ar (by lia),e])).2 (by lia)
 rw[Dz,Fl];refine⟨List.Pairwise.take h,⟨N,List.Pairwise.drop h⟩,λx Q y hy=>?_⟩;rcases AT.mp hy with rfl|hy
 .exact G x Q
 .exact Ig (G x Q) (N y hy)
theorem m9 {α:Type}(xs:Aw α){p:Ah}(hp:p<=xs.size)(x:α)(i:Ah):(Bv xs p x)[i]? = if i<p then xs[i]? else if i=p then Ab x else xs[i-1]?:=by
 rw[<- Ba,Ta];have U:(xs.toList.take p).length=p:=by simp;lia
 by_cases Q:i<p
 .rw[Ax Q,Ci (by lia),Mx Q,Ba]
 .rw[Bb Q,Cw (by lia),U]
  by_cases Y:i=p
  .subst Y;simp
  .rw[Bb Y]
   obtain⟨k,J⟩:∃ k,i-p=k+1:=⟨i-p-1,by lia⟩
   rw[J,Kg,Ra,Ba]
   congr 1;lia
theorem vE {α:Type}(xs:Aw α)(p:Ah)(x:α):(Bv xs p x).size=xs.size+1:=by
 have:=(Ip xs p x).length_eq;simpa using this
theorem S9 {t:Fi}(T:Tb t){j:Ah}(Q:j ∉ t.place.toList):Tb (t.put j).1:=by
 refine⟨WG T.rs Q,?_⟩;show (if Yo t.dummies j then _ else t.dummies)=#[]
 rw[T.dm,cM];rfl
open PySem.SetTable (Probe leap runEnd turns bits)
noncomputable def nh (mask:Ah)(p:Nx):Nx:=if p.more>0 then { p with j:=p.j+1,more:=p.more-1 } else { p with j:=(leap mask p.i p.perturb).1,more:=Hm mask (leap mask p.i p.perturb).1-(leap mask p.i p.perturb).1,i:=(leap mask p.i p.perturb).1,perturb:=(leap mask p.i p.perturb).2 }
theorem MR (t:Fi)(p:Nx):t.advance p=nh t.mask p:=rfl
def it (mask:Ah):Ah->Nx->Nx
 |0,p=>p
 |n+1,p=>it mask n (nh mask p)
theorem pS (mask:Ah):∀ (n:Ah) (p:Nx),it mask (n+1) p=nh mask (it mask n p)
 |0,p=>rfl
 |n+1,p=>pS mask n (nh mask p)
theorem mF (mask:Ah):∀ (m n:Ah) (p:Nx),it mask (m+n) p=it mask n (it mask m p)
 |0,n,p=>by rw[Ha];rfl
 |m+1,n,p=>by rw[Rb];exact mF mask m n (nh mask p)
noncomputable def rs (mask i Q:Ah):Nx:={ j:=i,more:=Hm mask i-i,i,perturb:=Q,dummy:=none }
def st (mask:Ah)(h:Am):Nx:=rs mask (bits h % (mask+1)) (bits h)
theorem CU (t:Fi)(h:Am):t.probeStart h=st t.mask h:=rfl
theorem pA (mask i Q:Ah):∀ k,k<=Hm mask i-i->it mask k (rs mask i Q)={ j:=i+k,more:=Hm mask i-i-k,i,perturb:=Q,dummy:=none }
 |0,_=>rfl
 |k+1,Y=>by
  rw[pS,pA mask i Q k (by lia)]
  unfold nh;rw[Ax (by show Hm mask i-i-k>0;lia)]
  simp only[Probe.mk.injEq,and_true,true_and]
  lia
theorem cS (mask i Q:Ah):it mask (Hm mask i-i+1) (rs mask i Q)=rs mask (leap mask i Q).1 (leap mask i Q).2:=by
 rw[pS,pA mask i Q _ (Av _)];unfold nh;rw[Bb (by show ¬ (Hm mask i-i-(Hm mask i-i)>0);lia)]
 rfl
theorem R4 (mask i:Ah):Hm mask i-i+1<=10:=by
 unfold Hm
 split <;> lia
def lp (mask:Ah):Ah->Ah × Ah->Ah × Ah
 |0,q=>q
 |n+1,q=>lp mask n (leap mask q.1 q.2)
theorem X3 (mask:Ah):∀ (m n:Ah) (q:Ah × Ah),lp mask (m+n) q=lp mask n (lp mask m q)
 |0,n,p=>by rw[Ha];rfl
 |m+1,n,p=>by rw[Rb];exact X3 mask m n _
theorem JT (mask:Ah):∀ (n i Q:Ah),∃ k,k<=10*n/\it mask k (rs mask i Q)=rs mask (lp mask n (i,Q)).1 (lp mask n (i,Q)).2
 |0,i,Q=>⟨0,by lia,rfl⟩
 |n+1,i,Q=>by
  obtain⟨k,Y,e⟩:=JT mask n (leap mask i Q).1 (leap mask i Q).2;refine⟨(Hm mask i-i+1)+k,by have:=R4 mask i;lia,?_⟩
  rw[mF,cS,e];rfl
theorem cZ (mask:Ah):∀ (n i Q:Ah),(lp mask n (i,Q)).2=Q/32 ^ n
 |0,i,Q=>by simp[lp]
 |n+1,i,Q=>by
  show (lp mask n ((leap mask i Q).1,Q/32)).2=_;rw[cZ mask n _ (Q/32),Nat.div_div_eq_div_mul,<- Nat.pow_succ']
theorem tZ (mask i Q:Ah):(leap mask i Q).1<=mask:=Lj (Qk _ (Lv _))
theorem JV (mask:Ah):∀ (n i Q:Ah),i<=mask->(lp mask n (i,Q)).1<=mask
 |0,i,Q,h=>h
 |n+1,i,Q,h=>JV mask n _ _ (tZ mask i Q)
theorem c7 (h:Am):bits h<2 ^ 64:=by
 unfold bits;have Q:(0:Am)<=h % 2 ^ 64:=Mt _ (by decide)
 have Y:h % 2 ^ 64<(2 ^ 64:Am):=Kn _ (by decide)
 lia
def qe (mask:Ah):Ah->Ah->Ah
 |0,i=>i
 |n+1,i=>qe mask n ((i*5+1) % (mask+1))
theorem pO (mask:Ah):∀ (m n i:Ah),qe mask (m+n) i=qe mask n (qe mask m i)
 |0,n,p=>by rw[Ha];rfl
 |m+1,n,p=>by rw[Rb];exact pO mask m n _
theorem X4 (mask:Ah):∀ (n i:Ah),(lp mask n (i,0)).1=qe mask n i
 |0,i=>rfl
 |n+1,i=>by
  show (lp mask n (leap mask i 0)).1=_;have:leap mask i 0=((i*5+1) % (mask+1),0):=by simp[leap]
  rw[this,X4 mask n];rfl
def oy (mask:Ah):Prop:=mask=7\/mask=31\/mask=127\/mask=511\/mask=2047
noncomputable def u_ (mask:Ah):Ah->Ah->Ah->Ah
 |0,_,Q=>Q
 |n+1,i,Q=>u_ mask n ((i*5+1) % (mask+1)) (Q ||| 1 <<< i)
def QY (mask:Ah):As:=u_ mask (mask+1) 0 0 == 2 ^ (mask+1)-1&&qe mask (mask+1) 0 == 0
theorem QZ (h:oy mask):QY mask=true:=by
 rcases h with rfl|rfl|rfl|rfl|rfl <;> decide +kernel
theorem aD (mask e:Ah):∀ (n i av:Ah),(u_ mask n i av).testBit e=true->av.testBit e=true\/∃ m,m<n/\qe mask m i=e
 |0,i,av,h=>.inl h
 |n+1,i,av,h=>by
  rcases aD mask e n _ _ h with q|⟨m,Q,q⟩
  .rw[Nat.testBit_or,Us] at q
   rcases q with q|q
   .exact .inl q
   .rw[Nat.one_shiftLeft,Nat.testBit_two_pow,Cc] at q
    exact .inr ⟨0,by lia,q⟩
  .exact .inr ⟨m+1,by lia,q⟩
theorem YI (h:oy mask){i e:Ah}(hi:i<=mask)(Y:e<=mask):∃ n,n<=mask/\qe mask n i=e:=by
 have a:=QZ h;unfold QY at a;rw[Bd] at a;obtain⟨Q,G⟩:=a;have Q:u_ mask (mask+1) 0 0=2 ^ (mask+1)-1:=by simpa using Q
 have g:∀ e,e<=mask->∃ n,n<=mask/\qe mask n 0=e:=λe Y=>by
  have q:(u_ mask (mask+1) 0 0).testBit e=true:=by rw[Q,Nat.testBit_two_pow_sub_one];simp;lia
  rcases aD mask e _ _ _ q with q|⟨n,N,q⟩
  .simp at q
  .exact⟨n,by lia,q⟩
 have U:qe mask (mask+1) 0=0:=by simpa using G
 obtain⟨m,O,em⟩:=g i hi;obtain⟨n,N,J⟩:=g e Y;by_cases q:m<=n
 .refine⟨n-m,by lia,?_⟩
  rw[<- em,<- pO,show m+(n-m)=n by lia]
  exact J
 .refine⟨n+(mask+1)-m,by lia,?_⟩
  rw[<- em,<- pO,show m+(n+(mask+1)-m)=(mask+1)+n by lia,pO,U]
  exact J
theorem rE (h:oy mask){i Q e:Ah}(hi:i<=mask)(hp:Q<2 ^ 64)(Y:e<=mask):∃ n,n<=mask+13/\(lp mask n (i,Q)).1=e:=by
 have J:(lp mask 13 (i,Q)).2=0:=by
  rw[cZ];apply Nat.div_eq_of_lt;exact Ig hp (by decide)
 obtain⟨n,U,q⟩:=YI h (JV mask 13 i Q hi) Y;refine⟨13+n,by lia,?_⟩
 rw[X3];have:lp mask 13 (i,Q)=((lp mask 13 (i,Q)).1,0):=by rw[<- J]
 rw[this,X4];exact q
theorem r8 (h:oy mask)(hs:Am){e:Ah}(Q:e<=mask):∃ n,n<10*turns mask/\(it mask n (st mask hs)).j=e:=by
 obtain⟨n,U,q⟩:=rE h (i:=bits hs % (mask+1)) (Lj (Qk _ (Lv _))) (c7 hs) Q;obtain⟨k,J,Y⟩:=JT mask n (bits hs % (mask+1)) (bits hs);refine⟨k,by unfold turns;lia,?_⟩
 show (it mask k (rs mask _ _)).j=e;rw[Y];exact q
theorem bX (mask:Ah):∀ (n:Ah) (p:Nx),(it mask n p).dummy=p.dummy
 |0,p=>rfl
 |n+1,p=>by
  show (it mask n (nh mask p)).dummy=_;rw[bX mask n];unfold nh
  split <;> rfl
def oj (t:Fi)(p:Nx)(n:Ah):Prop:=∀ m,m<n->(it t.mask m p).j∈t.place.toList
inductive Meets (t:Fi)(hashAt:Ah->Am)(h:Am)(p:Nx)(fuel:Ah):Ak SetTable.Met->Prop
 |emp (n:Ah) (hn:n<fuel) (w:oj t p n) (e:(it t.mask n p).j ∉ t.place.toList) (q:∀ m i,m<n->t.place[i]? = Ab (it t.mask m p).j->hashAt i≠h):Meets t hashAt h p fuel (Ab (.empty (it t.mask n p).j none))
 |cand (n i:Ah) (hn:n<fuel) (w:oj t p n) (e:t.place[i]? = Ab (it t.mask n p).j) (hh:hashAt i=h) (q:∀ m i,m<n->t.place[i]? = Ab (it t.mask m p).j->hashAt i≠h):Meets t hashAt h p fuel (Ab (.candidate (it t.mask n p).j i (it t.mask (n+1) p)))
theorem WE (h:Rs xs){a b x:Ah}(Y:xs[a]? = Ab x)(Q:xs[b]? = Ab x):a=b:=by rw[<- bO h Y,bO h Q]
set_option tactic.hygienic true in
theorem kZ {t:Fi}(T:Tb t)(hashAt:Ah->Am)(h:Am):∀ (fuel:Ah) (p:Nx),p.dummy=none->(∃ n,n<fuel/\(it t.mask n p).j ∉ t.place.toList)->Meets t hashAt h p fuel (Ll t hashAt h fuel p)
 |0,p,_,⟨n,z,_⟩=>by lia
 |fuel+1,p,H,⟨n,z,J⟩=>by
  unfold Ll;rcases oV T p.j with⟨i,e,G⟩|⟨e,q⟩
  .rw[e]
   simp only
   split
   .rename_i L
    exact Meets.cand 0 i (by lia) (λm Y=>by lia) G (by simpa using L) λm i Y=>by lia
   .rename_i L
    have N:hashAt i≠h:=by simpa using L
    have u:n≠0:=by
     rintro rfl;exact J (Cb (by rw[Ba];exact G))
    obtain⟨C,rfl⟩:∃ C,n=C+1:=⟨n-1,by lia⟩
    have M:=kZ T hashAt h fuel (nh t.mask p) (by rw[<- H];exact bX t.mask 1 p) ⟨C,by lia,J⟩
    rw[MR];have U:p.j∈t.place.toList:=Cb (by rw[Ba];exact G)
    have up:∀ {k:Ah},oj t (nh t.mask p) k->oj t p (k+1):=λ{k} w m Y=>by
     cases m with
     |zero=>exact U
     |succ m=>exact w m (by lia)
    have Q:∀ {k:Ah},(∀ m i,m<k->t.place[i]? = Ab (it t.mask m (nh t.mask p)).j->hashAt i≠h)->∀ m i,m<k+1->t.place[i]? = Ab (it t.mask m p).j->hashAt i≠h:=λ{k} q m E Y A=>by
     cases m with
     |zero=>rw[WE T.rs A G];exact N
     |succ m=>exact q m E (by lia) A
    generalize o:Ll t hashAt h fuel (nh t.mask p)=r at M;cases M with
    |emp k y w O B=>exact Meets.emp (p:=p) (k+1) (by lia) (up w) O (Q B)
    |cand k E y w O I B=>exact Meets.cand (p:=p) (k+1) E (by lia) (up w) O I (Q B)
  .rw[e]
   simp only[H];exact Meets.emp (p:=p) 0 (by lia) (λm Y=>by lia) q λm i Y=>by lia
end _S
namespace _S
open PySem.SetTable (Probe leap runEnd turns bits)
variable {us:Aa Ah}{mask:Ah}{owner:Aw (Ak Ah)}
structure rg (mask:Ah)(owner:Aw (Ak Ah))(us:Aa Ah):Prop where
 size:owner.size=mask+1
 nd:us.Nodup
 le:∀ u∈us,u<=mask
 at':∀ j k,j<=mask->(owner.getD j (Ab 0)=Ab k↔us[k]? = Ab j)
theorem nO {i:Ah}(hi:i<=mask):Hm mask i<=mask:=by
 unfold Hm
 split <;> lia
theorem nP (mask i:Ah):i<=Hm mask i:=by
 unfold Hm
 split <;> lia
theorem rg.none (O:rg mask owner us){j:Ah}(Q:j<=mask):(owner.getD j (Ab 0)).isNone=true↔j ∉ us:=by
 constructor
 .intro h Y
  obtain⟨k,J,e⟩:=Cz.mp Y;have:=(O.at' j k Q).mpr (by rw[Ar J,e])
  rw[this] at h;cases h
 .intro h
  cases q:owner.getD j (Ab 0) with
  |none=>rfl
  |some k=>exact absurd (Cb ((O.at' j k Q).mp q)) h
theorem lE (O:rg mask owner us):∀ (fuel i Q:Ah),i<=mask->(∃ L,L<fuel/\(lp mask L (i,Q)).1 ∉ us) ->
  ∃ n,Iq mask owner fuel i Q=Ab (it mask n (rs mask i Q)).j/\(it mask n (rs mask i Q)).j<=mask/\(it mask n (rs mask i Q)).j ∉ us/\∀ m,m<n->(it mask m (rs mask i Q)).j∈us
 |0,i,Q,C,⟨L,z,_⟩=>by lia
 |fuel+1,i,Q,C,⟨L,z,J⟩=>by
  unfold Iq;have M:=nO C;have H:=nP mask i;cases T:(Cg (Hm mask i+1-i)).find? λk=>(owner.getD (i+k) (Ab 0)).isNone with
  |some k =>
   obtain⟨g,y,A⟩:=List.find?_range_eq_some.mp T;have E:k<Hm mask i+1-i:=Ei.mp y;have N:(it mask k (rs mask i Q)).j=i+k:=by rw[pA mask i Q k (by lia)]
   refine⟨k,?_,?_,?_,λm B=>?_⟩
   .rw[N]
   .rw[N];lia
   .rw[N];exact(O.none (by lia)).mp g
   .rw[pA mask i Q m (by lia)]
    have:=A m B;apply Fq;intro q;rw[(O.none (show i+m<=mask by lia)).mpr q] at this
    cases this
  |none =>
   have Y:∀ k,k<Hm mask i+1-i->i+k∈us:=λk E=>by
    have:=List.find?_eq_none.mp T k (Ei.mpr E);apply Fq;intro q;exact this ((O.none (show i+k<=mask by lia)).mpr q)
   have o:L≠0:=by
    rintro rfl;exact J (Y 0 (by lia))
   obtain⟨G,rfl⟩:∃ G,L=G+1:=⟨L-1,by lia⟩
   obtain⟨n,w,u,l,I⟩:=lE O fuel (leap mask i Q).1 (leap mask i Q).2 (tZ mask i Q) ⟨G,by lia,J⟩
   have e:∀ m,it mask (Hm mask i-i+1+m) (rs mask i Q)=it mask m (rs mask (leap mask i Q).1 (leap mask i Q).2):=λm=>by rw[mF,cS]
   refine⟨Hm mask i-i+1+n,?_,?_,?_,λm B=>?_⟩
   .rw[e];exact w
   .rw[e];exact u
   .rw[e];exact l
   .by_cases p:m<Hm mask i-i+1
    .rw[pA mask i Q m (by lia)]
     exact Y m (by lia)
    .obtain⟨U,rfl⟩:∃ U,m=Hm mask i-i+1+U:=⟨m-(Hm mask i-i+1),by lia⟩
     rw[e];exact I U (by lia)
theorem gap (h:us.length<=mask):∃ e,e<=mask/\e ∉ us:=by
 apply Fq;intro q;have:Cg (mask+1) ⊆ us:=λe Q=>by
  apply Fq;intro r;exact q ⟨e,by have:=Ei.mp Q;lia,r⟩
 have:=List.Nodup.length_le_of_subset v4 this;rw[Eb] at this
 lia
theorem BU (mask:Ah):rg mask (Array.replicate (mask+1) none) []:=by
 refine⟨by simp,List.nodup_nil,λu Q=>by simp at Q,λj k Y=>?_⟩
 have:j<mask+1:=by lia
 simp[Gk,this]
theorem U1 (O:rg mask owner us){j:Ah}(H:j<=mask)(N:j ∉ us):rg mask (owner.setIfInBounds j (Ab us.length)) (us++[j]):=by
 refine⟨by simp[O.size],?_,λu L=>?_,λi k B=>?_⟩
 .rw[Zc]
  refine⟨O.nd,by simp,λa I b C=>?_⟩
  simp at C;rintro rfl;subst C;exact N I
 .rcases Bw.mp L with h|h
  .exact O.le u h
  .simp at h;lia
 .have T:=O.size
  have Y:i<owner.size:=by lia
  have E:∀ {k},us[k]? = Ab i->k<us.length:=λq=>(Ce.mp q).1;by_cases Q:j=i
  .subst Q
   have U:(owner.setIfInBounds j (Ab us.length)).getD j (Ab 0)=Ab us.length:=by simp[Gk,Y]
   rw[U];constructor
   .intro q;cases q;simp
   .intro q
    by_cases G:k<us.length
    .rw[Ci G] at q
     exact absurd (Cb q) N
    .rw[Cw (by lia)] at q
     have:k-us.length=0:=by
      cases J:k-us.length with
      |zero=>rfl
      |succ z=>rw[J] at q;simp at q
     congr 1;lia
  .have U:(owner.setIfInBounds j (Ab us.length)).getD i (Ab 0)=owner.getD i (Ab 0):=by
    simp[Gk,Y,Array.getElem_setIfInBounds,Q]
   rw[U,O.at' i k B];constructor
   .intro q;rw[Ci (E q)];exact q
   .intro q
    by_cases G:k<us.length
    .rw[Ci G] at q;exact q
    .rw[Cw (by lia)] at q
     cases J:k-us.length with
     |zero=>rw[J] at q;simp at q;exact absurd q Q
     |succ z=>rw[J] at q;simp at q
def iE (mask:Ah)(us:Aa Ah)(hs:Aa Am):Prop:=∀ (k:Ah) (h:Am),hs[k]? = Ab h->∃ n,us[k]? = Ab (it mask n (st mask h)).j/\∀ m,m<n->(it mask m (st mask h)).j∈us
theorem lC (A:oy mask):∀ (hs done:Aa Am) (owner:Aw (Ak Ah)) (us:Aa Ah),rg mask owner us->us.length=done.length->done.length+hs.length<=mask->iE mask us done ->
  ∃ Q Y,hs.foldl (λav h=>do
   let (owner,k) <- av
   let j <- Iq mask owner (turns mask) (bits h % (mask+1)) (bits h)
   pure (owner.setIfInBounds j (Ab k),k+1)) (Ab (owner,us.length))=Ab (Q,Y.length)/\rg mask Q Y/\Y.length=done.length+hs.length/\iE mask Y (done++hs)
 |[],done,owner,us,O,G,_,E=>⟨owner,us,rfl,O,by simpa using G,by simpa using E⟩
 |h::hs,done,owner,us,O,G,U,E=>by
  rw[Bc] at U;obtain⟨e,y,T⟩:=gap (mask:=mask) (us:=us) (by lia)
  obtain⟨L,w,I⟩:=rE A (i:=bits h % (mask+1)) (Lj (Qk _ (Lv _))) (c7 h) y;obtain⟨n,p,d,r,M⟩:=lE O (turns mask) (bits h % (mask+1)) (bits h) (Lj (Qk _ (Lv _))) ⟨L,by unfold turns;lia,by rw[I];exact T⟩
  have f:=U1 O d r;have N:iE mask (us++[(it mask n (rs mask (bits h % (mask+1)) (bits h))).j]) (done++[h]):=λk t J=>by
   by_cases v:k<done.length
   .rw[Ci v] at J
    obtain⟨o,l,s⟩:=E k t J;exact⟨o,by rw[Ci (by lia)];exact l,λm B=>Dq _ (s m B)⟩
   .rw[Cw (by lia)] at J
    cases C:k-done.length with
    |succ z=>rw[C] at J;simp at J
    |zero =>
     rw[C] at J;simp at J;subst J;refine⟨n,?_,λm B=>Dq _ (M m B)⟩;rw[Cw (by lia),G,C]
     rfl
  obtain⟨Q,Y,H,u,q,g⟩:=lC A hs (done++[h]) _ _ f (by simp[G]) (by simp;lia) N
  refine⟨Q,Y,?_,u,by simpa [Mf,Qb 1] using q,by simpa using g⟩
  rw[Pj];rw[Ca] at H;have c:(do
   let (owner,k) <- Ab (owner,us.length)
   let j <- Iq mask owner (turns mask) (bits h % (mask+1)) (bits h)
   pure (owner.setIfInBounds j (Ab k),k+1))=Ab (owner.setIfInBounds (it mask n (rs mask (bits h % (mask+1)) (bits h))).j (Ab us.length),us.length+1):=by
   show (Iq mask owner (turns mask) (bits h % (mask+1)) (bits h)).bind _=_;rw[p];rfl
  rw[c];exact H
theorem lZ (G:oy mask)(hs:Aw Am)(Y:hs.size<=mask):∃ owner us,Zj mask hs=Ab owner/\rg mask owner us/\us.length=hs.size/\iE mask us hs.toList:=by
 obtain⟨Q,J,U,C,N,O⟩:=lC G hs.toList [] _ [] (BU mask) rfl (by simpa using Y) (λk h e=>by simp at e)
 refine⟨Q,J,?_,C,by simpa using N,by simpa using O⟩
 unfold Zj;rw[<- Array.foldl_toList];have:(([]:Aa Ah).length)=0:=rfl;rw[this] at U
 erw [U]
 rfl
structure Laid (mask:Ah)(hs:Aw Am)(t:Fi)(qS:Aw Ah):Prop where
 msk:t.mask=mask
 tb:Tb t
 size:t.place.size=hs.size
 le:∀ x∈t.place.toList,x<=mask
 perm:qS.toList.Perm (Cg hs.size)
 way:∀ (i k:Ah) (h:Am),qS[i]? = Ab k->hs[k]? = Ab h->∃ n,t.place[i]? = Ab (it mask n (st mask h)).j/\oj t (st mask h) n
theorem ZX (hM:oy mask)(hs:Aw Am)(C:hs.size<=mask)(finger moves:Ah)(led plain:As) :
  ∃ t qS,Xi mask finger moves led plain hs=Ab (t,qS)/\t.led=led/\t.plain=plain/\Laid mask hs t qS:=by
 obtain⟨owner,us,e,O,hl,hL⟩:=lZ hM hs C;have y:∀ j,j<=mask->owner.getD j none=owner.getD j (Ab 0):=λj T=>by
  have:j<owner.size:=by rw[O.size];lia
  simp[Gk,this]
 generalize G:((Cg (mask+1)).filterMap λj=>(owner.getD j none).map (j,·))=live
 have mem:∀ (j k:Ah),(j,k)∈live↔us[k]? = Ab j:=λj k=>by
  rw[<- G,IN];constructor
  .rintro⟨L,I,q⟩
   have J:L<=mask:=by have:=Ei.mp I;lia
   rw[y L J] at q;cases Y:owner.getD L (Ab 0) with
   |none=>rw[Y] at q;cases q
   |some g =>
    rw[Y] at q;simp at q;obtain⟨rfl,rfl⟩:=q;exact(O.at' _ _ J).mp Y
  .intro q
   have T:j<=mask:=O.le j (Cb q);refine⟨j,Ei.mpr (by lia),?_⟩
   rw[y j T,(O.at' j k T).mpr q];rfl
 have B:live.map (·.1)=(Cg (mask+1)).filter λj=>(owner.getD j none).isSome:=by
  rw[<- G,List.map_filterMap];generalize owner.getD=f
  induction Cg (mask+1) with
  |nil=>rfl
  |cons a l p =>
   rw[Fv,Tk];cases Y:f a none with
   |none=>simpa using p
   |some k=>simpa using p
 have w:(live.map (·.1)).Pairwise (· < ·):=by
  rw[B];exact List.Pairwise.filter _ List.pairwise_lt_range
 have E:(live.map (·.2)).Nodup:=by
  unfold List.Nodup;rw[Ib];have N:=Ib.mp w;refine Tc (λ{a b} ha hb v=>?_) N;intro q;have s:=(mem a.1 a.2).mp ha;have o:=(mem b.1 b.2).mp hb;rw[<- q,s] at o;simp at o
  lia
 have u:(live.map (·.2)).Perm (Cg hs.size):=by
  rw[List.perm_ext_iff_of_nodup E v4];intro k;rw[Dj,Ei,<- hl];constructor
  .rintro⟨⟨j,g⟩,N,rfl⟩
   exact(Ce.mp ((mem j g).mp N)).1
  .intro M
   exact⟨(us[k],k),(mem _ _).mpr (Ar M),rfl⟩
 have U:∀ j,j∈live.map (·.1)↔j∈us:=λj=>by
  rw[Dj];constructor
  .rintro⟨⟨L,k⟩,N,rfl⟩
   exact Cb ((mem _ _).mp N)
  .intro N
   obtain⟨k,M,e⟩:=Cz.mp N;exact⟨(j,k),(mem _ _).mpr (by rw[Ar M,e]),rfl⟩
 refine⟨{ mask,place:=(live.map (·.1)).toArray,dummies:=#[],finger,led,moves,plain },(live.map (·.2)).toArray,?_,rfl,rfl,rfl,⟨?_,rfl⟩,?_,λx hx=>?_,?_,λi k h c d=>?_⟩
 .unfold Xi
  rw[e,<- G];rfl
 .exact w
 .have:=u.length_eq
  simp at this ⊢;exact this
 .exact O.le x ((U x).mp hx)
 .exact u
 .have Q:(live.map (·.2))[i]? = Ab k:=by simpa using c
  rw[Ea] at Q;cases Y:live[i]? with
  |none=>rw[Y] at Q;cases Q
  |some z =>
   rw[Y] at Q;simp at Q;have A:=Cb Y;have hu:=(mem z.1 z.2).mp A;obtain⟨n,H,r⟩:=hL k h (by rw[Ba];exact d)
   rw[<- Q] at H;rw[hu] at H;refine⟨n,?_,λm hm=>?_⟩
   .rw[<- H]
    simp[Y]
   .have:=(U _).mpr (r m hm)
    simpa using this
theorem FU {t:Fi}{hs:Aw Am}{w:Ah}:SetTable.relaid t hs w=Xi (Et w-1) t.finger (t.movedTo (Et w-1)) t.led t.plain hs:=rfl
end _S
namespace _S
open PySem.SetTable (Probe leap runEnd turns bits)
structure ft {K:Type}(is:K->Ac->Prop)(hash:K->Am)(es:Aw (Am × Ac))(seen:Aa K):Prop where
 good:∀ e∈es.toList,∃ k,e.1=hash k/\is k e.2
 nd:es.toList.Pairwise λa b=>∀ k,is k a.2->¬ is k b.2
 mem:∀ k,k∈seen↔∃ e∈es.toList,is k e.2
section
variable {K:Type}{is:K->Ac->Prop}{ay:K->Am}{es lg:Aw (Am × Ac)}{seen yt:Aa K}
theorem ft.perm (Z:ft is ay es seen)(p:lg.toList.Perm es.toList):ft is ay lg seen:=
 ⟨λe Q=>Z.good e (p.mem_iff.mp Q),(p.pairwise_iff λ{x y} h k Y J=>h k J Y).mpr Z.nd,λk=>(Z.mem k).trans ⟨λ⟨e,Q,q⟩=>⟨e,p.mem_iff.mpr Q,q⟩,λ⟨e,Q,q⟩=>⟨e,p.mem_iff.mp Q,q⟩⟩⟩
theorem ft.nil:ft is ay #[] []:=⟨λe Q=>by simp at Q,by simp,λk=>by simp⟩
theorem ft.push (Z:ft is ay es seen)(Q:∀ {k Y:K} {v:Ac},is k v->is Y v->k=Y){k:K}{x:Ac}(J:is k x)(G:k ∉ seen)(p:lg.toList.Perm (es.toList++[(ay k,x)])):ft is ay lg (k::seen):=by
 refine ft.perm (es:=es.push (ay k,x)) ⟨λe he=>?_,?_,λY=>?_⟩ (by simpa using p)
 .rw[Ec] at he
  rcases Bw.mp he with he|he
  .exact Z.good e he
  .simp at he;subst he;exact⟨k,rfl,J⟩
 .rw[Ec,Dz]
  refine⟨Z.nd,by simp,λa O b U Y C N=>?_⟩
  simp at U;subst U;have:=Q J N;subst this;exact G ((Z.mem k).mpr ⟨a,O,C⟩)
 .rw[AT,Z.mem,Ec]
  constructor
  .rintro (rfl|⟨e,he,q⟩)
   .exact⟨(ay Y,x),by simp,J⟩
   .exact⟨e,Dq _ he,q⟩
  .rintro⟨e,he,q⟩
   rcases Bw.mp he with he|he
   .exact .inr ⟨e,he,q⟩
   .simp at he;subst he;exact .inl (Q q J)
theorem ft.again (Z:ft is ay es seen){k:K}(Q:k∈seen):ft is ay es (k::seen):=
 ⟨Z.good,Z.nd,λY=>by rw[AT,Z.mem];exact⟨λh=>h.elim (λe=>by subst e;exact(Z.mem _).mp Q) id,.inr⟩⟩
end
section
open Classical in
theorem f9 {K:Type}{is:K->Ac->Prop}:∀ (L:Aa (Am × Ac)) (U:Aa K),L.Pairwise (λa b=>∀ k,is k a.2->¬ is k b.2)->(∀ e∈L,∃ k∈U,is k e.2)->L.length<=U.length
 |[],U,_,_=>Hc _
 |e::L,U,G,h=>by
  rw[Fl] at G;obtain⟨J,Y,C⟩:=h e (by simp)
  have O:=f9 L (U.erase J) G.2 λN Q=>by
   obtain⟨k,B,q⟩:=h N (by simp[Q])
   have:k≠J:=λz=>G.1 N Q J C (z▸q);exact⟨k,(Wm this).mpr B,q⟩
  rw[Td Y] at O;have:0<U.length:=Uw Y;rw[Bc]
  lia
open Classical in
theorem ft.few {K:Type}{is:K->Ac->Prop}{O:K->Am}{es:Aw (Am × Ac)}{seen U:Aa K}{k:K}(Z:ft is O es seen)(B:∀ Q∈seen,Q∈U)(J:k∈U)(C:k ∉ seen):es.size<U.length:=by
 have:=f9 es.toList (U.erase k) Z.nd λe G=>by
  obtain⟨Q,_,q⟩:=Z.good e G;have N:=(Z.mem Q).mpr ⟨e,G,q⟩;have Y:Q≠k:=λz=>C (z▸N);exact⟨Q,(Wm Y).mpr (B Q N),q⟩
 rw[Td J,Bi] at this;have:0<U.length:=Uw J
 lia
end
structure ix (t:Fi)(es:Aw (Am × Ac)):Prop where
 tb:Tb t
 msk:oy t.mask
 size:t.place.size=es.size
 le:∀ x∈t.place.toList,x<=t.mask
 few:es.size*5<t.mask*3
 way:∀ (i:Ah) (e:Am × Ac),es[i]? = Ab e->∃ n,t.place[i]? = Ab (it t.mask n (st t.mask e.1)).j/\oj t (st t.mask e.1) n
 plain:t.plain=true
theorem ix.fits {t:Fi}{es:Aw (Am × Ac)}(T:ix t es):t.fits es.size=true:=by
 have Q:=T.size;have Y:=T.few;have J:t.fill=es.size:=by unfold Mi;rw[T.tb.dm,Q];rfl
 unfold Xj;rw[J,Q];rcases T.msk with h|h|h|h|h <;> rw[h] at Y ⊢ <;> simp <;> lia
theorem ix.gap {t:Fi}{es:Aw (Am × Ac)}(T:ix t es):∃ e,e<=t.mask/\e ∉ t.place.toList:=by
 apply _S.gap;rw[Bi,T.size];have Q:=T.few;rcases T.msk with h|h|h|h|h <;> rw[h] at Q ⊢ <;> lia
theorem ix.odd {t:Fi}{es:Aw (Am × Ac)}(T:ix t es):t.gaveWay=false:=by
 unfold SetTable.gaveWay;rcases T.msk with h|h|h|h|h <;> rw[h] <;> rfl
theorem ix.put {t:Fi}{es:Aw (Am × Ac)}(T:ix t es){h:Am}{x:Ac}{n:Ah}(w:oj t (st t.mask h) n)(H:(it t.mask n (st t.mask h)).j ∉ t.place.toList)(U:(it t.mask n (st t.mask h)).j<=t.mask) :
  let lg:=Bv es (t.put (it t.mask n (st t.mask h)).j).2 (h,x)
  Tb (t.put (it t.mask n (st t.mask h)).j).1/\(t.put (it t.mask n (st t.mask h)).j).1.place.size=lg.size/\(∀ y∈(t.put (it t.mask n (st t.mask h)).j).1.place.toList,y<=t.mask) /\
  (∀ (i:Ah) (e:Am × Ac),lg[i]? = Ab e->∃ m,(t.put (it t.mask n (st t.mask h)).j).1.place[i]? = Ab (it t.mask m (st t.mask e.1)).j/\oj (t.put (it t.mask n (st t.mask h)).j).1 (st t.mask e.1) m):=by
 generalize L:(it t.mask n (st t.mask h)).j=j at *;have N:∀ y,y∈(t.put j).1.place.toList↔y=j\/y∈t.place.toList:=λy=>by
  show y∈(Bv t.place (Cd t.place j) j).toList↔_;rw[(Ip _ _ _).mem_iff];simp[or_comm]
 have C:Cd t.place j<=t.place.size:=(uA T.tb.rs j).le;have Y:∀ {p:Nx} {m:Ah},oj t p m->oj (t.put j).1 p m:=λ{p m} w q I=>(N _).mpr (.inr (w q I));refine⟨S9 T.tb H,?_,λy hy=>?_,λi e E=>?_⟩
 .show (Bv t.place _ j).size=(Bv es _ (h,x)).size
  rw[vE,vE,T.size]
 .rcases (N y).mp hy with rfl|hy
  .exact U
  .exact T.le y hy
 .have Q:(if i<Cd t.place j then es[i]? else if i=Cd t.place j then Ab (h,x) else es[i-1]?)=Ab e:=by
   rw[<- m9 es (by rw[<- T.size];exact C)]
   exact E
  have pl:(t.put j).1.place[i]? = if i<Cd t.place j then t.place[i]? else if i=Cd t.place j then Ab j else t.place[i-1]?:=m9 t.place C j i
  rw[pl];by_cases B:i<Cd t.place j
  .rw[Ax B] at Q ⊢
   obtain⟨m,J,G⟩:=T.way i e Q;exact⟨m,J,Y G⟩
  .rw[Bb B] at Q ⊢
   by_cases O:i=Cd t.place j
   .rw[Ax O] at Q ⊢
    cases Q;exact⟨n,by rw[L],Y w⟩
   .rw[Bb O] at Q ⊢
    obtain⟨m,J,G⟩:=T.way _ e Q;exact⟨m,J,Y G⟩
theorem JS {mask:Ah}(p:Nx)(hp:p.j+p.more<=mask):∀ n,(it mask n p).j+(it mask n p).more<=mask
 |0=>hp
 |n+1=>by
  rw[pS];have Q:=JS p hp n;unfold nh
  split
  .show (it mask n p).j+1+((it mask n p).more-1)<=mask
   lia
  .show (leap mask _ _).1+(Hm mask (leap mask _ _).1-(leap mask _ _).1)<=mask
   have J:=nO (tZ mask (it mask n p).i (it mask n p).perturb);have Y:=nP mask (leap mask (it mask n p).i (it mask n p).perturb).1
   lia
theorem KD (mask:Ah)(h:Am)(n:Ah):(it mask n (st mask h)).j<=mask:=by
 have Q:bits h % (mask+1)<=mask:=Lj (Qk _ (Lv _));have:=JS (mask:=mask) (st mask h) (by
  show bits h % (mask+1)+(Hm mask (bits h % (mask+1))-bits h % (mask+1))<=mask;have J:=nO Q;have Y:=nP mask (bits h % (mask+1))
  lia) n
 lia
theorem bH {t:Fi}{es:Aw (Am × Ac)}(v:oy t.mask)(hp:t.plain=true)(h1:t.place.size=es.size)(h2:es.size<=1001)(H:t.tooFull=true)(y:t.dummies=#[])(h3:(es.size-1)*5<t.mask*3)(n:0<es.size) :
  Et (Hd es.size)<=2048/\∃ t' qS,t.relaid (es.map (·.1)) (Hd es.size)=Ab (t',qS)/\t'.led=t.led/\(qS.filterMap (es[·]?)).toList.Perm es.toList/\ix t' (qS.filterMap (es[·]?))/\qS.toList.Perm (Cg es.size):=by
 have N:t.fill=es.size:=by unfold Mi;rw[y,h1];rfl
 have B:t.mask*3<=es.size*5:=by
  unfold Tu at H;rw[N] at H;simpa using H
 have Q:(es.size=5/\Et (Hd es.size)=32)\/(es.size=19/\Et (Hd es.size)=128)\/(es.size=77/\Et (Hd es.size)=512)\/(es.size=307/\Et (Hd es.size)=2048):=by
  rcases v with h|h|h|h|h <;> rw[h] at B h3
  .have:es.size=5:=by lia
   exact .inl ⟨this,by rw[this];decide⟩
  .have:es.size=19:=by lia
   exact .inr (.inl ⟨this,by rw[this];decide⟩)
  .have:es.size=77:=by lia
   exact .inr (.inr (.inl ⟨this,by rw[this];decide⟩))
  .have:es.size=307:=by lia
   exact .inr (.inr (.inr ⟨this,by rw[this];decide⟩))
  .lia
 have C:oy (Et (Hd es.size)-1):=by
  rcases Q with⟨_,h⟩|⟨_,h⟩|⟨_,h⟩|⟨_,h⟩ <;> rw[h]
  .exact .inr (.inl rfl)
  .exact .inr (.inr (.inl rfl))
  .exact .inr (.inr (.inr (.inl rfl)))
  .exact .inr (.inr (.inr (.inr rfl)))
 have A:(es.map (·.1)).size<=Et (Hd es.size)-1:=by
  rw[Wf];rcases Q with⟨U,h⟩|⟨U,h⟩|⟨U,h⟩|⟨U,h⟩ <;> rw[h,U] <;> lia
 obtain⟨t',qS,e,p,r,L⟩:=ZX C (es.map (·.1)) A t.finger (t.movedTo (Et (Hd es.size)-1)) t.led t.plain
 have M:qS.size=es.size:=by
  have:=L.perm.length_eq;simpa using this
 have G:∀ i k,qS[i]? = Ab k->k<es.size:=λi k q=>by
  have:k∈Cg (es.map (·.1)).size:=L.perm.mem_iff.mp (Cb (by rw[Ba];exact q))
  simpa using this
 have E:(qS.filterMap (es[·]?)).toList=qS.toList.map λk=>es.toList.getD k (0,.none):=by
  rw[Array.toList_filterMap];have:∀ l:Aa Ah,(∀ k∈l,k<es.size)->l.filterMap (es[·]?)=l.map λk=>es.toList.getD k (0,.none):=by
   intro l
   induction l with
   |nil=>intro _;rfl
   |cons a l o =>
    intro w;have j:=w a (by simp)
    rw[Fv,Dt,o λk O=>w k (by simp[O])]
    rw[Dw j];simp[j]
  refine this _ λk O=>?_;obtain⟨i,u,q⟩:=Cz.mp O;exact G i k (by rw[<- Ba,Ar u,q])
 have Y:(qS.filterMap (es[·]?)).toList.Perm es.toList:=by
  rw[E];have g:=L.perm.map λk=>es.toList.getD k (0,De);refine g.trans ?_;have c:(Cg (es.map (·.1)).size).map (λk=>es.toList.getD k (0,De))=es.toList:=by
   apply Os
   .simp
   .intro i m f
    have d:i<es.size:=by simpa using f
    simp[d]
  rw[c]
 have T:(qS.filterMap (es[·]?)).size=es.size:=by rw[<- Bi,Y.length_eq,Bi]
 have J:∀ i,(qS.filterMap (es[·]?))[i]? = (qS[i]?).map λk=>es.toList.getD k (0,.none):=λi=>by
  rw[<- Ba,E,Ea,Ba]
 refine⟨by rcases Q with⟨_,h⟩|⟨_,h⟩|⟨_,h⟩|⟨_,h⟩ <;> rw[h] <;> decide,t',qS,by rw[FU];exact e,p,Y,⟨L.tb,by rw[L.msk];exact C,by rw[L.size,T,Wf],by rw[L.msk];exact L.le,?_,λi z q=>?_,by rw[r];exact hp⟩,by have:=L.perm;rwa [Wf] at this⟩
 .rw[T,L.msk]
  rcases Q with⟨U,h⟩|⟨U,h⟩|⟨U,h⟩|⟨U,h⟩ <;> rw[h,U] <;> lia
 .rw[J] at q
  cases I:qS[i]? with
  |none=>rw[I] at q;cases q
  |some k =>
   rw[I] at q;simp only[Pl,Option.some.injEq] at q;have O:=G i k I;have:(es.map (·.1))[k]? = Ab z.1:=by
    rw[Array.getElem?_map,Dw O];rw[<- q];simp[O]
   rw[L.msk];exact L.way i k z.1 I this
end _S
namespace _S
open PySem.SetTable (Probe leap runEnd turns bits)
variable {Q:As->Ag->Prop}
def lm (h0 h:Bn):Prop:=∀ b o,h0.get? b=Ab o->h.get? b=Ab o
def gl (prog:Be)(w:Br)(h0:Bn)(ks:Aa Am)(v:Ac):Prop:=∃ a,v=.ref a/\Tv (Ct prog w) h0 ks a
section
variable {prog:Be}{w:Br}{h0:Bn}
theorem gl.inj {x y:Aa Am}{v:Ac}(J:gl prog w h0 x v)(U:gl prog w h0 y v):x=y:=by
 obtain⟨a,rfl,G⟩:=J;obtain⟨b,e,Y⟩:=U;cases e;exact G.inj Y
theorem vN {h:Bn}{ks:Aa Am}{a:Af}(J:lm h0 h)(G:Tv (Ct prog w) h0 ks a):Tv (Ct prog w) h ks a:=by
 obtain⟨o,Y,n,U,r⟩:=G;exact⟨o,Y,n,J _ _ U,r⟩
variable {A:Bk}{E:ae}{s:Ag}
theorem o3 {k:Aa Am}{v:Ac}{Q:Am->Ag->Prop}(U:A.units<Fo)(J:lm h0 s.heap)(Y:gl prog w h0 k v)(h:Q (TW (Ct prog w) k) { s with toks:=s.toks+(k.length+1) }) : Ap (Au prog w) A (pyHash v) Q E s:=by
 obtain⟨a,rfl,Y⟩:=Y;exact wpAny_pyHash_tuple U (vN J Y) h
theorem eqT {k G:Aa Am}{v U:Ac}(O:A.units<Fo)(N:lm h0 s.heap)(J:gl prog w h0 k v)(Y:gl prog w h0 G U)(h:Q (decide (k=G)) s):Ap (Au prog w) A (eqBool v U) Q E s:=by
 obtain⟨a,rfl,J⟩:=J;obtain⟨b,rfl,Y⟩:=Y;exact wpAny_eqBool_tuple O (vN N J) (vN N Y) h
theorem mH:∀ {ks:Aa Am} {vs:ah},ItemsAre (Ct prog w) ks vs->∀ v∈vs,∃ i t,v=.int i t:=by
 intro ks vs h
 induction h with
 |nil=>intro v hv;simp at hv
 |@cons k U ks vs J _ Y =>
  intro v hv;rcases AT.mp hv with rfl|hv
  .cases v <;> first|exact⟨_,_,rfl⟩|exact absurd J (by rintro⟨⟩)
  .exact Y v hv
theorem AZ {k:Aa Am}{v:Ac}(L:lm h0 s.heap)(U:gl prog w h0 k v)(h:Q true s):Ap (Au prog w) A (Ot 8 v) Q E s:=by
 obtain⟨a,rfl,U⟩:=U;have U:=vN L U;have I:=U.typeIs;obtain⟨o,J,n,T,_,C,B⟩:=U;unfold Ot;refine Ad (Pm I F.slot_tuple_hash.lookup ?_);show Ap _ _ (seqItems? (.ref a) >>= _) Q E s;refine Ad (Go T C ?_);refine Ad ?_;show Ap _ _ (forIn J _ _) _ _ s;rw[<- Nc];refine Io _ (λqI r O=>r.1=none/\O=s/\∀ v∈qI,∃ i t,v=.int i t) _ ?_ ?_ _ _ ⟨rfl,rfl,mH B⟩
 .rintro v qI r O ⟨N,rfl,Y⟩
  obtain⟨i,t,rfl⟩:=Y v Cq;show Ap _ _ (Ot 7 (.int i t) >>= _) _ _ _;rw[show Ot 7 (.int i t)=pure true from rfl]
  refine Ad (Al ?_);simp only[Js,Bo,Ds];exact Al ⟨rfl,rfl,λu G=>Y u (Bt _ G)⟩
 .rintro⟨M,H⟩ O ⟨N,rfl,_⟩
  simp only at N;subst N;exact Al h
theorem T1 {k:Aa Am}{v:Ac}(L:lm h0 s.heap)(U:gl prog w h0 k v)(h:Q false s):Ap (Au prog w) A (He 8 v) Q E s:=by
 obtain⟨a,rfl,U⟩:=U;have U:=vN L U;have I:=U.typeIs;obtain⟨o,J,n,T,_,C,B⟩:=U;unfold He;refine Ad (Kc I ?_);dsimp only;refine Ad (Al ?_);simp only[Js,Bo,Ds];refine Ad (Go T C ?_);refine Ad ?_;show Ap _ _ (forIn J _ _) _ _ s;rw[<- Nc];refine Io _ (λqI r O=>r.1=none/\O=s/\∀ v∈qI,∃ i t,v=.int i t) _ ?_ ?_ _ _ ⟨rfl,rfl,mH B⟩
 .rintro v qI r O ⟨N,rfl,Y⟩
  obtain⟨i,t,rfl⟩:=Y v Cq;show Ap _ _ (He 7 (.int i t) >>= _) _ _ _;rw[show He 7 (.int i t)=pure false from rfl]
  refine Ad (Al ?_);simp only[Bo,Ds];exact Al ⟨rfl,rfl,λu G=>Y u (Bt _ G)⟩
 .rintro⟨M,H⟩ O ⟨N,rfl,_⟩
  simp only at N;subst N;exact Al h
theorem SZ {k:Aa Am}{v:Ac}(J:lm h0 s.heap)(Y:gl prog w h0 k v)(h:Q true s):Ap (Au prog w) A (eqIsQuiet 8 v) Q E s:=by
 obtain⟨a,rfl,Y⟩:=Y;exact wpAny_eqIsQuiet_tuple (vN J Y) h
theorem o8 {α:Type}{c:Prop}[Gg c]{M:Kq}{t u:Jl α}{Q:α->Ag->Prop}(h1:c->Ap M A t Q E s)(h2:¬ c->Ap M A u Q E s):Ap M A (if c then t else u) Q E s:=by
 by_cases h:c
 .rw[Ax h];exact h1 h
 .rw[Bb h];exact h2 h
structure v_ (prog:Be)(w:Br){K:Type}[Rg K](is:K->Ac->Prop)(hash:K->Am)(h0:Bn):Prop where
 inj:∀ {k k':K} {v:Ac},is k v->is k' v->k=k'
 ref:∀ {k:K} {v:Ac},is k v->∃ a,v=.ref a
 hsh:∀ {A:Bk} {E:ae} {s:Ag} {k:K} {v:Ac} {Q:Am->Ag->Prop},A.units+8<Fo->lm h0 s.heap->is k v->(∀ tk,s.toks<=tk->Q (hash k) { s with toks:=tk }) -> Ap (Au prog w) A (pyHash v) Q E s
 eq:∀ {A:Bk} {E:ae} {s:Ag} {k k':K} {v v':Ac} {Q:As->Ag->Prop},A.units+8<Fo->lm h0 s.heap->is k v->is k' v'->Q (decide (k=k')) s->Ap (Au prog w) A (eqBool v v') Q E s
 byV:∀ {A:Bk} {E:ae} {s:Ag} {k:K} {v:Ac} {Q:As->Ag->Prop},lm h0 s.heap->is k v->Q true s->Ap (Au prog w) A (Ot 8 v) Q E s
 cls:∀ {A:Bk} {E:ae} {s:Ag} {k:K} {v:Ac} {Q:As->Ag->Prop},lm h0 s.heap->is k v->Q false s->Ap (Au prog w) A (He 8 v) Q E s
 quiet:∀ {A:Bk} {E:ae} {s:Ag} {k:K} {v:Ac} {Q:As->Ag->Prop},lm h0 s.heap->is k v->Q true s->Ap (Au prog w) A (eqIsQuiet 8 v) Q E s
theorem IP:v_ prog w (gl prog w h0) (TW (Ct prog w)) h0:=⟨gl.inj,λ⟨a,e,_⟩=>⟨a,e⟩,λG Y J h=>o3 (by fin2) Y J (h _ (Gy _ _)),λG Y J U h=>eqT (by fin2) Y J U h,AZ,T1,SZ⟩
variable {K:Type}[Rg K]{is:K->Ac->Prop}{ay:K->Am}
theorem CO (M:v_ prog w is ay h0){k:K}{x:Ac}{ys:ah}{Q:As->Ag->Prop}(G:lm h0 s.heap)(B:is k x)(L:∀ y∈ys,∃ U,is U y)(h:Q false s):Ap (Au prog w) A (Zk x ys) Q E s:=by
 unfold Zk;refine Ad ?_;refine Io _ (λqI r C=>r.1=none/\C=s/\∀ v∈qI,∃ U,is U v) _ ?_ ?_ _ _ ⟨rfl,rfl,L⟩
 .rintro v qI r C ⟨O,rfl,J⟩
  obtain⟨U,hv⟩:=J v Cq;have Y:∀ u∈qI,∃ U,is U u:=λu N=>J u (Bt _ N);dsimp only;refine o8 (λ_=>Al ⟨rfl,rfl,Y⟩) λ_=>?_
  .refine Ad (M.quiet G B ?_)
   simp only[Js,Bo,Ds];refine Ad (M.quiet G hv ?_);simp only[Js,Bo,Ds];refine Ad (M.cls G B ?_);simp only[Bo,Ds];refine Ad (M.cls G hv ?_);simp only[Bo,Ds];exact Al ⟨rfl,rfl,Y⟩
 .rintro⟨I,T⟩ C ⟨O,rfl,_⟩
  simp only at O;subst O;exact Al h
theorem CN (M:v_ prog w is ay h0){k:K}{v:Ac}{Q:As->Ag->Prop}(Y:is k v)(h:Q true s):Ap (Au prog w) A (isSame v v) Q E s:=by
 obtain⟨a,rfl⟩:=M.ref Y;unfold isSame;simp only[EQ,Du];exact Al h
theorem JO (M:v_ prog w is ay h0){k:K}{x:Ac}{S:Af}{o:Ch}{es:Aw (Am × Ac)}{ep:Ah}{t:Fi}{seen:Aa K}(hu:A.units+8<Fo)(hS:lm h0 s.heap)(ho:s.heap.get? S=Ab o)(hd:o.data=.set es ep t)
  (T:ix t es) (Z:ft is ay es seen) (hx:is k x) (N:Ah) (c:oj t (st t.mask (ay k)) N)
  (U:(it t.mask N (st t.mask (ay k))).j ∉ t.place.toList) (zl:N<10*turns t.mask) {Q:SetFound->Ag->Prop}
  (h1:k∈seen->Q (.there none) s) (h2:k ∉ seen->Q (.free (it t.mask N (st t.mask (ay k))).j false) s) :
  ∀ (fuel n:Ah) (J:Ak Nx),J.getD (t.probeStart (ay k))=it t.mask n (st t.mask (ay k))->n<=N->N-n<fuel ->
   (∀ (m i:Ah) (e:Am × Ac),m<n->t.place[i]? = Ab (it t.mask m (st t.mask (ay k))).j->es[i]? = Ab e->¬ is k e.2) ->
   Ap (Au prog w) A (Sk S x (ay k) true fuel J) Q E s
 |0,n,J,_,_,hf,_=>by lia
 |fuel+1,n,J,zc,hn,hf,hq=>by
  unfold Sk;refine Ad (Fy ho hd T.fits ?_);dsimp only;rw[T.odd];simp only[Bo,Ds];rw[zc];generalize hg:t.probe _ (ay k) (it t.mask n (st t.mask (ay k)))=r;obtain⟨H,hH,hg⟩:∃ H:Ah->Am,(∀ i,H i=(es[i]?.map (·.1)).getD 0)/\t.probe H (ay k) (it t.mask n (st t.mask (ay k)))=r:=⟨_,λi=>rfl,hg⟩
  have Y:∀ m,it t.mask m (it t.mask n (st t.mask (ay k)))=it t.mask (n+m) (st t.mask (ay k)):=λm=>(mF _ _ _ _).symm;have gm:Meets t H (ay k) (it t.mask n (st t.mask (ay k))) (10*turns t.mask) r:=by
   rw[<- hg];refine kZ T.tb H _ _ _ (by rw[bX];rfl) ⟨N-n,by lia,?_⟩
   rw[Y,show n+(N-n)=N by lia]
   exact U
  have L:∀ j:Ah,(∀ m i:Ah,m<j->t.place[i]? = Ab (it t.mask m (it t.mask n (st t.mask (ay k)))).j->H i≠ay k) ->
    ∀ (m i:Ah) (e:Am × Ac),m<n+j->t.place[i]? = Ab (it t.mask m (st t.mask (ay k))).j->es[i]? = Ab e->¬ is k e.2:=λj qj m i e hm B z u=>by
   by_cases zb:m<n
   .exact hq m i e zb B z u
   .refine qj (m-n) i (by lia) (by rw[Y,show n+(m-n)=m by lia];exact B) ?_
    rw[hH,z];obtain⟨a,e1,e2⟩:=Z.good e (Cb (by rw[Ba];exact z))
    rw[M.inj u e2];simpa using e1
  cases gm with
  |emp j hj w' O q =>
   rw[Y] at O;have d:n+j=N:=by
    rcases Ny (n+j) N with h|h|h
    .exact absurd (c _ h) O
    .exact h
    .have:=w' (N-n) (by lia)
     rw[Y,show n+(N-n)=N by lia] at this
     exact absurd this U
   dsimp only;rw[Y,d];refine Al (h2 λu=>?_);obtain⟨e,b,v⟩:=(Z.mem k).mp u;obtain⟨i,hi,B⟩:=Cz.mp b;have G:es[i]? = Ab e:=by rw[<- Ba,Ar hi,B]
   obtain⟨m,w1,w2⟩:=T.way i e G;obtain⟨a,g1,p⟩:=Z.good e b;have:=M.inj v p;subst this;rw[g1] at w1 w2;have f:m<N:=by
    apply Fq;intro hc;by_cases f:m=N
    .subst f
     exact U (Cb (by rw[Ba];exact w1))
    .exact U (w2 N (by lia))
   exact L j q m i e (by lia) w1 G v
  |cand j i hj w' O hh q =>
   rw[Y] at O;have hi:i<es.size:=by
    rw[<- T.size];exact(Cs.mp O).1
   have B:es[i]? = Ab es[i]:=Dw hi;have d:n+j<N:=by
    rcases Ny (n+j) N with h|h|h
    .exact h
    .rw[h] at O
     exact absurd (Cb (by rw[Ba];exact O)) U
    .have:=w' (N-n) (by lia)
     rw[Y,show n+(N-n)=N by lia] at this
     exact absurd this U
   obtain⟨a,g1,p⟩:=Z.good es[i] (by simp)
   dsimp only;have C:Ap (Au prog w) A (do
     let Ab (_,y):=es[i]?|unsupported "internal:set-entry"
     let equal <- holding [y] (eqBool y x)
     let (lg,_,t') <- Xw S
     if true&&equal then return .there none
     let Ab same:=t'.sameMemory t.moves t.mask|unsupported "set.changed-during-lookup:is-the-new-block-at-the-old-address"
     let still <- match (if same then t'.slot (it t.mask j (it t.mask n (st t.mask (ay k)))).j else .empty) with
      |.live l=>match lg[l]? with
       |some (_,y')=>do pure (if <- isSame y' y then Ab l else none)
       |none=>pure none
      |_=>pure none
     match still with
     |none=>rule "set.search.anew";Sk S x (ay k) true fuel none
     |some l=>if equal then return .there (Ab l) else Sk S x (ay k) true fuel (Ab (it t.mask (j+1) (it t.mask n (st t.mask (ay k)))))) Q E s:=by
    rw[B];dsimp only;refine Ad (Ef (M.eq hu hS p hx ?_));refine Ad (Fy ho hd T.fits ?_);by_cases I:a=k
    .subst I
     simp only[Kb,Bool.and_self,Du];exact Al (h1 ((Z.mem a).mpr ⟨es[i],by simp,p⟩))
    .simp only[I,Kh,Ls,Bo,Ds]
     have hm:t.sameMemory t.moves t.mask=Ab true:=by simp[SetTable.sameMemory]
     rw[hm];dsimp only;rw[Y,lS T.tb O];simp only[Du,B];refine Ad (CN M p ?_);simp only[Du];refine Ad (Al ?_);dsimp only;refine JO M hu hS ho hd T Z hx N c U zl h1 h2 fuel (n+j+1) _ ?_ (by lia) (by lia) λm l e hm G z u=>?_
     .rw[Tp,Y]
      rfl
     .by_cases zs:m<n+j
      .exact L j q m l e zs G z u
      .have:m=n+j:=by lia
       subst this;have:=WE T.tb.rs G O;subst this;rw[B] at z;cases z;exact I (M.inj p u)
   refine o8 (λ_=>?_) λ_=>?_
   .refine Ad (CO M hS hx (λy hy=>?_) ?_)
    .obtain⟨e,b,rfl⟩:=Dj.mp hy
     have:e∈es.toList:=by
      have:=(Pb.mp b);exact Pb.mpr (Array.mem_filter.mp this).1
     obtain⟨k2,_,g⟩:=Z.good e this;exact⟨k2,g⟩
    .simp only[Bo,Ds]
     exact C
   .exact C
end
end _S
namespace _S
open PySem.SetTable (Probe leap runEnd turns bits)
@[reducible] noncomputable def js (es:Aw (Am × Ac))(Q:Ah)(t:Fi):Ch:={ cls:=.type "set",dict:=none,data:=.set es Q t }
theorem b0 {h:Bn}{S:Af}{es lg:Aw (Am × Ac)}{Q:Ah}{t t':Fi}(Y:h.get? S=Ab (js es Q t)):(h.update S (AaD lg t')).get? S=Ab (js lg (Q+1) t'):=Ek _ Y rfl
structure i_ {K:Type}(is:K->Ac->Prop)(hash:K->Am)(S:Af)(led:As)(V:ah)(seen:Aa K)(h:Bn):Prop where
 ex:∃ es ep t,h.get? S=Ab (js es ep t)/\ft is hash es seen/\ix t es/\t.led=led/\∀ e∈es.toList,e.2∈V
section
variable {prog:Be}{w:Br}{h0:Bn}{A:Bk}{E:ae}{s:Ag}{S:Af}{led:As}{V:ah}
theorem UN (a:Af)(Q:Ah):setRelay a Q=(do
  let (es,_,t) <- Xw a
  if Et Q>sizeLine then unsupported "set:memory"
  let (es,t) <- (do
   let Ab (t,qS):=t.relaid (es.map (·.1)) Q|unsupported "internal:set-table-without-room"
   let lg:=qS.filterMap (es[·]?)
   if lg.size != es.size then unsupported "internal:set-table-lost-an-element"
   pure (lg,t))
  storeSet a es t):=rfl
theorem AV {K:Type}[Rg K]{is:K->Ac->Prop}{J:K->Am}(M:v_ prog w is J h0){seen:Aa K}{k:K}{x:Ac}{Q:As->Ag->Prop}(hu:A.units+8<Fo)(hS:lm h0 s.heap)(Z:i_ is J S led V seen s.heap)(d:is k x)(hV:x∈V){U:Aa K}(hU:U.length<=1000)(z2:∀ k'∈seen,k'∈U)(zx:k∈U)
  (h:∀ (b:As) (h':Bn) (C:Ah),s.toks<=C->Gz S s.heap h'->i_ is J S led V (k::seen) h'->Q b { s with heap:=h',toks:=C }) : Ap (Au prog w) A (v6 S x) Q E s:=by
 obtain⟨G,ep,t,z,Z,T,hl,hm⟩:=Z;unfold v6;refine Ef (Ad (M.hsh hu hS d λC I=>?_));unfold setAddHashed setAddHashedIn;refine Ef (Ad (Fy (s:={ s with toks:=C }) z rfl T.fits ?_))
 dsimp only;have zs:byScan x G=false:=by
  obtain⟨a,rfl⟩:=M.ref d;rfl
 rw[zs];simp only[Bo,Ds];obtain⟨e,g,z1⟩:=T.gap;have first:∃ N,oj t (st t.mask (J k)) N/\(it t.mask N (st t.mask (J k))).j ∉ t.place.toList/\N<10*turns t.mask:=by
  obtain⟨N,hN,eN⟩:=r8 T.msk (J k) g;have gm:=kZ T.tb (λ_=>J k+1) (J k) (10*turns t.mask) (st t.mask (J k)) rfl ⟨N,hN,by rw[eN];exact z1⟩
  generalize Ll t _ _ _ _=r at gm;cases gm with
  |emp j hj w' e' q=>exact⟨j,w',e',hj⟩
  |cand j i hj w' e' hh q=>exact absurd hh (by lia)
 obtain⟨N,u,c,zy⟩:=first
 have z4:N<100000:=by
  have:turns t.mask<=2200:=by
   unfold turns;rcases T.msk with h|h|h|h|h <;> rw[h] <;> lia
  lia
 refine Ad (JO M (s:={ s with toks:=C }) hu hS z rfl T Z d N u c zy (λhk=>?_) (λhk=>?_) 100000 0 none rfl (by lia) (by lia) λm i e hm=>by lia)
 .exact Al (h _ s.heap _ I (Sg _ _) ⟨G,ep,t,z,Z.again hk,T,hl,hm⟩)
 .have z5:G.size<1000:=Az (Z.few z2 zx hk) hU
  dsimp only;refine Ad (Fy (s:={ s with toks:=C }) z rfl T.fits ?_)
  obtain⟨l,y,p3,p4⟩:=T.put (h:=J k) (x:=x) u c (KD _ _ _);generalize hj:(it t.mask N (st t.mask (J k))).j=j at *;have H:(t.put j).1.mask=t.mask:=rfl;have m2:(t.put j).1.plain=true:=T.plain;have m3:(t.put j).1.led=led:=hl;generalize hp:t.put j=tp at *;obtain⟨L,p⟩:=tp;dsimp only at l y p3 p4 H m2 m3 ⊢;rw[m2];simp only[Du];refine Ad (M.byV (s:={ s with toks:=C }) hS d ?_)
  simp only[Du,Wg,Bool.true_and];have Y:(Bv G p (J k,x)).size=G.size+1:=vE _ _ _;have O:G.size+1<=sizeLine:=by rw[Gq];lia
  refine Ad (Nz (s:={ s with toks:=C }) z rfl ?_ (by rw[Y];exact O))
  have Z1:ft is J (Bv G p (J k,x)) (k::seen):=by
   refine Z.push (λa b=>M.inj a b) d hk ?_;have:=Ip G p (J k,x);rw[Ec] at this;exact this
  have zc:∀ e∈(Bv G p (J k,x)).toList,e.2∈V:=λe g=>by
   have:=(Ip G p (J k,x)).mem_iff.mp g;rw[Ec] at this;rcases Bw.mp this with h1|h1
   .exact hm e h1
   .simp at h1;subst h1;exact hV
  have B:=b0 (lg:=Bv G p (J k,x)) (t':=L) z;have f:=Hj s.heap S (AaD (Bv G p (J k,x)) L);have zb:L.fits (Bv G p (J k,x)).size=true:=by
   have v:L.fill=G.size+1:=by unfold Mi;rw[l.dm,y,Y];rfl
   have h2:=T.few;unfold Xj;rw[v,y,Y,H];rcases T.msk with h|h|h|h|h <;> rw[h] at h2 ⊢ <;> simp <;> lia
  refine o8 (λo=>?_) λo=>?_
  .have zl:oy L.mask:=by rw[H];exact T.msk
   have v:((Bv G p (J k,x)).size-1)*5<L.mask*3:=by rw[Y,H];exact T.few
   obtain⟨q1,t2,qS,q2,q3,q4,q5,_⟩:=bH zl m2 y (by rw[Y];lia) (by simpa using o) l.dm v (by rw[Y];lia)
   rw[Y] at q1 q2;rw[UN];refine Ad ?_;refine Ad (Fy (s:={ s with heap:=_,toks:=C }) B rfl zb ?_)
   dsimp only;rw[Bb (by rw[Gq];lia)]
   refine Ad ?_;rw[q2];dsimp only;have n:(qS.filterMap λz3=>(Bv G p (J k,x))[z3]?).size=G.size+1:=by rw[<- Bi,q4.length_eq,Bi,Y]
   rw[Bb (by rw[n,Y];simp)]
   refine Al ?_;refine Nz (s:={ s with heap:=_,toks:=C }) B rfl ?_ (by rw[n];exact O)
   refine Al (h _ _ _ I (f.trans (Hj _ S _)) ⟨_,_,t2,b0 B,Z1.perm q4,q5,by rw[q3];exact m3,λe g=>zc e (q4.mem_iff.mp g)⟩)
  .refine Al (h _ _ _ I f ⟨_,_,L,B,Z1,⟨l,by rw[H];exact T.msk,y,by rw[H];exact p3,?_,by rw[H];exact p4,m2⟩,m3,zc⟩)
   have v:L.fill=G.size+1:=by unfold Mi;rw[l.dm,y,Y];rfl
   unfold Tu at o;rw[v] at o;rw[Y];simpa using o
end
end _S
namespace _S
open PySem.SetTable (Probe leap runEnd turns bits)
variable {seen:Aa Am}
def kz (prog:Be)(w:Br)(k:Am)(v:Ac):Prop:=(Ct prog w).is k v=true
section
variable {prog:Be}{w:Br}{A:Bk}{E:ae}{s:Ag}{S:Af}{led:As}{V:ah}
set_option tactic.hygienic true in
theorem wW {k:Am}{v:Ac}(h:kz prog w k v):∃ t,v=.int k t:=by
 cases v <;> first|(exact absurd h (by rintro⟨⟩)) | skip
 rename_i i t;refine⟨t,?_⟩;have:i=k:=(Ct prog w).inj (.int i t) i k (intKind_is _ _ _ _) h;rw[this]
theorem sR {es:Aw (Am × Ac)}(Z:ft (kz prog w) (Ct prog w).hash es seen):ElemsOf (Ct prog w) es.toList:=λe Y=>by
 obtain⟨k,J,Q⟩:=Z.good e Y;refine⟨⟨k,Q,J⟩,?_⟩;obtain⟨t,q⟩:=wW Q;rw[q];rfl
theorem AU {k:Am}{x:Ac}{Q:As->Ag->Prop}(Z:i_ (kz prog w) (Ct prog w).hash S led V seen s.heap)(d:kz prog w k x)(hV:x∈V){U:Aa Am}(hU:U.length<=1000)(z5:∀ k'∈seen,k'∈U)(zb:k∈U)
  (h:∀ (b:As) (h':Bn) (f:Ah),s.toks<=f->Gz S s.heap h'->i_ (kz prog w) (Ct prog w).hash S led V (k::seen) h'->Q b { s with heap:=h',toks:=f }) : Ap (Au prog w) A (v6 S x) Q E s:=by
 obtain⟨Y,ep,t,l,Z,T,hl,hm⟩:=Z;have g:x.scannable=true:=by
  obtain⟨f,q⟩:=wW d;rw[q];rfl
 have C:=T.fits;have hb:Y.size<scanBound:=by
  have h1:=T.few;have:scanBound=4096:=rfl;rcases T.msk with h|h|h|h|h <;> rw[h] at h1 <;> lia
 unfold v6;refine Ef (Ad ((Ct prog w).pyHash (k:=k) d ?_));unfold setAddHashed setAddHashedIn;refine Ef (Ad (Fy (s:={ s with toks:=s.toks+1 }) l rfl C ?_))
 dsimp only;rw[byScan_of g hb (sR Z)];simp only[Du];unfold setAddByScan;refine Ad (Ad (Gw (Ad (wpAny_setScan_of (s:={ s with toks:=s.toks+1 }) d l rfl C (sR Z) ?_))))
 cases hr:Y.toList.findIdx? (λe=>(Ct prog w).is k e.2) with
 |some j =>
  dsimp only;obtain⟨m,z4,_⟩:=List.findIdx?_eq_some_iff_getElem.mp hr;have z:k∈seen:=(Z.mem k).mpr ⟨Y.toList[j],Jy m,z4⟩;exact Al (Al (h _ s.heap _ (Gy _ _) (Sg _ _) ⟨Y,ep,t,l,Z.again z,T,hl,hm⟩))
 |none =>
  dsimp only;have z:k ∉ seen:=λz=>by
   obtain⟨e,L,q⟩:=(Z.mem k).mp z;have:=List.findIdx?_eq_none_iff.mp hr e L;rw[show (Ct prog w).is k e.2=true from q] at this
   cases this
  have z6:Y.size<1000:=Az (Z.few z5 zb z) hU;obtain⟨e,L,zl⟩:=T.gap;have first:∃ N,oj t (st t.mask ((Ct prog w).hash k)) N/\(it t.mask N (st t.mask ((Ct prog w).hash k))).j ∉ t.place.toList/\t.freeSlot ((Ct prog w).hash k)=Ab ((it t.mask N (st t.mask ((Ct prog w).hash k))).j,false):=by
   obtain⟨N,hN,eN⟩:=r8 T.msk ((Ct prog w).hash k) L;have gm:=kZ T.tb (λ_=>(Ct prog w).hash k+1) ((Ct prog w).hash k) (10*turns t.mask) (st t.mask ((Ct prog w).hash k)) rfl ⟨N,hN,by rw[eN];exact zl⟩
   unfold SetTable.freeSlot SetTable.probe;rw[CU];generalize Ll t _ _ _ _=r at gm;cases gm with
   |emp j m w' e' q=>exact⟨j,w',e',rfl⟩
   |cand j i m w' e' hh q=>exact absurd hh (by lia)
  obtain⟨N,zy,z2,zc⟩:=first
  obtain⟨c,M,p3,p4⟩:=T.put (h:=(Ct prog w).hash k) (x:=x) zy z2 (KD _ _ _);generalize m:(it t.mask N (st t.mask ((Ct prog w).hash k))).j=j at *;have H:(t.put j).1.mask=t.mask:=rfl;have n:(t.put j).1.plain=true:=T.plain;have m3:(t.put j).1.led=led:=hl;generalize hp:t.put j=tp at *;obtain⟨O,p⟩:=tp;dsimp only at c M p3 p4 H n m3 ⊢;have J:(Bv Y p ((Ct prog w).hash k,x)).size=Y.size+1:=vE _ _ _;have o:O.fits (Bv Y p ((Ct prog w).hash k,x)).size=true:=by
   have y:O.fill=Y.size+1:=by unfold Mi;rw[c.dm,M,J];rfl
   have h2:=T.few;unfold Xj;rw[y,M,J,H];rcases T.msk with h|h|h|h|h <;> rw[h] at h2 ⊢ <;> simp <;> lia
  have zx:layNew t Y ((Ct prog w).hash k) x=(Bv Y p ((Ct prog w).hash k,x),O,false,false):=by
   unfold layNew;rw[zc];dsimp only;rw[hp];dsimp only;unfold SetTable.orStandIn;rw[o];rfl
  rw[zx];dsimp only;refine Ad (Al (a:=()) ?_);have z1:Ot 8 x=pure true:=by
   rw[hashByValue_scannable 8 g];obtain⟨f,q⟩:=wW d;subst q;rfl
  rw[z1,ite_self];refine Ad (Al ?_);simp only[Du];have G:Y.size+1<=sizeLine:=by rw[Gq];lia
  refine Ad (Nz (s:={ s with toks:=s.toks+1 }) l rfl ?_ (by rw[J];exact G))
  have pm:(Bv Y p ((Ct prog w).hash k,x)).toList.Perm (Y.toList++[((Ct prog w).hash k,x)]):=by
   have:=Ip Y p ((Ct prog w).hash k,x);rw[Ec] at this;exact this
  have Z1:ft (kz prog w) (Ct prog w).hash (Bv Y p ((Ct prog w).hash k,x)) (k::seen):=Z.push (λa b=>(Ct prog w).inj _ _ _ a b) d z pm;have v:∀ e∈(Bv Y p ((Ct prog w).hash k,x)).toList,e.2∈V:=λe L=>by
   rcases Bw.mp (pm.mem_iff.mp L) with h1|h1
   .exact hm e h1
   .simp at h1;subst h1;exact hV
  have I:=b0 (lg:=Bv Y p ((Ct prog w).hash k,x)) (t':=O) l;have u:=Hj s.heap S (AaD (Bv Y p ((Ct prog w).hash k,x)) O);refine o8 (λC=>?_) λC=>?_
  .have zs:oy O.mask:=by rw[H];exact T.msk
   have y:((Bv Y p ((Ct prog w).hash k,x)).size-1)*5<O.mask*3:=by rw[J,H];exact T.few
   obtain⟨q1,t2,qS,q2,q3,q4,q5,q6⟩:=bH zs n M (by rw[J];lia) (by simpa using C) c.dm y (by rw[J];lia)
   have z3:(qS.filterMap λB=>(Bv Y p ((Ct prog w).hash k,x))[B]?).size=Y.size+1:=by rw[<- Bi,q4.length_eq,Bi,J]
   have rl:relayAll O (Bv Y p ((Ct prog w).hash k,x)) (Hd (Bv Y p ((Ct prog w).hash k,x)).size)=(qS.filterMap λB=>(Bv Y p ((Ct prog w).hash k,x))[B]?,t2,false):=by
    unfold relayAll;rw[q2];dsimp only;have c1:coversAll qS (Bv Y p ((Ct prog w).hash k,x)).size=true:=by
     unfold coversAll;exact List.isPerm_iff.mpr q6
    rw[c1,q5.fits];rfl
   rw[rl];dsimp only;refine Ad (Al (a:=()) ?_);refine Ad (Nz (s:={ s with heap:=_,toks:=s.toks+1 }) I rfl ?_ (by rw[z3];exact G))
   exact Al (Al (h _ _ _ (Gy _ _) (u.trans (Hj _ S _)) ⟨_,_,t2,b0 I,Z1.perm q4,q5,by rw[q3];exact m3,λe L=>v e (q4.mem_iff.mp L)⟩))
  .refine Al (Al (h _ _ _ (Gy _ _) u ⟨_,_,O,I,Z1,⟨c,by rw[H];exact T.msk,M,by rw[H];exact p3,?_,by rw[H];exact p4,n⟩,m3,v⟩))
   have y:O.fill=Y.size+1:=by unfold Mi;rw[c.dm,M,J];rfl
   unfold Tu at C;rw[y] at C;rw[J];simpa using C
end
end _S
namespace _S
variable {Q:ae}{i:Ah}
structure pq (prog:Be)(w:Br){K:Type}(is:K->Ac->Prop)(hash:K->Am)(h0:Bn):Prop where
 add:∀ {A:Bk} {E:ae} {s:Ag} {S:Af} {led:As} {V:ah} {seen U:Aa K} {k:K} {x:Ac} {Q:As->Ag->Prop},A.units+8<Fo->lm h0 s.heap->i_ is hash S led V seen s.heap->is k x->x∈V->U.length<=1000->(∀ k'∈seen,k'∈U)->k∈U ->
  (∀ (b:As) (h':Bn) (tk:Ah),s.toks<=tk->Gz S s.heap h'->i_ is hash S led V (k::seen) h'->Q b { s with heap:=h',toks:=tk }) -> Ap (Au prog w) A (v6 S x) Q E s
theorem MM {prog:Be}{w:Br}(h0:Bn):pq prog w (gl prog w h0) (TW (Ct prog w)) h0:=⟨λU Y Z O J C G N h=>AV IP U Y Z O J C G N h⟩
theorem MK {prog:Be}{w:Br}(h0:Bn):pq prog w (kz prog w) (Ct prog w).hash h0:=⟨λ_ _ Z G Y N J U h=>AU Z G Y N J U h⟩
noncomputable def vC {K:Type}(Y:Ah->K):Ah->Aa K
 |0=>[]
 |i+1=>Y i::vC Y i
theorem j6 {K:Type}{Y:Ah->K}{k:K}:∀ {n:Ah},k∈vC Y n↔∃ i,i<n/\Y i=k
 |0=>by simp[vC]
 |n+1=>by
  rw[vC,AT,j6];constructor
  .rintro (rfl|⟨i,h,e⟩)
   .exact⟨n,by lia,rfl⟩
   .exact⟨i,by lia,e⟩
  .rintro⟨i,h,e⟩
   by_cases J:i=n
   .subst J;exact .inl e.symm
   .exact .inr ⟨i,by lia,e⟩
section
variable {prog:Be}{w:Br}{A:Bk}{R:Xv->Ag->Prop}{I:Af}{fp wr:ag}{G:Aw Xt->Aw Xt->Prop}{n:Ah}{P:Ah->Ac->Prop}{St:Ah->Ag->Prop}
variable {K:Type}{is:K->Ac->Prop}{ay:K->Am}{h0:Bn}{led:As}{V:ah}{U:Aa K}
theorem i_.sup {S:Af}{seen:Aa K}{h h':Bn}(Z:i_ is ay S led V seen h)(e:∀ o,h.get? S=Ab o->h'.get? S=Ab o):i_ is ay S led V seen h':=by
 obtain⟨J,N,t,Y,r⟩:=Z;exact⟨J,N,t,e _ Y,r⟩
theorem FT (a:pq prog w is ay h0)(W:WalksS prog w A.in1 I fp wr G n P St)(S:Af)(u:S ∉ fp)(hu:A.in1.units+8<Fo)(Y:Ah->K)(T:∀ i v,P i v->is (Y i) v/\v∈V)(hU:U.length<=1000)(z:∀ i,i<n->Y i∈U)
  (g:h0.get? S=none) (f:∀ b∈wr,h0.get? b=none):∀ (k i:Ah) (s:Ag),n-i=k->i<=n->St i s->lm h0 s.heap->i_ is ay S led V (vC Y i) s.heap ->
   (∀ s',Moved (S::wr) G s s'->i_ is ay S led V (vC Y n) s'.heap->R (.ok (.ret .none)) s')->Ja (Au prog w) A (.builtin "set.update.loop" ⟨[.ref S,.ref I],[]⟩) R s:=by
 have y:S ∉ wr:=λh=>u (W.sub _ h);have J:∀ b∈wr,b∈S::wr:=λb C=>Bt _ C;intro k
 induction k with
 |zero =>
  intro i s hk m O t Z l;have r:i=n:=by lia
  subst r;refine Jm Mu ?_;rw[Jt Ir _];show Ap _ A.in1 (Py (.ref I) >>= _) _ _ s;refine Ad (W.done s _ _ O λs' L=>?_);exact Al (l s' (L.mono J) (Z.sup λo e=>L.heap S _ y e))
 |succ k ih =>
  intro i s hk m O t Z l;have B:i<n:=by lia
  refine Jm Mu ?_;rw[Jt Ir _];show Ap _ A.in1 (Py (.ref I) >>= _) _ _ s;refine Ad (W.item i s _ _ B O λv s' hP M L=>?_);obtain⟨x,q2⟩:=T i v hP;have H:lm h0 s'.heap:=λb o e=>L.heap b o (λC=>by rw[f b C] at e;cases e) (t b o e)
  show Ap _ A.in1 (holding [v] (v6 S v) >>= _) _ _ s';refine Ad (Ef (a.add hu H (Z.sup λo e=>L.heap S _ y e) x q2 hU (λk' c=>?_) (z i B) λb h' tk q N Z'=>?_))
  .obtain⟨j,hj,e⟩:=j6.mp c
   exact e▸z j (by lia)
  .refine Al ⟨Sl Ir _,ih (i+1) _ (by lia) B (W.frame _ s' _ _ M q λb C o e=>?_) (λb o e=>?_) Z' λp E d=>?_⟩
   .rw[N.2 b (λh:b=S=>u (by rw[<- h];exact C))];exact e
   .rw[N.2 b (λh:b=S=>by rw[h,g] at e;cases e)];exact H b o e
   .refine l p (Moved.trans W.gtrans ((L.mono J).then_heap q λb o C e=>?_) E) d
    rw[N.2 b (λh:b=S=>C (by rw[h];exact Cq))];exact e
end
section
variable {prog:Be}{w:Br}{A:Bk}{E:ae}{s:Ag}
noncomputable def yN (w:Br):As:=!w.params.followText "set-order"
@[reducible] def ky (w:Br):Ch:=js #[] 0 (.fresh 0 0 (yN w))
theorem eZ (a:Ac){Q₁:ae}(h:Q₁ (.ref s.heap.objs.size) { s with heap:=s.heap.push (ky w) }) : Ja (Au prog w) A (.call (.builtin "set.__new__") ⟨[.type "set",a],[]⟩) (wants Q₁ E) s:=by
 refine Uv ?_;show Ap _ A.in1 (do To "set.__new__" ⟨[.type "set",a],[]⟩;again (.builtin "set.__new__" ⟨[.type "set",a],[]⟩)) _ _ s
 refine Ad (Rl (PySem.F.newCall_set_1 a) (Al ⟨Sl Vq _,Jm PySem.F.entry_set_new ?_⟩));rw[Jt Vq _];unfold Jo.«set.__new__» AaN;have Y:=PySem.sub_set_self;obtain⟨U,g,d,J,os⟩:=s;dsimp only
 wp_walk
 refine Jz (Al ?_);dsimp only;simp only[newObj];exact Ad (wpAny_alloc (Al (Al h)))
theorem WR (w:Br):ix (.fresh 0 0 (yN w)) #[]:=⟨⟨by unfold Rs;exact Nu,rfl⟩,.inl rfl,rfl,λx Y=>(by cases Y),(show 0*5<7*3 by decide),λi e h=>(by simp at h),rfl⟩
variable {K:Type}{is:K->Ac->Prop}{ay:K->Am}{U:Aa K}
theorem iN (a:pq prog w is ay s.heap){l:Af}{items:Aw Ac}{Q:ae}(hh:A.handled=none)(hu:A.units+16<Fo)(hl:s.heap.IsList l items\/s.heap.IsTuple l items)(J:Ah->K)(p:∀ i v,items[i]? = Ab v->is (J i) v)(hU:U.length<=1000)(zl:∀ i,i<items.size->J i∈U)
  (h:∀ (h':Bn) (t:Ah),i_ is ay s.heap.objs.size (yN w) items.toList (vC J items.size) h'->(∀ b o,s.heap.get? b=Ab o->h'.get? b=Ab o)->Q (.ref s.heap.objs.size) { s with heap:=h',toks:=t }) :
  Ap (Au prog w) A (call (.type "set") [.ref l]) Q E s:=by
 obtain⟨c,tl,z1⟩:=Gu.mro;have zb:=Gu.made;have z2:=Gu.sub;refine Tl (Uv ?_);show Ap _ _ (callAny (.type "set") _) _ _ _;refine Al ⟨Ye _ (by decide +kernel),Jm PySem.F.entry_type_call ?_⟩
 rw[Around.under_plain (weight_type_call_type "set" [.ref l] []) rfl];have h1:=Gu.notType;have h2:=Gu.canCreate;have z3:=PySem.F.typeCall_set_1 (.ref l)
 repeat (any_goals (first|assumption|wp_step))
 refine Nk (eZ (.ref l) (E:=E) (Q₁:=λg L=>g=.ref s.heap.objs.size/\L={ s with heap:=s.heap.push (ky w) }) ⟨rfl,rfl⟩) λr L n=>?_
 cases r with
 |error e=>exact n
 |ok fl =>
  cases fl with
  |ret g =>
   obtain⟨rfl,rfl⟩:=n;have hS:(s.heap.push (ky w)).get? s.heap.objs.size=Ab (ky w):=Bj _ rfl;have hT:Xk { s with heap:=s.heap.push (ky w) } (.ref s.heap.objs.size) "set":=⟨_,hS,rfl⟩
   have z5:=Gu.init.lookup;have z4:=Gu.init.bind (.ref s.heap.objs.size)
   repeat (any_goals (first|assumption|wp_step))
   refine Nk (Pd (R:=wants (λr B=>r=.none/\∃ h' t,B={ s with heap:=h',toks:=t } /\ i_ is ay s.heap.objs.size (yN w) items.toList (vC J items.size) h'/\∀ b o,s.heap.get? b=Ab o->h'.get? b=Ab o) E) Gu.init.plain PySem.F.entry_set_init (check_set_init_1 hT ?_)) λq B Y=>?_
   .have y:l<s.heap.objs.size:=by rcases hl with⟨_,e,_⟩|⟨_,e,_⟩ <;> exact Bh e
    have C:l≠(s.heap.push (ky w)).objs.size:=by
     rw[Ew];exact Cp (Zl y)
    have nS:s.heap.get? s.heap.objs.size=none:=Oy (Av _);have nI:s.heap.get? (s.heap.push (ky w)).objs.size=none:=Oy (by rw[Ew];exact Vp _)
    rcases hl with⟨⟨u,T,z,G⟩,d,H,nl,j⟩|⟨⟨u,T,z,G⟩,d,H,nl,j⟩
    all_goals
     simp only at H j;subst H;subst j;have O:=Aj (ky w) d
    case' inl =>
     have k:=PySem.F.sub_list_set;have f:=PySem.F.sub_list_frozenset;have zx:(Ji "list" == Ji "dict")=false:=by decide
     have N:(s.heap.push (ky w)).IsList l items:=⟨_,O,rfl,nl,rfl⟩
    case' inr =>
     have k:=PySem.F.sub_tuple_set;have f:=PySem.F.sub_tuple_frozenset;have zx:(Ji "tuple" == Ji "dict")=false:=by decide
     have N:(s.heap.push (ky w)).IsTuple l items:=⟨_,O,rfl,nl,rfl⟩
    all_goals
     unfold Jo.«set.__init__» noKeywords AaE;generalize zc:Ri=PI
     wp_walk
     subst zc
     first
      |(refine Ia N ?_;have W:=(Walks.list (prog:=prog) (w:=w) (A:=A.in1.in1.in1) (by simp[hh]) _ l C items).toS)
      |(refine Jb N ?_;have W:=(Walks.tuple (prog:=prog) (w:=w) (A:=A.in1.in1.in1) (by simp[hh]) _ l C items).toS)
     refine Ad (wpAny_runValue ?_);refine FT (led:=yN w) (V:=items.toList) a W s.heap.objs.size ?_ (by show A.units+3+8<Fo;lia) J (λi v hv=>⟨p i v hv,?_⟩) hU zl nS (λb hb=>?_) (items.size-0) 0 _ (by lia) (Hc _)
      ⟨⟨_,Bj _ rfl,rfl,rfl⟩,N.push _⟩ (λb o e=>Aj _ (Aj _ e)) ?_ λs' m M=>?_
     .rw[Ew];simp only[AT,Cu,Dp,Hk,not_or]
      exact⟨Cp (Ka _),Hn y⟩
     .exact Cb (by rw[Ba];exact hv)
     .rw[Cu.mp hb];exact nI
     .exact⟨#[],0,_,Aj _ hS,ft.nil,WR w,rfl,λe he=>by simp at he⟩
     .obtain⟨h',g',d',x,zy⟩:=s'
      have eg:g'=s.gens:=m.gens;have ed:d'=s.drawn:=m.drawn;have eo:zy=s.os:=m.os;subst eg;subst ed;subst eo;refine Al (Al ⟨rfl,h',x,rfl,M,λb o e=>?_⟩);refine m.heap b o (λhb=>?_) (Aj _ (Aj _ e));rcases AT.mp hb with rfl|hb
      .rw[nS] at e;cases e
      .rw[Cu.mp hb,nI] at e;cases e
   .cases q with
    |error e=>exact Y
    |ok I =>
     cases I with
     |ret r =>
      obtain⟨rfl,h',t,rfl,M,zs⟩:=Y
      repeat (any_goals (first|assumption|wp_step))
      exact h _ _ M zs
     |_=>exact Y.elim
  |_=>exact n.elim
end
theorem fV {α:Type}:∀ {l:Aa α} {i:Ah} (h:i<l.length),(l[i]::l.eraseIdx i).Perm l
 |a::l,0,h=>by simp
 |a::l,i+1,h=>by
  rw[List.eraseIdx_cons_succ,List.getElem_cons_succ];exact(List.Perm.swap _ _ _).trans ((fV (l:=l) (i:=i) (by simpa using h)).cons a)
theorem lM {α:Type}(next:Ah->Ah):∀ (fuel k:Ah) (left:Aa α) (Y:Aw α),left.length=fuel->(Yp next fuel k left Y).toList.Perm (Y.toList++left)
 |0,k,left,Y,h=>by
  have:left=[]:=Po h;subst this;unfold Yp;simp
 |fuel+1,k,left,Y,h=>by
  unfold Yp;have J:next k % left.length<left.length:=Qk _ (by fin2)
  rw[Ar J];dsimp only;refine(lM next fuel (k+1) _ _ (by rw[List.length_eraseIdx,Ax J];fin2)).trans ?_
  rw[Ec,Cj];refine Jg _ ?_;exact fV J
theorem nH {α:Type}(next:Ah->Ah)(xs:Aw α) : (Pp next xs).toList.Perm xs.toList:=by
 have:=lM next xs.size 0 xs.toList #[] (by simp)
 simpa [Pp] using this
theorem yE:Slot "set_iterator" "__next__" "set_iterator.__next__":=
 .of (owner:="set_iterator") (n:="__next__") (by rw[typeLookup_type,Vr];kernel_rfl) (by decide +kernel) (by decide +kernel) (by decide +kernel) (.inl (by decide +kernel)) (by rw[Wh];kernel_rfl)
theorem fU:entryFor table "set_iterator.__next__" = Ab Jo.«set_iterator.__next__»:=entryFor_of_fast (by kernel_rfl)
theorem nV (a:Ac):argsOk "set_iterator.__next__" ⟨[a],[]⟩:=by unfold argsOk;kernel_rfl
theorem lT:Slot "set_iterator" "__iter__" "set_iterator.__iter__":=
 .of (owner:="set_iterator") (n:="__iter__") (by rw[typeLookup_type,Vr];kernel_rfl) (by decide +kernel) (by decide +kernel) (by decide +kernel) (.inl (by decide +kernel)) (by rw[Wh];kernel_rfl)
theorem iV:entryFor table "set_iterator.__iter__" = Ab Jo.«dict_keyiterator.__iter__»:=entryFor_alias (id':="dict_keyiterator.__iter__") (by kernel_rfl) rfl (by decide +kernel) (by kernel_rfl)
theorem QH (a:Ac):argsOk "set_iterator.__iter__" ⟨[a],[]⟩:=by unfold argsOk;kernel_rfl
theorem iU:entryFor table "set.__iter__" = Ab Jo.«frozenset.__iter__»:=entryFor_alias (id':="frozenset.__iter__") (by kernel_rfl) rfl (by decide +kernel) (by kernel_rfl)
theorem BD (a:Af)(slot given Y:Ah):setNext a slot given Y=(do
  let (es,epoch,t) <- Xw a
  if <- setsByText then
   if epoch != Y then unsupported "set_iterator.__next__:elements-changed"
   return ((<- setWalk a)[given]?).map λe=>(e.2,slot)
  if !t.plain&&es.size>1 then unsupported "set_iterator.__next__:the-table-is-plain-no-more"
  (do if !t.led&&!es.isEmpty then unsupported "set:maker-not-led")
  return match es[Cd t.place slot]?,t.place[Cd t.place slot]? with
   |some (_,x),Ab j=>Ab (x,j+1)
   |_,_=>none):=rfl
theorem M5 (a:Af):setWalk a=(do
  let (es,epoch,t) <- Xw a
  if <- setsByText then return Pp ((<- ask).params.setOrder a epoch) es
  if !t.plain&&es.size>1 then return (<- drawOrder es.size es.toList).toArray
  (do if !t.led&&es.size>1 then unsupported "set:maker-not-led")
  return es):=rfl
theorem YT (a:Af):setDrawn a=(do
  let (es,_,t) <- Xw a
  let byText <- setsByText
  return !byText&&(!t.plain&&es.size>1)):=rfl
structure ko (w:Br)(S:Af)(es:Aw (Am × Ac))(ep:Ah)(t:Fi):Prop where
 tab:ix t es
 led:t.led=yN w
def qS (w:Br)(S:Af)(Y:Ah)(es:Aw (Am × Ac)):Aw (Am × Ac):=if w.params.followText "set-order" = true then Pp (w.params.setOrder S Y) es else es
theorem mP (w:Br)(S:Af)(Y:Ah)(es:Aw (Am × Ac)):(qS w S Y es).toList.Perm es.toList:=by
 unfold qS
 split
 .exact nH _ _
 .exact Nt _
theorem vX (w:Br)(S:Af)(Y:Ah)(es:Aw (Am × Ac)):(qS w S Y es).size=es.size:=by
 rw[<- Bi,(mP w S Y es).length_eq,Bi]
noncomputable def sj (slot i:Ah)(S:Af)(n Y:Ah):Ch:={ cls:=.type "set_iterator",data:=.fields #[.int slot 0,.int i 0,.ref S,.int n 0,.int Y 0] }
def At (w:Br)(I S:Af)(es:Aw (Am × Ac))(Y:Ah)(t:Fi)(i:Ah)(h:Bn):Prop:=
 ∃ slot,h.get? I=Ab (sj slot i S es.size Y)/\h.get? S=Ab (js es Y t)/\(w.params.followText "set-order" = true\/Cd t.place slot=i)
section
variable {prog:Be}{w:Br}{A:Bk}{E:ae}{s:Ag}{S I:Af}{es:Aw (Am × Ac)}{ep:Ah}{t:Fi}
theorem oU {slot:Ah}{Q:Ak (Ac × Ah)->Ag->Prop}(Z:ko w S es ep t)(O:s.heap.get? S=Ab (js es ep t))(hs:w.params.followText "set-order" = true\/Cd t.place slot=i)
  (h1:∀ e Y,(qS w S ep es)[i]? = Ab e->(w.params.followText "set-order" = true\/Cd t.place Y=i+1)->Q (Ab (e.2,Y)) s) (h2:(qS w S ep es)[i]? = none->Q none s):Ap (Au prog w) A (setNext S slot i ep) Q E s:=by
 rw[BD];refine Ad (Fy O rfl Z.tab.fits ?_);dsimp only;refine Ad (Ad (Jz (Al ?_)));cases J:w.params.followText "set-order" with
 |true =>
  show Ap _ _ (if (w.params.followText "set-order")=true then _ else _) _ _ _
  rw[Ax J];have N:(ep != ep)=false:=by simp
  rw[N];simp only[Bo,Ds];refine Ad ?_;rw[M5];refine Ad (Fy O rfl Z.tab.fits ?_);dsimp only;refine Ad (Ad (Jz (Al ?_)));show Ap _ _ (if (w.params.followText "set-order")=true then _ else _) _ _ _
  rw[Ax J];refine Ad (Jz (Al (Al ?_)));show Q (((Pp (w.params.setOrder S ep) es)[i]?).map λe=>(e.2,slot)) s;have U:qS w S ep es=Pp (w.params.setOrder S ep) es:=by unfold qS;rw[Ax J]
  rw[U] at h1 h2;cases G:(Pp (w.params.setOrder S ep) es)[i]? with
  |none=>exact h2 G
  |some e=>exact h1 e slot G (.inl J)
 |false =>
  show Ap _ _ (if (w.params.followText "set-order")=true then _ else _) _ _ _
  rw[Bb (by rw[J];decide),Z.tab.plain,Z.led]
  unfold yN;rw[J];simp only[Js,Hx,Bo,Ds,Wg];have N:Cd t.place slot=i:=by
   rcases hs with h|h
   .rw[J] at h;cases h
   .exact h
  rw[N];have U:qS w S ep es=es:=by unfold qS;rw[Bb (by rw[J];decide)]
  rw[U] at h1 h2;refine Al ?_;cases G:es[i]? with
  |none=>exact h2 G
  |some e =>
   have B:i<t.place.size:=by rw[Z.tab.size];exact(Cs.mp G).1
   have C:t.place[i]? = Ab t.place[i]:=Dw B;rw[C];exact h1 e _ G (.inr (iL Z.tab.tb.rs C))
theorem At.type (h:At w I S es ep t i s.heap):s.TypeIs (.ref I) "set_iterator":=by
 obtain⟨slot,h,_⟩:=h;exact⟨_,h,rfl⟩
theorem lK (Z:ko w S es ep t)(B:At w I S es ep t i s.heap)
  (h1:∀ e Y slot,(qS w S ep es)[i]? = Ab e->s.heap.get? I=Ab (sj slot i S es.size ep)->s.heap.get? S=Ab (js es ep t)->(w.params.followText "set-order" = true\/Cd t.place Y=i+1) ->
   Q e.2 { s with heap:=(s.heap.update I (Kw (·.setIfInBounds 0 (Ly Y)))).update I (Kw (·.setIfInBounds 1 (Ly ((i:Am)+1)))) })
  (h2:(qS w S ep es)[i]? = none->Ap (Au prog w) A (do setField (.ref I) 2 .none;raiseNew (<- newExc (.type "StopIteration") [])) (λ(fin:PySem.Fin) s'=>∃ r,fin=.done (.ret r)/\Q r s') E s) :
  Ap (Au prog w) A (Jo.«set_iterator.__next__» ⟨[.ref I],[]⟩) (λfin s'=>∃ r,fin=.done (.ret r)/\Q r s') E s:=by
 obtain⟨slot,J,O,L⟩:=B;show Ap _ _ (fieldsOf (.ref I) >>= _) _ _ s;refine Ad (wpAny_fieldsOf J rfl ?_);show Ap _ _ (setEntries S >>= _) _ _ s;refine Ad (Xl O rfl Z.tab.fits ?_);have N:(((es.size:Ah):Am) != ((es.size:Ah):Am))=false:=by simp
 rw[N];simp only[Bo,Ds];show Ap _ _ (setNext S (slot:Am).toNat (i:Am).toNat (ep:Am).toNat >>= _) _ _ s;rw[Fd,Fd,Fd];refine Ad (oU Z O L (λe Y U G=>?_) λU=>?_)
 .dsimp only
  refine Ad (Ix J rfl (by show 0<5;decide) ?_)
  have C:=Ek (Kw (·.setIfInBounds 0 (Ly Y))) J rfl
  refine Ad (Ix C rfl (by show 1<5;decide) ?_)
  exact Al ⟨_,rfl,h1 e Y slot U J O G⟩
 .exact h2 U
theorem M4 (H:A.handled=none)(N:S≠I)(Z:ko w S es ep t):Walks prog w A I [I,S] [I] es.size (λi v=>∃ e,(qS w S ep es)[i]? = Ab e/\e.2=v) (λi h=>At w I S es ep t i h) where
 sub:=λb Y=>by simp at Y;simp[Y]
 frame:=λi h k ⟨slot,j,M,L⟩ B=>⟨slot,B I (by simp) _ j,B S (by simp) _ M,L⟩
 item:=λi s Q E y st G=>by
  unfold Py;refine Ad (Kx (El (name:=Ga "__next__") st.type yE (Eo yE st.type fU (lK Z st (λe J slot U O C Y=>?_) λU=>?_) (nV _))))
  .refine Al (G e.2 _ s.toks ⟨e,U,rfl⟩ ⟨J,?_,?_,Y⟩ λb o Y e=>?_)
   .exact Ek _ (Ek _ O rfl) rfl
   .rw[Df _ _ N.symm,Df _ _ N.symm];exact C
   .have Y:I≠b:=λz=>Y (by simp[z])
    rw[Df _ _ Y,Df _ _ Y];exact e
  .have:=Array.getElem?_eq_none_iff.mp U
   rw[vX] at this;fin2
 done:=λs Q E st G=>by
  unfold Py;refine Ad (Kx (El (name:=Ga "__next__") st.type yE (Eo yE st.type fU (lK Z st (λe J slot U O C Y=>?_) λU=>?_) (nV _))))
  .have:=(Cs.mp U).1
   rw[vX] at this;fin2
  .obtain⟨slot,O,C,Y⟩:=st
   refine Ad (Ix O rfl (by show 2<5;decide) ?_)
   refine Ad ?_;simp only[newExc,newTuple];refine Ad (Dm ?_ (by size_fits))
   refine Ad (m:=Qq _ _) (Rl (a:=De) (by first|rfl|(simp only[Qq];rfl)) ?_)
   refine Dm ?_ (by size_fits)
   simp only[raiseNew];refine Ad (wpAny_handled ?_);rw[show A.in1.handled=none from H]
   refine Ad (Al (wpAny_throw ?_));refine Ad (Tt (T:="StopIteration") (b:=true) ⟨_,Bj _ rfl,rfl⟩ isSubtype_stop ?_);refine Al (G _ s.toks λb o Y e=>?_);exact(((Hj ..).extBut.push _).push _) b o (λz=>Y (by simp[z])) e
 self:=λi s Q E st G=>by
  refine Zm st.type lT (Eo lT st.type iV ?_ (QH _));show Ap _ _ (ret (.ref I)) _ _ s;exact Al ⟨_,rfl,"set_iterator",_,st.type,yE.lookup,G⟩
theorem VF (Z:ko w S es ep t)(Y:s.heap.get? S=Ab (js es ep t))(h:Q (.ref s.heap.objs.size) { s with heap:=s.heap.push (sj 0 0 S es.size ep) }) : Ap (Au prog w) A (Ri (.ref S)) Q E s:=by
 have J:s.TypeIs (.ref S) "set":=⟨_,Y,rfl⟩;refine Zm J Vs (Eo Vs J iU ?_ (PySem.F.args_set_iter_1 _));show Ap _ _ (Te S >>= _) _ _ s;unfold Te;refine Ad (Ad (Xl Y rfl Z.tab.fits (Al ?_)));refine Ad ?_;rw[YT];refine Ad (Fy Y rfl Z.tab.fits ?_);dsimp only;refine Ad (Ad (Jz (Al (Al ?_))));rw[Z.tab.plain];simp only[Js,Hx,Ls,Bo,Ds];refine Ad (Al ?_);unfold setEpoch;refine Ad (Ad (Fy Y rfl Z.tab.fits (Al ?_)));refine Ad (Dm (Al ⟨_,rfl,"set_iterator",_,⟨_,Bj _ rfl,rfl⟩,yE.lookup,h⟩))
theorem KQ (Z:ko w S es ep t)(Y:s.heap.get? S=Ab (js es ep t)):At w s.heap.objs.size S es ep t 0 (s.heap.push (sj 0 0 S es.size ep)):=
 ⟨0,Bj _ rfl,Aj _ Y,.inr (iM Z.tab.tb.rs)⟩
end
end _S
namespace _S
open PySem.W
variable {vs:ah}{n lo:Ah}{arr m:Aw Bf}
structure Ord {K:Type}(lt:K->K->As):Prop where
 irr:∀ a,lt a a=false
 tr:∀ {a b c},lt a b=true->lt b c=true->lt a c=true
 tri:∀ {a b},lt a b=false->a=b\/lt b a=true
def si (a b:Am):As:=decide (a<b)
theorem IW:Ord si:=⟨λa=>by simp[si],λ{a b c} Y Q=>by simp only[si,Cc] at *;fin2,λ{a b} h=>by simp only[si,Cc,Ih] at *;fin2⟩
theorem cX:∀ a:Aa Am,_H.lexLt a a=false
 |[]=>rfl
 |x::Q=>by rw[_H.bf,Ax rfl];exact cX Q
theorem X0:∀ {a b c:Aa Am},_H.lexLt a b=true->_H.lexLt b c=true->_H.lexLt a c=true
 |_,[],[],_,h=>by cases h
 |_,_::_,[],_,h=>by cases h
 |[],_,_::_,_,_=>rfl
 |_::_,[],_::_,h,_=>by cases h
 |x::G,y::O,z::N,Y,Q=>by
  rw[_H.bf] at Y Q ⊢;by_cases U:x=y
  .subst U
   rw[Ax rfl] at Y;by_cases J:x=z
   .rw[Ax J] at Q ⊢;exact X0 Y Q
   .rw[Bb J] at Q ⊢;exact Q
  .rw[Bb U] at Y
   have Y:=Bz Y;by_cases J:y=z
   .subst J;rw[Bb U];exact Dl Y
   .rw[Bb J] at Q
    have Q:=Bz Q;rw[Bb (by fin2)]
    exact Dl (by fin2)
theorem cY:∀ {a b:Aa Am},_H.lexLt a b=false->a=b\/_H.lexLt b a=true
 |[],[],_=>.inl rfl
 |[],_::_,h=>by cases h
 |_::_,[],_=>.inr rfl
 |x::Y,y::Q,h=>by
  rw[_H.bf] at h ⊢;by_cases e:x=y
  .subst e
   rw[Ax rfl] at h ⊢;rcases cY h with h|h
   .exact .inl (by rw[h])
   .exact .inr h
  .rw[Bb e] at h
   have h:=Hu h;rw[Bb (Fm e)];exact .inr (Dl (by fin2))
theorem pF:Ord _H.lexLt:=⟨cX,X0,cY⟩
theorem l8 {α:Type}{p q:α->As}:∀ {l:Aa α},(∀ x∈l,p x=true->q x=true)->(∃ x∈l,q x=true/\p x=false)->l.countP p<l.countP q
 |[],_,⟨x,h,_⟩=>by simp at h
 |a::l,h,⟨x,hx,J,Y⟩=>by
  have G:l.countP p<=l.countP q:=Vt λy Q=>h y (by simp[Q])
  rw[wE,wE];rcases AT.mp hx with rfl|hx
  .rw[Bb (by rw[Y];decide),Ax J];fin2
  .have N:=l8 (l:=l) (λy Q=>h y (by simp[Q])) ⟨x,hx,J,Y⟩
   have:=h a (by simp)
   cases U:p a with
   |false=>rw[Bb (by decide)];split <;> fin2
   |true=>rw[Ax rfl,Ax (this U)];fin2
section
variable {K:Type}{lt':K->K->As}
noncomputable def gK (lt':K->K->As)(ks:Aa K)(x:K):Am:=(ks.countP (λk=>lt' k x):Ah)
theorem rZ (O:Ord lt'){ks:Aa K}{x y:K}(Y:x∈ks):lt' x y=decide (gK lt' ks x<gK lt' ks y):=by
 unfold gK;cases h:lt' x y with
 |true =>
  refine(Dl ?_).symm;have:=l8 (l:=ks) (p:=λk=>lt' k x) (q:=λk=>lt' k y) (λz _ Q=>O.tr Q h) ⟨x,Y,h,O.irr x⟩;fin2
 |false =>
  refine(Co ?_).symm;have:ks.countP (λk=>lt' k y)<=ks.countP (λk=>lt' k x):=by
   rcases O.tri h with e|h'
   .rw[e];exact Av _
   .exact Vt λz _ Q=>O.tr Q h'
  fin2
noncomputable def dY (lt':K->K->As)(ks:Aa K)(d:K)(i j:Ah):As:=lt' (ks.getD i d) (ks.getD j d)
def Nf (lt':K->K->As)(l:Aa K):Prop:=l.Pairwise λa b=>lt' b a=false
theorem XA (O:Ord lt'){l:Aa K}(h:Nf lt' l)(nd:l.Nodup):l.Pairwise λa b=>lt' a b=true:=by
 refine List.Pairwise.imp₂ (λ{a b} Y Q=>?_) h nd;exact(O.tri Y).elim (λe=>absurd e.symm Q) id
noncomputable def uD (lt':K->K->As)(x:K):Aa K->Aa K
 |[]=>[x]
 |y::l=>if lt' x y then x::y::l else if lt' y x then y::uD lt' x l else y::l
def jc (lt':K->K->As):Aa K->Aa K
 |[]=>[]
 |x::Q=>uD lt' x (jc lt' Q)
set_option tactic.hygienic true in
theorem bW (O:Ord lt')(x y:K):∀ l:Aa K,y∈uD lt' x l↔y=x\/y∈l
 |[]=>by simp[uD]
 |z::l=>by
  unfold uD
  split
  .simp
  .rename_i Y
   split
   .rw[AT,bW O x y l,AT]
    exact⟨λh=>by rcases h with h|h|h <;> simp[h],λh=>by rcases h with h|h|h <;> simp[h]⟩
   .rename_i Q
    have:x=z:=(O.tri (by simpa using Y)).elim id λh=>absurd h Q
    subst this;simp
set_option tactic.hygienic true in
theorem cP (O:Ord lt')(x:K):∀ l:Aa K,l.Pairwise (λa b=>lt' a b=true)->(uD lt' x l).Pairwise (λa b=>lt' a b=true)
 |[],_=>by simp[uD]
 |z::l,h=>by
  rw[Fl] at h;unfold uD
  split
  .rename_i Q
   refine Fl.mpr ⟨λy hy=>?_,Fl.mpr h⟩;rcases AT.mp hy with rfl|hy
   .exact Q
   .exact O.tr Q (h.1 y hy)
  .split
   .rename_i Y
    refine Fl.mpr ⟨λy hy=>?_,cP O x l h.2⟩;rcases (bW O x y l).mp hy with rfl|hy
    .exact Y
    .exact h.1 y hy
   .exact Fl.mpr h
theorem yF (O:Ord lt')(y:K):∀ l:Aa K,y∈jc lt' l↔y∈l
 |[]=>by simp[jc]
 |x::l=>by rw[jc,bW O,yF O y l,AT]
theorem kG (O:Ord lt'):∀ l:Aa K,(jc lt' l).Pairwise (λa b=>lt' a b=true)
 |[]=>by simp[jc]
 |x::l=>cP O x _ (kG O l)
theorem b8 (O:Ord lt'):∀ {a b:Aa K},a.Pairwise (λa b=>lt' a b=true)->b.Pairwise (λa b=>lt' a b=true)->(∀ x,x∈a↔x∈b)->a=b
 |[],[],_,_,_=>rfl
 |[],y::b,_,_,h=>by have:=(h y).mpr (by simp);simp at this
 |x::a,[],_,_,h=>by have:=(h x).mp (by simp);simp at this
 |x::a,y::b,U,J,h=>by
  rw[Fl] at U J;have Y:∀ {u v},lt' u v=true->lt' v u=true->Fb:=λp q=>by have:=O.tr p q;rw[O.irr] at this;cases this
  have e:x=y:=by
   rcases AT.mp ((h x).mp (by simp)) with e|e
   .exact e
   .rcases AT.mp ((h y).mpr (by simp)) with e'|e'
    .exact e'.symm
    .exact(Y (J.1 x e) (U.1 y e')).elim
  subst e;have G:∀ {z:K} {l:Aa K},(∀ y∈l,lt' x y=true)->z∈l->z≠x:=λh Q e=>by subst e;have:=h _ Q;rw[O.irr] at this;cases this
  rw[b8 O U.2 J.2 λz=>⟨λQ=>?_,λQ=>?_⟩]
  .exact(AT.mp ((h z).mp (by simp[Q]))).elim (λe=>absurd e (G U.1 Q)) id
  .exact(AT.mp ((h z).mpr (by simp[Q]))).elim (λe=>absurd e (G J.1 Q)) id
theorem LN (O:Ord lt'){l xs:Aa K}(h:Nf lt' l)(nd:l.Nodup)(m:∀ x,x∈l↔x∈xs):l=jc lt' xs:=
 b8 O (XA O h nd) (kG O xs) λx=>by rw[m,yF O]
end
theorem B8:typeLookup (.type "set") "__len__" = pure (Ab (.builtin "set.__len__")):=PySem.F.slot_set_len.lookup
section
variable {prog:Be}{w:Br}{A:Bk}{E:ae}{s:Ag}{S:Af}{es:Aw (Am × Ac)}{ep:Ah}{t:Fi}
theorem VA {r:Af}(hT:s.TypeIs (.ref r) "set"){Q:As->Ag->Prop}(h:Q false s):Ap (Au prog w) A (Qs (.ref r)) Q E s:=by
 unfold Qs;refine Ad (Pm hT B8 ?_);generalize J:("set.__len__" : Eg)=id0
 wp_delta
 rw[show splitId id0=Ab ("set","__len__") from by subst J;decide +kernel]
 subst J;refine Ad (Tt (T:="set") (b:=true) hT (by rw[Wh];kernel_rfl) ?_)
 refine Ux (λY=>absurd Y (by decide)) (λ_=>?_)
 refine Ux (λ_=>?_) (λY=>absurd (by decide +kernel) Y)
 exact Ad (Kc hT (Al h))
theorem eR {Q:Aa Ac->Ag->Prop}(hh:A.handled=none)(Z:ko w S es ep t)(d:s.heap.get? S=Ab (js es ep t))(hn:es.size<=1000)
  (h:∀ h' tk,(∀ b o,s.heap.get? b=Ab o->h'.get? b=Ab o)->s.heap.objs.size<h'.objs.size->Q ((qS w S ep es).toList.map (·.2)) { s with heap:=h',toks:=tk }) : Ap (Au prog w) A (collect (.ref S)) Q E s:=by
 have M:S<s.heap.objs.size:=Bh d;unfold collect;refine Ad (wpAny_runValue (Jm PySem.F.entry_proto_collect ?_));rw[Jt PySem.F.plain_proto_collect _];show Ap _ A.in1 (newList [] >>= λl=>again (.builtin "list.__iadd__" ⟨[l,.ref S],[]⟩)) _ _ s;refine Ad (Dm (Al ⟨Sl Ua _,Jm PySem.F.entry_list_iadd ?_⟩));rw[Jt Ua _];have hD:(s.heap.push { cls:=.type "list",data:=.seq ([] : Aa Ac).toArray }).get? s.heap.objs.size=Ab { cls:=.type "list",data:=.seq #[] }:=Bj _ rfl;have J:(s.heap.push { cls:=.type "list",data:=.seq ([] : Aa Ac).toArray }).get? S=Ab (js es ep t):=Aj _ d;show Ap _ A.in1 (Qt (.ref s.heap.objs.size) (.ref S) (.ref s.heap.objs.size)) _ _ _;unfold Qt;have k:Xk { s with heap:=s.heap.push { cls:=.type "list",data:=.seq ([] : Aa Ac).toArray } } (.ref S) "set":=⟨_,J,rfl⟩
 refine Ad (Kc k ?_);have h1:Tf (.ref s.heap.objs.size) (.ref S)=false:=by simp[Tf];exact Hn M
 rw[Bb (by rw[h1];decide)]
 refine Ad (VF (s:={ s with heap:=s.heap.push { cls:=.type "list",data:=.seq ([] : Aa Ac).toArray } }) Z J ?_)
 have O:=Aj (sj 0 0 S es.size ep) hD;have y:Xk { s with heap:=(s.heap.push { cls:=.type "list",data:=.seq ([] : Aa Ac).toArray }).push (sj 0 0 S es.size ep) } (.ref S) "set":=⟨_,Aj _ J,rfl⟩
 refine Ad (Ef (VA y ?_));refine Ux (λ_=>?_) (λj=>absurd (by decide) j)
 refine Ad (Gw (Ad ?_));show Ap _ _ (updateSeq s.heap.objs.size (·.push .none) >>= λ_=>updateSeq s.heap.objs.size (·.pop)) _ _ _
 refine Ad (wpAny_updateSeq O rfl ?_);have N:=Ek (Fj (·.push De)) O rfl
 refine wpAny_updateSeq (hz:=by seq_fits) N rfl ?_
 have p:=Ek (Fj (·.pop)) N rfl
 have H:(s.heap.push { cls:=.type "list",data:=.seq ([] : Aa Ac).toArray }).objs.size=s.heap.objs.size+1:=Ew ..;have U:∀ {b:Af} {o:Ch},b≠s.heap.objs.size->((s.heap.push { cls:=.type "list",data:=.seq ([] : Aa Ac).toArray }).push (sj 0 0 S es.size ep)).get? b=Ab o ->
   ((((s.heap.push { cls:=.type "list",data:=.seq ([] : Aa Ac).toArray }).push (sj 0 0 S es.size ep)).update s.heap.objs.size (Fj (·.push De))).update s.heap.objs.size (Fj (·.pop))).get? b=Ab o:=
  λG e=>(Df _ _ (Fm G)).trans ((Df _ _ (Fm G)).trans e)
 have u:=KQ (w:=w) (s:={ s with heap:=s.heap.push { cls:=.type "list",data:=.seq ([] : Aa Ac).toArray } }) Z J
 refine Al ⟨Sl PySem.F.plain_extend_loop _,?_⟩;refine codeAny_extend_loopS ((M4 (prog:=prog) (A:=A.in1) (I:=(s.heap.push { cls:=.type "list",data:=.seq ([] : Aa Ac).toArray }).objs.size) hh (by rw[H];exact Cp (Zl M)) Z).toS) (by rw[Gq];lia) s.heap.objs.size ?_ _ es.size 0 _ #[] _ rfl (Hc _) ?_ p (ItemsOf.nil _) λv L c T B Y=>?_
 .rw[H]
  simp only[AT,Dp,Hk,not_or];exact⟨Cp (Ka _),Hn M⟩
 .obtain⟨slot,a1,a2,a3⟩:=u
  exact⟨slot,U (by rw[H];exact Hn (Ka _)) a1,U (Cp M) a2,a3⟩
 .show Ap _ A (load s.heap.objs.size >>= _) _ _ v
  refine Ad (wpAny_load B ?_);obtain⟨h',g',d',z,g⟩:=v;have a:g'=s.gens:=T.gens;have r:d'=s.drawn:=T.drawn;have x:g=s.os:=T.os;subst a;subst r;subst x;have e:L.toList=(qS w S ep es).toList.map (·.2):=by
   refine Zn λi=>?_;rw[Ba,Ea,Ba];by_cases f:i<es.size
   .have C:i<L.size:=by rw[Y.1];exact f
    obtain⟨e,he,q⟩:=Y.2 i L[i] (Dw C);rw[Dw C,he,Pl,q]
   .rw[Oe (by rw[Y.1];lia),Oe (by rw[vX];lia)]
    rfl
  refine Al ?_;show Q L.toList _;rw[e];refine h h' z (λb o q=>?_) (Bh B);have G:b<s.heap.objs.size:=Bh q;refine T.heap b o (λhx=>?_) (U (Cp G) (Aj _ (Aj _ q)));simp only[AT,Dp,Hk] at hx;rcases hx with hx|hx
  .exact absurd G (by rw[hx];exact Fz _)
  .exact absurd G (by rw[hx,H];exact Oc.mpr (Vp _))
end
def tV:As->Bf->Aw Bf->Ah->Ah->Ah->Lz Fa Jl (Ak Ah):=sortPriv% PySem.Builtin.gallop
def VT:Aw Bf->Aw Bf->Lz Fa Jl (Aw Bf):=sortPriv% PySem.Builtin.mergeLo
def VS:Aw Bf->Aw Bf->Lz Fa Jl (Aw Bf):=sortPriv% PySem.Builtin.mergeHi
def nv:Bf:=(De,De)
section
variable {M:Kq}{A:Bk}{E:ae}{s:Ag}{κ : Mv}{U:Bf->Prop}{r:Bf->Am}
structure Cm (M:Kq)(A:Bk)(s:Ag)(κ : Mv)(U:Bf->Prop)(r:Bf->Am):Prop where
 lt:∀ {x y:Bf},U x->U y->∀ {E:ae} {Q:Ak As->Fa->Prop} {st:Fa},kindOf st=κ->Q (Ab (decide (r x<r y))) st->wpS M A E s (lt' x y) Q st
theorem zF {i:Ah}{Q:Bf->Fa->Prop}{st:Fa}(h:i<arr.size)(q:Q (arr.getD i nv) st):wpS M A E s (elem' arr i) Q st:=by
 rw[elem'_eq,getElem?_pos arr i h];have e:arr.getD i nv=arr[i]:=by simp[Gk,h]
 rw[e] at q;exact Bm q
theorem QD (C:Cm M A s κ U r){left:As}{Y:Bf}{arr:Aw Bf}{i:Ah}{Q:Ak As->Fa->Prop}{st:Fa}(G:kindOf st=κ)(hi:i<arr.size)(N:U (arr.getD i nv))(J:U Y)
  (q:Q (Ab (if left then decide (r (arr.getD i nv)<r Y) else !decide (r Y<r (arr.getD i nv)))) st) :
  wpS M A E s (do let x <- elem' arr i;if left then lt' x Y else (do let a <- lt' Y x;pure (a.map (λb=>!b)))) Q st:=by
 refine Ay (zF hi ?_);cases left with
 |true=>exact C.lt N J G q
 |false=>exact Ay (C.lt J N G (Bm q))
theorem tB (C:Cm M A s κ U r){left:As}{N:Bf}{arr:Aw Bf}{base n Y J:Ah}{Q:Ak Ah->Fa->Prop}{st:Fa}(hk:kindOf st=κ)(t:Y<n)(hb:base+n<=arr.size)(d:∀ i,i<n->U (arr.getD (base+i) nv))(w:U N)(hc:J<=n)
  (v:∀ i,i<n->(if left then decide (r (arr.getD (base+i) nv)<r N) else !decide (r N<r (arr.getD (base+i) nv)))=decide (i<J)) (h:Q (Ab J) st):wpS M A E s (tV left N arr base n Y) Q st:=by
 have B:∀ {i:Ah} {E:ae} {Q:Ak As->Fa->Prop},i<n->Q (Ab (decide (i<J))) st->wpS M A E s (do let x <- elem' arr (base+i);if left then lt' x N else (do let a <- lt' N x;pure (a.map (λb=>!b)))) Q st:=by
  intro i E Q hi q;exact QD C hk (by lia) (d i hi) w (by rw[v i hi];exact q)
 have x_:∀ {lo hi:Ah} {f:Ah->Ak (Ak Ah) × Ah × Ah->Lz Fa Jl (ForInStep (Ak (Ak Ah) × Ah × Ah))},lo<=J->J<=hi->hi<=n ->
   (∀ x a b,f x (none,a,b)=if a>=b then pure (.done (none,a,b)) else ((do let x <- elem' arr (base+(a+(b-a)/2));if left then lt' x N else (do let a <- lt' N x;pure (a.map (λb=>!b)))) >>= λo=>match o with
    |some k=>if k then pure (.yield (none,a+(b-a)/2+1,b)) else pure (.yield (none,a,a+(b-a)/2))
    |_=>pure (.done (Ab none,a,b))))->wpS M A E s (forIn [0:n] (none,lo,hi) f) (λc G=>G=st/\∃ a,c=(none,a,J)) st:=by
  intro lo hi f h1 e u l;refine Fe (I:=λx c G=>G=st/\∃ a b,c=(none,a,b)/\a<=J/\J<=b/\b<=n/\b+x<=n+a) ?_ ?_ ⟨rfl,lo,hi,rfl,h1,e,u,by lia⟩
  .rintro x c G _ j ⟨rfl,a,b,rfl,O,L,T,y⟩
   rw[l];by_cases g:a>=b
   .rw[Ax g];exact Bm ⟨rfl,a,by rw[show b=J by lia]⟩
   .rw[Bb g]
    have p:a<=a+(b-a)/2/\a+(b-a)/2<b:=by lia
    generalize a+(b-a)/2=m at p;refine Ay (B (by lia) ?_)
    by_cases z:m<J
    .simp only[z,Kb,Du]
     exact Bm ⟨rfl,_,_,rfl,by lia,L,T,by lia⟩
    .simp only[z,Kh,Bo,Ds]
     exact Bm ⟨rfl,_,_,rfl,O,by lia,by lia,by lia⟩
  .rintro c G ⟨rfl,a,b,rfl,O,L,T,y⟩
   exact⟨rfl,a,by rw[show b=J by lia]⟩
 refine Ay (B t ?_);dsimp only;by_cases H:Y<J
 .simp only[H,Kb,Du]
  refine Ay (Hl (Fe (I:=λx c G=>G=st/\∃ a b,c=(none,a,b)/\Y+a<J/\a<b/\x<b)
   (Q:=λc G=>G=st/\∃ a b,c=(none,a,b)/\Y+a<J/\J<=Y+min b (n-Y)) ?_ ?_ ⟨rfl,0,1,rfl,H,by lia,by lia⟩) ?_)
  .rintro x c G _ j ⟨rfl,a,b,rfl,O,L,T⟩
   dsimp only;by_cases g:b>=n-Y
   .rw[Ax g];exact Bm ⟨rfl,a,b,rfl,O,by lia⟩
   .rw[Bb g]
    refine Ay (B (by lia) ?_)
    by_cases z:Y+b<J
    .simp only[z,Kb,Js,Bo,Ds]
     exact Bm ⟨rfl,_,_,rfl,z,by lia,by lia⟩
    .simp only[z,Kh,Wg,Du]
     exact Bm ⟨rfl,a,b,rfl,O,by lia⟩
  .rintro c G ⟨rfl,a,b,rfl,O,L,T⟩
   exact⟨rfl,a,b,rfl,O,by lia⟩
  .rintro c G ⟨rfl,a,b,rfl,O,L⟩
   dsimp only;refine Ay (Hl (x_ (lo:=Y+a+1) (hi:=Y+min b (n-Y)) (by lia) L (by lia) λ_ _ _=>rfl) ?_)
   rintro c G ⟨rfl,a',rfl⟩;exact Bm h
 .simp only[H,Kh,Bo,Ds]
  refine Ay (Hl (Fe (I:=λx c G=>G=st/\∃ a b,c=(none,a,b)/\J+a<=Y/\a<b/\x<b)
   (Q:=λc G=>G=st/\∃ a b,c=(none,a,b)/\J+a<=Y/\Y+1<=J+min b (Y+1)) ?_ ?_ ⟨rfl,0,1,rfl,by lia,by lia,by lia⟩) ?_)
  .rintro x c G _ j ⟨rfl,a,b,rfl,O,L,T⟩
   dsimp only;by_cases g:b>=Y+1
   .rw[Ax g];exact Bm ⟨rfl,a,b,rfl,O,by lia⟩
   .rw[Bb g]
    refine Ay (B (by lia) ?_)
    by_cases z:Y-b<J
    .simp only[z,Kb,Du]
     exact Bm ⟨rfl,a,b,rfl,O,by lia⟩
    .simp only[z,Kh,Bo,Ds]
     exact Bm ⟨rfl,_,_,rfl,by lia,by lia,by lia⟩
  .rintro c G ⟨rfl,a,b,rfl,O,L,T⟩
   exact⟨rfl,a,b,rfl,O,by lia⟩
  .rintro c G ⟨rfl,a,b,rfl,O,L⟩
   dsimp only;refine Ay (Hl (x_ (lo:=Y+1-min b (Y+1)) (hi:=Y-a) (by lia) (by lia) (by lia) λ_ _ _=>rfl) ?_)
   rintro c G ⟨rfl,a',rfl⟩;exact Bm h
end
def Le (r:Bf->Am)(x y:Bf):Prop:=r x<=r y
structure Mg (r:Bf->Am)(o A B T:Aa Bf):Prop where
 p1:(o++A).Pairwise (Le r)
 p2:(o++B).Pairwise (Le r)
 pm:(o++A++B).Perm T
structure Mh (r:Bf->Am)(A B o T:Aa Bf):Prop where
 p1:(A++o).Pairwise (Le r)
 p2:(B++o).Pairwise (Le r)
 pm:(A++B++o).Perm T
section
variable {r:Bf->Am}{o A B A1 A2 B1 B2 T:Aa Bf}
theorem Mg.b (h:Mg r o A (B1++B2) T)(l:∀ x∈B1,∀ y∈A,Le r x y):Mg r (o++B1) A B2 T:=by
 obtain⟨Q,Y,U⟩:=h;refine⟨?_,by rw[Cj];exact Y,?_⟩
 .rw[Cj]
  rw[Dz] at Q Y ⊢;refine⟨Q.1,?_,λx J y hy=>?_⟩
  .rw[Dz]
   exact⟨(Dz.mp Y.2.1).1,Q.2.1,l⟩
  .rcases Bw.mp hy with hy|hy
   .exact Y.2.2 x J y (Dq _ hy)
   .exact Q.2.2 x J y hy
 .refine Pq ?_ U
  simp only[Cj];refine Jg _ ?_;simp only[<- Cj];exact Lb _ Lm
theorem Mg.a (h:Mg r o (A1++A2) B T)(l:∀ x∈A1,∀ y∈B,Le r x y):Mg r (o++A1) A2 B T:=by
 obtain⟨Q,Y,U⟩:=h;refine⟨by rw[Cj];exact Q,?_,by simpa only [Cj] using U⟩
 rw[Cj];rw[Dz] at Q Y ⊢;refine⟨Y.1,?_,λx J y hy=>?_⟩
 .rw[Dz]
  exact⟨(Dz.mp Q.2.1).1,Y.2.1,l⟩
 .rcases Bw.mp hy with hy|hy
  .exact Q.2.2 x J y (Dq _ hy)
  .exact Y.2.2 x J y hy
theorem Mh.a (h:Mh r (A1++A2) B o T)(l:∀ x∈B,∀ y∈A2,Le r x y):Mh r A1 B (A2++o) T:=by
 obtain⟨Q,Y,U⟩:=h;refine⟨by rw[<- Cj];exact Q,?_,?_⟩
 .rw[Cj] at Q
  rw[Dz] at Q Y ⊢;refine⟨Y.1,Q.2.1,λx J y hy=>?_⟩;rcases Bw.mp hy with hy|hy
  .exact l x J y hy
  .exact Y.2.2 x J y hy
 .refine Pq ?_ U
  simp only[Cj];refine Jg _ ?_;simp only[<- Cj];exact Lb _ Lm
theorem Mh.b (h:Mh r A (B1++B2) o T)(l:∀ x∈A,∀ y∈B2,Le r x y):Mh r A B1 (B2++o) T:=by
 obtain⟨Y,Q,U⟩:=h;refine⟨?_,by rw[<- Cj];exact Q,by simpa only [Cj] using U⟩
 rw[Cj] at Q;rw[Dz] at Y Q ⊢;refine⟨Y.1,Q.2.1,λx J y hy=>?_⟩;rcases Bw.mp hy with hy|hy
 .exact l x J y hy
 .exact Y.2.2 x J y hy
end
structure Mo (r:Bf->Am)(T:Aa Bf)(m:Aw Bf):Prop where
 pm:m.toList.Perm T
 up:m.toList.Pairwise (Le r)
abbrev eD (st:Fa)(g:Ah):Fa:=Cy (kindOf st) (arrOf st) (pendingOf st) g (failedOf st)
theorem tO {a:Aw Bf}{i:Ah}(h:i<a.size):a.toList.drop i=a.getD i nv::a.toList.drop (i+1):=by
 rw[Fp (by simpa using h)]
 congr 1
 simp[Gk,h]
theorem zS {a:Aw Bf}{i:Ah}(h:i<a.size):a.getD i nv∈a.toList:=by
 have e:a.getD i nv=a[i]:=by simp[Gk,h]
 rw[e];exact Array.getElem_mem_toList h
theorem wN {r:Bf->Am}{a:Aw Bf}(s:a.toList.Pairwise (Le r)){i j:Ah}(h:i<=j)(Q:j<a.size):r (a.getD i nv)<=r (a.getD j nv):=by
 rcases Lw i j with l|l
 .have e:=Jr.mp s i j (by simpa using Ig l Q) (by simpa using Q) l
  have Y:i<a.size:=Ig l Q;simpa [Gk,Y,Q,Le] using e
 .rw[Uy h l];exact Ou _
theorem gE {a:Aw Bf}{i:Ah}{x:Bf}(h:x∈a.toList.drop i):∃ j,i<=j/\j<a.size/\x=a.getD j nv:=by
 obtain⟨k,Q,e⟩:=Cz.mp h;rw[Sj] at e;have Y:k<a.size-i:=by simpa using Q
 refine⟨i+k,by lia,by lia,?_⟩
 have:i+k<a.size:=by lia
 simp[Gk,this,<- e]
theorem gF {a:Aw Bf}{x:Bf}(h:x∈a.toList.take n):∃ j,j<n/\j<a.size/\x=a.getD j nv:=by
 obtain⟨k,Y,e⟩:=Cz.mp h;rw[Si] at e;have Q:k<n/\k<a.size:=by rw[Dn,Bi] at Y;lia
 refine⟨k,Q.1,Q.2,?_⟩;simp[Gk,Q.2,<- e]
theorem bT {a:Aw Bf}{i k:Ah}:(a.extract i (i+k)).toList++a.toList.drop (i+k)=a.toList.drop i:=by
 rw[Hy,Hs,Gb,<- List.drop_drop];exact Ov _ _
theorem pP {a:Aw Bf}{i:Ah}:(a.extract i a.size).toList=a.toList.drop i:=by
 rw[Hy,Hs];exact Es (by simp)
theorem jZ {a:Aw Bf}{i k:Ah}{x:Bf}(h:x∈(a.extract i (i+k)).toList):∃ j,i<=j/\j<i+k/\j<a.size/\x=a.getD j nv:=by
 rw[Hy,Hs,Gb] at h;obtain⟨m,Y,e⟩:=Cz.mp h;rw[Si,Sj] at e;have Q:m<k/\i+m<a.size:=by rw[Dn,Ez,Bi] at Y;lia
 refine⟨i+m,by lia,by lia,Q.2,?_⟩
 simp[Gk,Q.2,<- e]
def GL (r:Bf->Am)(a b o:Aw Bf)(i j:Ah):Prop:=Mg r o.toList (a.toList.drop i) (b.toList.drop j) (a.toList++b.toList)
section
variable {r:Bf->Am}{a b o:Aw Bf}{i j k:Ah}
theorem GL.pb (U:a.toList.Pairwise (Le r))(h:GL r a b o i j)(Y:j<b.size)(l:i<a.size->r (b.getD j nv)<=r (a.getD i nv)):GL r a b (o.push (b.getD j nv)) i (j+1):=by
 have J:Mg r o.toList (a.toList.drop i) ([b.getD j nv]++b.toList.drop (j+1)) (a.toList++b.toList):=by rw[Vu,<- tO Y];exact h
 have:=J.b λx N y Q=>by
  cases Cu.mp N;obtain⟨m,O,G,rfl⟩:=gE Q;exact Ft (l (by lia)) (wN U O G)
 unfold GL;rw[Ec];exact this
theorem GL.pa (Q:b.toList.Pairwise (Le r))(h:GL r a b o i j)(hi:i<a.size)(l:j<b.size->r (a.getD i nv)<=r (b.getD j nv)):GL r a b (o.push (a.getD i nv)) (i+1) j:=by
 have J:Mg r o.toList ([a.getD i nv]++a.toList.drop (i+1)) (b.toList.drop j) (a.toList++b.toList):=by rw[Vu,<- tO hi];exact h
 have:=J.a λx G y Y=>by
  cases Cu.mp G;obtain⟨m,N,U,rfl⟩:=gE Y;exact Ft (l (by lia)) (wN Q N U)
 unfold GL;rw[Ec];exact this
theorem GL.ea (Q:b.toList.Pairwise (Le r))(h:GL r a b o i j)(O:j<b.size)(l:∀ m,m<k->r (a.getD (i+m) nv)<=r (b.getD j nv)):GL r a b (o++a.extract i (i+k)) (i+k) j:=by
 have U:Mg r o.toList ((a.extract i (i+k)).toList++a.toList.drop (i+k)) (b.toList.drop j) (a.toList++b.toList):=by rw[bT];exact h
 have:=U.a λx N y Y=>by
  obtain⟨m,T,B,L,rfl⟩:=jZ N;obtain⟨C,J,G,rfl⟩:=gE Y;have:=l (m-i) (by lia)
  rw[show i+(m-i)=m by lia] at this
  exact Ft this (wN Q J G)
 unfold GL;rw[Dx];exact this
theorem GL.eb (U:a.toList.Pairwise (Le r))(h:GL r a b o i j)(hi:i<a.size)(l:∀ m,m<k->r (b.getD (j+m) nv)<=r (a.getD i nv)):GL r a b (o++b.extract j (j+k)) i (j+k):=by
 have J:Mg r o.toList (a.toList.drop i) ((b.extract j (j+k)).toList++b.toList.drop (j+k)) (a.toList++b.toList):=by rw[bT];exact h
 have:=J.b λx N y Q=>by
  obtain⟨m,L,C,B,rfl⟩:=jZ N;obtain⟨O,Y,G,rfl⟩:=gE Q;have:=l (m-j) (by lia)
  rw[show j+(m-j)=m by lia] at this
  exact Ft this (wN U Y G)
 unfold GL;rw[Dx];exact this
theorem GL.fin (h:GL r a b o i j)(e:i=a.size\/j=b.size):Mo r (a.toList++b.toList) (o++a.extract i a.size++b.extract j b.size):=by
 refine⟨?_,?_⟩ <;> rw[Dx,Dx,pP,pP]
 .exact h.pm
 .rcases e with rfl|rfl
  .rw[Of (by simp),Hg];exact h.p2
  .rw[Of (l:=b.toList) (by simp),Hg];exact h.p1
theorem GL.last (h:GL r a b o i j)(e:i+1=a.size)(l:∀ x∈b.toList,Le r x (a.getD (a.size-1) nv)):Mo r (a.toList++b.toList) (o++b.extract j b.size++a.extract i a.size):=by
 have U:i<a.size:=by lia
 have J:a.toList.drop i=[a.getD i nv]:=by rw[tO U,Of (by simp;lia)]
 refine⟨?_,?_⟩ <;> rw[Dx,Dx,pP,pP]
 .refine Pq ?_ h.pm
  rw[Cj,Cj];exact Jg _ Lm
 .have Q:=h.p1
  rw[J] at Q ⊢;rw[Dz] at Q ⊢;refine⟨h.p2,Ub _ _,λx hx y Y=>?_⟩;rcases Bw.mp hx with hx|hx
  .exact Q.2.2 x hx y Y
  .cases Cu.mp Y
   have:=l x (Hz hx);rw[show a.size-1=i by lia] at this
   exact this
end
theorem sO {p:Ah->As}:∀ (n:Ah),(∀ i j,i<=j->j<n->p j=true->p i=true)->∃ c,c<=n/\∀ i,i<n->p i=decide (i<c)
 |0,_=>⟨0,Av _,λi h=>by lia⟩
 |n+1,h=>by
  obtain⟨c,Y,e⟩:=sO n λi j a b=>h i j a (by lia)
  by_cases q:p n=true
  .refine⟨n+1,Av _,λi Q=>?_⟩
   rw[h i n (by lia) (by lia) q]
   simp[Q]
  .refine⟨c,by lia,λi Q=>?_⟩
   rcases Lw i n with l|l
   .exact e i l
   .have:i=n:=by lia
    subst this;have:¬ i<c:=by lia
    simp[this,q]
section
variable {M:Kq}{A:Bk}{E:ae}{s:Ag}{κ : Mv}{U:Bf->Prop}{r:Bf->Am}
theorem qR {σ α:Type}{c:Prop}[Gg c]{x y:Lz σ Jl α}{Q:α->σ->Prop}{st:σ}(h1:c->wpS M A E s x Q st)(h2:¬ c->wpS M A E s y Q st):wpS M A E s (if c then x else y) Q st:=by
 by_cases h:c
 .rw[Ax h];exact h1 h
 .rw[Bb h];exact h2 h
theorem V6 (C:Cm M A s κ U r){Y:Bf}{arr:Aw Bf}{base n J:Ah}{Q:Ak Ah->Fa->Prop}{st:Fa}(w:kindOf st=κ)(T:J<n)(H:base+n<=arr.size)(L:∀ i,i<n->U (arr.getD (base+i) nv))(N:U Y)
  (I:∀ i j,i<=j->j<n->r (arr.getD (base+i) nv)<=r (arr.getD (base+j) nv)) (h:∀ c,c<=n->(∀ i,i<c->r (arr.getD (base+i) nv)<=r Y)->(∀ i,c<=i->i<n->r Y<r (arr.getD (base+i) nv))->Q (Ab c) st):wpS M A E s (tV false Y arr base n J) Q st:=by
 obtain⟨c,O,e⟩:=sO (p:=λi=>!decide (r Y<r (arr.getD (base+i) nv))) n λi j a b q=>by
  have:=I i j a b;simp only[Nw,Ih] at q ⊢
  lia
 refine tB C w T H L N O (λi G=>by simpa using e i G) (h c O (λi G=>?_) λi G B=>?_)
 .have:=e i (by lia)
  simp only[G,Kb,Nw,Ih] at this
  lia
 .have:=e i B
  simp only[show ¬ i<c by lia,Kh,Bool.not_eq_false',Cc] at this
  exact this
theorem V7 (C:Cm M A s κ U r){Y:Bf}{arr:Aw Bf}{base n J:Ah}{Q:Ak Ah->Fa->Prop}{st:Fa}(w:kindOf st=κ)(T:J<n)(H:base+n<=arr.size)(L:∀ i,i<n->U (arr.getD (base+i) nv))(N:U Y)
  (I:∀ i j,i<=j->j<n->r (arr.getD (base+i) nv)<=r (arr.getD (base+j) nv)) (h:∀ c,c<=n->(∀ i,i<c->r (arr.getD (base+i) nv)<r Y)->(∀ i,c<=i->i<n->r Y<=r (arr.getD (base+i) nv))->Q (Ab c) st):wpS M A E s (tV true Y arr base n J) Q st:=by
 obtain⟨c,O,e⟩:=sO (p:=λi=>decide (r (arr.getD (base+i) nv)<r Y)) n λi j a b q=>by
  have:=I i j a b;simp only[Cc] at q ⊢
  lia
 refine tB C w T H L N O (λi G=>by simpa using e i G) (h c O (λi G=>?_) λi G B=>?_)
 .have:=e i (by lia)
  simp only[G,Kb,Cc] at this;exact this
 .have:=e i B
  simp only[show ¬ i<c by lia,Kh,Ih] at this
  lia
end
section
variable {M:Kq}{A:Bk}{E:ae}{s:Ag}{σ α γ δ:Type}{Q:α->σ->Prop}{st:σ}{c c' c2:Prop}[Gg c][Gg c'][Gg c2]
theorem i3 {K:γ->Lz σ Jl α}{x y:γ}(h:∀ z,wpS M A E s (K z) Q st):wpS M A E s (if c then K x else K y) Q st:=qR (λ_=>h x) λ_=>h y
theorem WY {K:γ->δ->Lz σ Jl α}{u:Lz σ Jl α}{x y:γ}{w v:δ}(P:γ->δ->Prop)(hK:∀ z w,P z w->wpS M A E s (K z w) Q st)(h1:c->c'->wpS M A E s u Q st)(h2:c->¬ c'->P x w)(h3:¬ c->P y v):wpS M A E s (if c then (if c' then u else K x w) else K y v) Q st:=qR (λe=>qR (h1 e) λY=>hK _ _ (h2 e Y)) λe=>hK _ _ (h3 e)
theorem WZ {K:γ->δ->Lz σ Jl α}{u Y:Lz σ Jl α}{x y:γ}{w v:δ}(P:γ->δ->Prop)(hK:∀ z w,P z w->wpS M A E s (K z w) Q st)(h1:c->c'->wpS M A E s u Q st)(h1':c->¬ c'->c2->wpS M A E s Y Q st)(h2:c->¬ c'->¬ c2->P x w)(h3:¬ c->P y v):wpS M A E s (if c then (if c' then u else if c2 then Y else K x w) else K y v) Q st:=qR (λe=>qR (h1 e) λJ=>qR (h1' e J) λU=>hK _ _ (h2 e J U)) λe=>hK _ _ (h3 e)
end
inductive MI {ρ γ:Type}(f:Aw Bf->Ah->Ah->ρ->γ)(P:Aw Bf->Ah->Ah->Prop)(st:Fa)(c:Ak (Aw Bf) × γ)(st':Fa):Prop
 |mk (g:Ah) (o:Aw Bf) (i j:Ah) (q:ρ) (hs:st'=eD st g) (hc:c=(none,f o i j q)) (h:P o i j):MI f P st c st'
inductive MQ {ρ γ:Type}(f:Aw Bf->Ah->Ah->ρ->γ)(F:Aw Bf->Prop)(P:Aw Bf->Ah->Ah->Prop)(st:Fa)(c:Ak (Aw Bf) × γ)(st':Fa):Prop
 |fin (g:Ah) (m:Aw Bf) (hs:st'=eD st g) (hc:c.1=Ab m) (hm:F m):MQ f F P st c st'
 |on (g:Ah) (o:Aw Bf) (i j:Ah) (q:ρ) (hs:st'=eD st g) (hc:c=(none,f o i j q)) (h:P o i j):MQ f F P st c st'
structure ML (r:Bf->Am)(a b:Aw Bf)(Z:Ah->Ah->Prop)(o:Aw Bf)(i j:Ah):Prop where
 G:GL r a b o i j
 hi:i+1<a.size
 hj:j<b.size
 z:Z i j
section
variable {prog:Be}{w:Br}{A:Bk}{E:ae}{s:Ag}{κ : Mv}{U:Bf->Prop}{r:Bf->Am}
theorem hX (C:Cm (Au prog w) A s κ U r){a b:Aw Bf}{Q:Aw Bf->Fa->Prop}{st:Fa}(hk:kindOf st=κ)(ua:∀ x∈a.toList,U x)(ub:∀ x∈b.toList,U x)(sa:a.toList.Pairwise (Le r))(sb:b.toList.Pairwise (Le r))
  (h:∀ m g,Mo r (a.toList++b.toList) m->Q m (eD st g)) (ha:0<a.size) (hb:0<b.size) (h0:r (b.getD 0 nv)<=r (a.getD 0 nv)) (h1:∀ x∈b.toList,Le r x (a.getD (a.size-1) nv)):wpS (Au prog w) A E s (VT a b) Q st:=by
 have G0:GL r a b #[] 0 0:=⟨by simpa using sa,by simpa using sb,by simp⟩
 have G1:=G0.pb sa hb λ_=>h0;refine Ay (Rt (Gw ⟨rfl,?_⟩));refine Ay (zF hb ?_);dsimp only;refine qR (λe=>Bm (h _ (Uz st) (G1.fin (.inr (by simpa using e))))) λe1=>?_
 refine qR (λe=>Bm (h _ (Uz st) (G1.last (by simpa using e) h1))) λe2=>?_
 have e1:1<b.size:=by
  have:¬ 1=b.size:=by simpa using e1
  lia
 have e2:0+1<a.size:=by
  have:¬ 0+1=a.size:=by simpa using e2
  lia
 refine Ay (Nn ?_);refine Ay (Hl (Fe (I:=λx=>MI (λo i j q=>(o,i,j,q)) (ML r a b λi j=>x<i+j) st)
  (Q:=MQ (λo i j q=>(o,i,j,q)) (Mo r (a.toList++b.toList)) (λ_ _ _=>Fb) st) ?_ ?_ ⟨Uz st,_,0,1,_,rfl,rfl,G1,e2,e1,by lia⟩) ?_)
 .rintro x c B _ hx ⟨g,o,i,j,mg,rfl,rfl,G,N,Y,hp⟩
  dsimp only;refine Ay (Hl (Fe (I:=λy=>MI (λo i j q=>(o,i,j,q)) (ML r a b λJ O=>i+j+y<=J+O) st)
   (Q:=MQ (λo i j q=>(o,i,j,q)) (Mo r (a.toList++b.toList)) (ML r a b λJ O=>x+1<J+O) st) ?_ ?_ ⟨g,o,i,j,(0,0),rfl,rfl,G,N,Y,by lia⟩) ?_)
  .rintro y c B _ hy ⟨g,o,J,O,⟨p,q⟩,rfl,rfl,G,N,Y,H⟩
   dsimp only;refine Ay (zF Y (Ay (zF (i:=J) (by lia) (Ay (C.lt (ub _ (zS Y)) (ua _ (zS (i:=J) (by lia))) hk ?_)))))
   dsimp only;refine qR (λl=>?_) λl=>?_
   .have l:r (b.getD O nv)<r (a.getD J nv):=by simpa using l
    have G2:=G.pb sa Y λ_=>Hb l;refine Ay (zF Y ?_);refine qR (λe=>?_) λe=>?_
    .exact Bm (.fin _ _ rfl rfl (G2.fin (.inr (by simpa using e))))
    .have e:¬ O+1=b.size:=by simpa using e
     refine qR (λ_=>?_) λ_=>?_
     .exact Bm (.on _ _ _ _ (_,_) rfl rfl ⟨G2,N,by lia,by lia⟩)
     .exact Bm ⟨_,_,_,_,(_,_),rfl,rfl,G2,N,by lia,by lia⟩
   .have l:¬ r (b.getD O nv)<r (a.getD J nv):=by simpa using l
    have G2:=G.pa sb (by lia) λ_=>AaF.mp l
    refine Ay (zF (i:=J) (by lia) ?_)
    refine qR (λe=>?_) λe=>?_
    .exact Bm (.fin _ _ rfl rfl (G2.last (by simpa using e) h1))
    .have e:¬ J+1+1=a.size:=by simpa using e
     refine qR (λ_=>?_) λ_=>?_
     .exact Bm (.on _ _ _ _ (_,_) rfl rfl ⟨G2,by lia,Y,by lia⟩)
     .exact Bm ⟨_,_,_,_,(_,_),rfl,rfl,G2,by lia,Y,by lia⟩
  .rintro c B ⟨g,o,J,O,q,rfl,rfl,G,N,Y,H⟩
   exact .on g _ _ _ _ rfl rfl ⟨G,N,Y,by lia⟩
  .rintro c B (⟨g,m,rfl,f,hm⟩|⟨g,o,J,O,⟨p,q⟩,rfl,rfl,G,N,Y,H⟩)
   .obtain⟨c0,c1⟩:=c
    cases f;exact Bm (.fin _ m rfl rfl hm)
   dsimp only;refine Ay (Rt (Gw ⟨rfl,?_⟩));refine Ay (Hl (Fe (I:=λy=>MI (λo i j q=>(o,i,j,q)) (ML r a b λJ O=>x+1<J+O) st)
    (Q:=MQ (λo i j q=>(o,i,j,q)) (Mo r (a.toList++b.toList)) (ML r a b λJ O=>x+1<J+O) st) ?_ ?_ ⟨g,o,J,O,(_,_,_),rfl,rfl,G,N,Y,H⟩) ?_)
   .rintro y c B _ hy ⟨g,o,i,j,⟨p,q,t⟩,rfl,rfl,G,N,Y,H⟩
    dsimp only;generalize p-1=p1;apply i3 (x:=p1) (y:=p);intro mg;have u:i<a.size:=Sm N;refine Ay (Jk ?_);refine Ay (zF Y ?_);refine Ay (V6 C hk (Sn u) (Yq (Xm (Fc u))) (λJ zs=>ua _ (zS (Ln zs))) (ub _ (zS Y)) (λJ O h1 h2=>wN sa (Il h1 _) (Ln h2)) λk k1 k2 k3=>?_);dsimp only;have G2:=G.ea sb Y k2;have k4:i+k<=a.size:=Vv (Fc u) k1;have k5:i+k<a.size->r (b.getD j nv)<r (a.getD (i+k) nv):=λh=>k3 k (Av _) (Wn (by rw[Qb];exact h))
    have k6:x+1<i+k+j:=Az H (Wp (Gy _ _) _);have k7:k=0->i=i+k:=λh=>by rw[h];rfl
    generalize i+k=i1 at G2 k4 k5 k6 k7 ⊢;generalize o++a.extract i i1=o1 at G2 ⊢;apply WZ (x:=o1) (w:=i1) (y:=o) (v:=i) (P:=λL T=>GL r a b L T j/\T+1<a.size/\x+1<T+j/\r (b.getD j nv)<r (a.getD T nv))
    case h1=>exact λ_ e=>Bm (.fin _ _ rfl rfl (G2.last (by simpa using e) h1))
    case h1'=>exact λ_ _ e=>Bm (.fin _ _ rfl rfl (G2.fin (.inl (by simpa using e))))
    case h2 =>
     intro _ e3 e4;have e3:¬ i1+1=a.size:=by simpa using e3
     have e4:¬ i1=a.size:=by simpa using e4
     have e5:i1<a.size:=Hv k4 e4;exact⟨G2,Hv e5 e3,k6,k5 e5⟩
    case h3 =>
     intro e;have e:=k7 (Lc e);exact⟨G,N,H,by rw[e];exact k5 (by rw[<- e];exact u)⟩
    case hK =>
     rintro L T ⟨G2,hl,H,f⟩;have M:T<a.size:=Sm hl;refine Ay (zF Y ?_);have G3:=G2.pb sa Y λ_=>Hb f;refine qR (λe=>Bm (.fin _ _ rfl rfl (G3.fin (.inr (by simpa using e))))) λe5=>?_
     have e5:¬ j+1=b.size:=by simpa using e5
     have d:j+1<b.size:=Hv Y e5;refine Ay (zF M ?_);refine Ay (V7 C hk (Sn d) (Yq (Xm Y)) (λi N=>ub _ (zS (Ln N))) (ua _ (zS M)) (λi j h1 h2=>wN sb (Il h1 _) (Ln h2)) λm m1 m2 m3=>?_);dsimp only;have G4:=G3.eb sa M λi N=>Hb (m2 i N);have m4:j+1+m<=b.size:=Vv Y m1;have m5:j+1+m<b.size->r (a.getD T nv)<=r (b.getD (j+1+m) nv):=λh=>m3 m (Av _) (Wn (by rw[Qb];exact h))
     have m6:j+1<=j+1+m:=Gy _ _;have m7:m=0->j+1=j+1+m:=λh=>by rw[h]
     generalize j+1+m=j1 at G4 m4 m5 m6 m7 ⊢;generalize L.push (b.getD j nv)++b.extract (j+1) j1=o2 at G4 ⊢;apply WY (x:=o2) (w:=j1) (y:=L.push (b.getD j nv)) (v:=j+1) (P:=λL ib=>GL r a b L T ib/\ib<b.size/\j+1<=ib/\r (a.getD T nv)<=r (b.getD ib nv))
     case h1=>exact λ_ e=>Bm (.fin _ _ rfl rfl (G4.fin (.inr (by simpa using e))))
     case h2 =>
      intro _ e6;have e6:¬ j1=b.size:=by simpa using e6
      have e7:=Hv m4 e6;exact⟨G4,e7,m6,m5 e7⟩
     case h3 =>
      intro e;have e:=m7 (Lc e);exact⟨G3,d,Av _,by rw[e];exact m5 (by rw[<- e];exact d)⟩
     case hK =>
      rintro L ib ⟨G4,zb,zc,zl⟩;refine Ay (zF M ?_);have G5:=G4.pa sb M λ_=>zl;refine qR (λe=>Bm (.fin _ _ rfl rfl (G5.last (by simpa using e) h1))) λe7=>?_
      have e7:¬ T+1+1=a.size:=by simpa using e7
      have e8:T+1+1<a.size:=Hv hl e7;have e9:x+1<T+1+ib:=Az H (AaH (Vp _) (Zo zc));exact qR (λ_=>Bm (.on _ _ _ _ (_,_,_) rfl rfl ⟨G5,e8,zb,e9⟩)) λ_=>Bm ⟨_,_,_,_,(_,_,_),rfl,rfl,G5,e8,zb,e9⟩
   .rintro c B ⟨g,o,J,O,q,rfl,rfl,G,N,Y,H⟩
    exact .on g _ _ _ _ rfl rfl ⟨G,N,Y,by lia⟩
   .rintro c B (⟨g,m,rfl,f,hm⟩|⟨g,o,J,O,⟨p,q,t⟩,rfl,rfl,G,N,Y,H⟩)
    .obtain⟨c0,c1⟩:=c
     cases f;exact Bm (.fin _ m rfl rfl hm)
    dsimp only;refine Ay (Jk ?_);exact Bm ⟨_,_,_,_,_,rfl,rfl,G,N,Y,by lia⟩
 .rintro c B ⟨g,o,J,O,p,rfl,rfl,G,N,Y,H⟩
  exfalso
  lia
 .rintro c B (⟨g,m,rfl,f,hm⟩|⟨_,_,_,_,_,_,_,z⟩);rotate_left;exact z.elim
  obtain⟨c0,c1⟩:=c;cases f;exact Bm (h m g hm)
end
theorem nR {a:Aw Bf}(h:0<n)(Y:n<=a.size):a.toList.take n=a.toList.take (n-1)++[a.getD (n-1) nv]:=by
 obtain⟨m,rfl⟩:∃ m,n=m+1:=⟨n-1,by lia⟩
 rw[Nd,List.take_add_one];have Q:m<a.size:=by lia
 simp[Gk,Q]
theorem sU {a:Aw Bf}{i:Ah}(h:i<=n):a.toList.take i++(a.extract i n).toList=a.toList.take n:=by
 rw[Hy,Hs]
 conv=>rhs;rw[show n=i+(n-i) by lia,List.take_add]
theorem kQ {a:Aw Bf}:(a.extract 0 n).toList=a.toList.take n:=by
 rw[Hy,Hs];simp
theorem rF {a:Aw Bf}{i:Ah}{x:Bf}(Q:i<=n)(h:x∈(a.extract i n).toList):∃ j,i<=j/\j<n/\j<a.size/\x=a.getD j nv:=by
 obtain⟨k,rfl⟩:∃ k,n=i+k:=⟨n-i,by lia⟩
 exact jZ h
def GH (r:Bf->Am)(a b o:Aw Bf)(i j:Ah):Prop:=Mh r (a.toList.take i) (b.toList.take j) o.toList.reverse (a.toList++b.toList)
section
variable {r:Bf->Am}{a b o:Aw Bf}{i j k:Ah}
theorem GH.pa (Q:b.toList.Pairwise (Le r))(h:GH r a b o i j)(h1:0<i)(h2:i<=a.size)(G:j<=b.size)(l:0<j->r (b.getD (j-1) nv)<=r (a.getD (i-1) nv)):GH r a b (o.push (a.getD (i-1) nv)) (i-1) j:=by
 have U:Mh r (a.toList.take (i-1)++[a.getD (i-1) nv]) (b.toList.take j) o.toList.reverse (a.toList++b.toList):=by rw[<- nR h1 h2];exact h
 have:=U.a λx Y y J=>by
  cases Cu.mp J;obtain⟨m,O,N,rfl⟩:=gF Y;exact Ft (wN Q (by lia) (by lia)) (l (by lia))
 unfold GH;rw[Ec,Mj];exact this
theorem GH.pb (Q:a.toList.Pairwise (Le r))(h:GH r a b o i j)(h1:0<j)(h2:j<=b.size)(hi:i<=a.size)(l:0<i->r (a.getD (i-1) nv)<=r (b.getD (j-1) nv)):GH r a b (o.push (b.getD (j-1) nv)) i (j-1):=by
 have U:Mh r (a.toList.take i) (b.toList.take (j-1)++[b.getD (j-1) nv]) o.toList.reverse (a.toList++b.toList):=by rw[<- nR h1 h2];exact h
 have:=U.b λx Y y J=>by
  cases Cu.mp J;obtain⟨m,N,G,rfl⟩:=gF Y;exact Ft (wN Q (by lia) (by lia)) (l (by lia))
 unfold GH;rw[Ec,Mj];exact this
theorem GH.ea (Y:b.toList.Pairwise (Le r))(h:GH r a b o i j)(Q:k<=i)(L:j<=b.size)(l:0<j->∀ m,k<=m->m<i->m<a.size->r (b.getD (j-1) nv)<=r (a.getD m nv)):GH r a b (o++(a.extract k i).reverse) k j:=by
 have C:Mh r (a.toList.take k++(a.extract k i).toList) (b.toList.take j) o.toList.reverse (a.toList++b.toList):=by rw[sU Q];exact h
 have:=C.a λx N y O=>by
  obtain⟨m,E,T,rfl⟩:=gF N;obtain⟨U,B,J,G,rfl⟩:=rF Q O;exact Ft (wN Y (by lia) (by lia)) (l (by lia) U B J G)
 unfold GH;rw[Dx,Lx,Mj,Wq];exact this
theorem GH.eb (G:a.toList.Pairwise (Le r))(h:GH r a b o i j)(Q:k<=j)(hi:i<=a.size)(l:0<i->∀ m,k<=m->m<j->m<b.size->r (a.getD (i-1) nv)<=r (b.getD m nv)):GH r a b (o++(b.extract k j).reverse) i k:=by
 have C:Mh r (a.toList.take i) (b.toList.take k++(b.extract k j).toList) o.toList.reverse (a.toList++b.toList):=by rw[sU Q];exact h
 have:=C.b λx N y O=>by
  obtain⟨m,T,L,rfl⟩:=gF N;obtain⟨J,B,Y,U,rfl⟩:=rF Q O;exact Ft (wN G (by lia) (by lia)) (l (by lia) J B Y U)
 unfold GH;rw[Dx,Lx,Mj,Wq];exact this
theorem GH.fin (h:GH r a b o i j)(e:i=0\/j=0):Mo r (a.toList++b.toList) (a.extract 0 i++b.extract 0 j++o.reverse):=by
 refine⟨?_,?_⟩ <;> rw[Dx,Dx,kQ,kQ,Lx]
 .exact h.pm
 .rcases e with rfl|rfl
  .rw[AaI,Jn];exact h.p2
  .rw[AaI,Hg];exact h.p1
theorem GH.first (h:GH r a b o i j)(e:j=1)(U:0<b.size)(l:∀ x∈a.toList,Le r (b.getD 0 nv) x):Mo r (a.toList++b.toList) (b.extract 0 j++a.extract 0 i++o.reverse):=by
 subst e;have J:b.toList.take 1=[b.getD 0 nv]:=by rw[nR (by lia) (by lia)];rfl
 refine⟨?_,?_⟩ <;> rw[Dx,Dx,kQ,kQ,Lx]
 .refine Pq ?_ h.pm
  exact Lb _ Lm
 .have Q:=h.p2
  rw[J] at Q ⊢;rw[Cj];rw[Dz] at Q ⊢;refine⟨Q.1,h.p1,λx Y y hy=>?_⟩;rcases Bw.mp hy with hy|hy
  .cases Cu.mp Y
   exact l y (Ge hy)
  .exact Q.2.2 x Y y hy
end
structure MH (r:Bf->Am)(a b:Aw Bf)(Z:Ah->Ah->Prop)(o:Aw Bf)(i j:Ah):Prop where
 G:GH r a b o i j
 hi:0<i
 hi2:i<=a.size
 hj:1<j
 hj2:j<=b.size
 z:Z i j
section
variable {prog:Be}{w:Br}{A:Bk}{E:ae}{s:Ag}{κ : Mv}{U:Bf->Prop}{r:Bf->Am}
theorem hW (C:Cm (Au prog w) A s κ U r){a b:Aw Bf}{Q:Aw Bf->Fa->Prop}{st:Fa}(hk:kindOf st=κ)(ua:∀ x∈a.toList,U x)(ub:∀ x∈b.toList,U x)(sa:a.toList.Pairwise (Le r))(sb:b.toList.Pairwise (Le r))
  (h:∀ m g,Mo r (a.toList++b.toList) m->Q m (eD st g)) (ha:0<a.size) (hb:0<b.size) (h0:∀ x∈a.toList,Le r (b.getD 0 nv) x) (h1:r (b.getD (b.size-1) nv)<=r (a.getD (a.size-1) nv)):wpS (Au prog w) A E s (VS a b) Q st:=by
 have G0:GH r a b #[] a.size b.size:=by
  unfold GH;rw[Es (by simp),Es (by simp)]
  exact⟨by simpa using sa,by simpa using sb,by simp⟩
 have G1:=G0.pa sb ha (Av _) (Av _) λ_=>h1;refine Ay (Rt (Gw ⟨rfl,?_⟩));refine Ay (zF (i:=a.size-1) (by lia) ?_)
 dsimp only;refine qR (λe=>Bm (h _ (Uz st) (G1.fin (.inl (by simpa using e))))) λe1=>?_
 refine qR (λe=>Bm (h _ (Uz st) (G1.first (by simpa using e) hb h0))) λe2=>?_
 have e1:¬ a.size-1=0:=by simpa using e1
 have e2:¬ b.size=1:=by simpa using e2
 refine Ay (Nn ?_);refine Ay (Hl (Fe (I:=λx=>MI (λo i j q=>(i,j,o,q)) (MH r a b λi j=>x+i+j<a.size+b.size) st)
  (Q:=MQ (λo i j q=>(i,j,o,q)) (Mo r (a.toList++b.toList)) (λ_ _ _=>Fb) st) ?_ ?_ ⟨Uz st,_,a.size-1,b.size,_,rfl,rfl,G1,by lia,by lia,by lia,by lia,by lia⟩) ?_)
 .rintro x c L _ hx ⟨g,o,i,j,mg,rfl,rfl,G,B,Y,T,J,hp⟩
  dsimp only;refine Ay (Hl (Fe (I:=λy=>MI (λo i j q=>(i,j,o,q)) (MH r a b λN O=>N+O+y<=i+j) st)
   (Q:=MQ (λo i j q=>(i,j,o,q)) (Mo r (a.toList++b.toList)) (MH r a b λN O=>x+1+N+O<a.size+b.size) st) ?_ ?_ ⟨g,o,i,j,(0,0),rfl,rfl,G,B,Y,T,J,by lia⟩) ?_)
  .rintro y c L _ hy ⟨g,o,N,O,⟨p,q⟩,rfl,rfl,G,B,Y,T,J,u⟩
   dsimp only;refine Ay (zF (i:=O-1) (by lia) (Ay (zF (i:=N-1) (by lia) (Ay (C.lt (ub _ (zS (i:=O-1) (by lia))) (ua _ (zS (i:=N-1) (by lia))) hk ?_)))))
   dsimp only;refine qR (λl=>?_) λl=>?_
   .have l:r (b.getD (O-1) nv)<r (a.getD (N-1) nv):=by simpa using l
    have G2:=G.pa sb B Y J λ_=>Hb l;refine Ay (zF (i:=N-1) (by lia) ?_)
    refine qR (λe=>Bm (.fin _ _ rfl rfl (G2.fin (.inl (by simpa using e))))) λe=>?_
    have e:¬ N-1=0:=by simpa using e
    exact qR (λ_=>Bm (.on _ _ _ _ (_,_) rfl rfl ⟨G2,by lia,by lia,T,J,by lia⟩)) λ_=>Bm ⟨_,_,_,_,(_,_),rfl,rfl,G2,by lia,by lia,T,J,by lia⟩
   .have l:¬ r (b.getD (O-1) nv)<r (a.getD (N-1) nv):=by simpa using l
    have G2:=G.pb sa (by lia) J Y λ_=>AaF.mp l
    refine Ay (zF (i:=O-1) (by lia) ?_)
    refine qR (λe=>Bm (.fin _ _ rfl rfl (G2.first (by simpa using e) hb h0))) λe=>?_
    have e:¬ O-1=1:=by simpa using e
    exact qR (λ_=>Bm (.on _ _ _ _ (_,_) rfl rfl ⟨G2,B,Y,by lia,by lia,by lia⟩)) λ_=>Bm ⟨_,_,_,_,(_,_),rfl,rfl,G2,B,Y,by lia,by lia,by lia⟩
  .rintro c L ⟨g,o,N,O,q,rfl,rfl,G,B,Y,T,J,u⟩
   exact .on g _ _ _ _ rfl rfl ⟨G,B,Y,T,J,by lia⟩
  .rintro c L (⟨g,m,rfl,hc,hm⟩|⟨g,o,N,O,⟨p,q⟩,rfl,rfl,G,B,Y,T,J,u⟩)
   .obtain⟨c0,c1⟩:=c
    cases hc;exact Bm (.fin _ m rfl rfl hm)
   dsimp only;refine Ay (Rt (Gw ⟨rfl,?_⟩));refine Ay (Hl (Fe (I:=λy=>MI (λo i j q=>(i,j,o,q)) (MH r a b λN O=>x+1+N+O<a.size+b.size) st)
    (Q:=MQ (λo i j q=>(i,j,o,q)) (Mo r (a.toList++b.toList)) (MH r a b λN O=>x+1+N+O<a.size+b.size) st) ?_ ?_ ⟨g,o,N,O,(_,_,_),rfl,rfl,G,B,Y,T,J,u⟩) ?_)
   .rintro y c L _ hy ⟨g,o,i,j,⟨p,q,t⟩,rfl,rfl,G,B,Y,T,J,u⟩
    dsimp only;generalize p-1=p1;apply i3 (x:=p1) (y:=p);intro mg;refine Ay (Jk ?_);have j0:0<j:=Sm T;have jb:j-1<b.size:=Az (Mk j0 Jh) J;refine Ay (zF jb ?_);refine Ay (V6 C hk (Mk B Jh) (by rw[Ha];exact Y) (λN zl=>ua _ (zS (by rw[Ha];exact Az zl Y))) (ub _ (zS jb)) (λN O h1 h2=>wN sa (Il h1 0) (by rw[Ha];exact Az h2 Y)) λk k1 k2 k3=>?_)
    simp only[Ha] at k2 k3;dsimp only;have G2:=G.ea sb k1 J λ_ m q1 q2 _=>Hb (k3 m q1 q2);have kc:i-k=0->k=i:=λh=>Uy k1 (Vw h);generalize i-k=ac at kc ⊢;generalize o++(a.extract k i).reverse=o1 at G2 ⊢;apply WY (x:=k) (w:=o1) (y:=i) (v:=o) (P:=λM H=>GH r a b H M j/\0<M/\M<=a.size/\x+1+M+j<a.size+b.size/\r (a.getD (M-1) nv)<=r (b.getD (j-1) nv))
    case h1=>exact λ_ e=>Bm (.fin _ _ rfl rfl (G2.fin (.inl (by simpa using e))))
    case hK =>
     rintro M H ⟨G2,hl,f,u,hc⟩;have d:M-1<a.size:=Az (Mk hl Jh) f;refine Ay (zF jb ?_);have G3:=G2.pb sa j0 J f λ_=>hc;refine qR (λe=>Bm (.fin _ _ rfl rfl (G3.first (by simpa using e) hb h0))) λe5=>?_
     have e5:¬ j-1=1:=by simpa using e5
     have j1:0<j-1:=Sn T;refine Ay (zF d ?_);refine Ay (V7 C hk (Mk j1 Jh) (by rw[Ha];exact Fc jb) (λi B=>ub _ (zS (by rw[Ha];exact Ig B jb))) (ua _ (zS d)) (λi j h1 h2=>wN sb (Il h1 0) (by rw[Ha];exact Ig h2 jb)) λm m1 m2 m3=>?_)
     simp only[Ha] at m2 m3;dsimp only;have G4:=G3.eb sa m1 f λ_ m q1 q2 _=>m3 m q1 q2;have mc:j-1-m=0->m=j-1:=λh=>Uy m1 (Vw h);generalize j-1-m=bc at mc ⊢;generalize H.push (b.getD (j-1) nv)++(b.extract m (j-1)).reverse=o2 at G4 ⊢;apply WZ (x:=m) (w:=o2) (y:=j-1) (v:=H.push (b.getD (j-1) nv)) (P:=λnb H=>GH r a b H M nb/\1<nb/\nb<=j-1/\r (b.getD (nb-1) nv)<=r (a.getD (M-1) nv))
     case h1=>exact λ_ e=>Bm (.fin _ _ rfl rfl (G4.first (by simpa using e) hb h0))
     case h1'=>exact λ_ _ e=>Bm (.fin _ _ rfl rfl (G4.fin (.inr (by simpa using e))))
     case hK =>
      rintro nb H ⟨G4,h4,h5,zc⟩;have h6:nb<=b.size:=Bq h5 (Fc jb);have zb:x+1+(M-1)+nb<a.size+b.size:=Nb (AaH (Il (Nat.sub_le _ _) _) (Bq h5 (Nat.sub_le _ _))) u;refine Ay (zF d ?_);have G5:=G4.pa sb hl f h6 λ_=>zc;refine qR (λe=>Bm (.fin _ _ rfl rfl (G5.fin (.inl (by simpa using e))))) λe7=>?_
      have e7:0<M-1:=Ng (by simpa using e7)
      exact qR (λ_=>Bm (.on _ _ _ _ (_,_,_) rfl rfl ⟨G5,e7,Fc d,h4,h6,zb⟩)) λ_=>Bm ⟨_,_,_,_,(_,_,_),rfl,rfl,G5,e7,Fc d,h4,h6,zb⟩
     case h2 =>
      intro _ e6 e7;have e6:¬ m=1:=by simpa using e6
      have e7:¬ m=0:=by simpa using e7
      exact⟨G4,Hv (Ng e7) (Fm e6),m1,Hb (m2 (m-1) (Mk (Ng e7) Jh))⟩
     case h3 =>
      intro e;cases mc (Lc e);exact⟨G3,Hv j1 (Fm e5),Av _,Hb (m2 (j-1-1) (Mk j1 Jh))⟩
    case h2 =>
     intro _ e;have e3:0<k:=Ng (by simpa using e)
     exact⟨G2,e3,Bq k1 Y,Nb (Wp (Il k1 _) _) u,k2 (k-1) (Mk e3 Jh)⟩
    case h3 =>
     intro e;have e:=kc (Lc e);exact⟨G,B,Y,u,k2 (i-1) (by rw[e];exact Mk B Jh)⟩
   .rintro c L ⟨g,o,N,O,q,rfl,rfl,G,B,Y,T,J,u⟩
    exact .on g _ _ _ _ rfl rfl ⟨G,B,Y,T,J,by lia⟩
   .rintro c L (⟨g,m,rfl,hc,hm⟩|⟨g,o,N,O,⟨p,q,t⟩,rfl,rfl,G,B,Y,T,J,u⟩)
    .obtain⟨c0,c1⟩:=c
     cases hc;exact Bm (.fin _ m rfl rfl hm)
    dsimp only;refine Ay (Jk ?_);exact Bm ⟨_,_,_,_,_,rfl,rfl,G,B,Y,T,J,by lia⟩
 .rintro c L ⟨g,o,N,O,p,rfl,rfl,G,B,Y,T,J,u⟩
  exfalso
  lia
 .rintro c L (⟨g,m,rfl,hc,hm⟩|⟨_,_,_,_,_,_,_,z⟩);rotate_left;exact z.elim
  obtain⟨c0,c1⟩:=c;cases hc;exact Bm (h m g hm)
end
theorem Q8:∀ (l:Aa Bf) (arr:Aw Bf) (o d:Ah),o+d+l.length<=arr.size->∀ k,((l.zipIdx d).foldl (λa p=>a.setIfInBounds (o+p.2) p.1) arr)[k]? = if o+d<=k/\k<o+d+l.length then l[k-(o+d)]? else arr[k]?
 |[],arr,o,d,h,k=>by
  rw[Bb (by simp only[Dd];lia)];rfl
 |x::l,arr,o,d,h,k=>by
  rw[Bc] at h;rw[Ts,Pj,Q8 l _ o (d+1) (by rw[Array.size_setIfInBounds];lia) k,Bc]
  by_cases Y:k=o+d
  .subst Y
   rw[Bb (by lia),Ax (by lia),Yr,Array.getElem?_setIfInBounds_self_of_lt (by lia)]
   rfl
  .by_cases Q:o+(d+1)<=k/\k<o+(d+1)+l.length
   .rw[Ax Q,Ax (by lia),show k-(o+d)=(k-(o+(d+1)))+1 by lia,Kg]
   .rw[Bb Q,Bb (by lia),Array.getElem?_setIfInBounds_ne (by lia)]
def wb (arr:Aw Bf)(o:Ah)(m:Aw Bf):Aw Bf:=m.toList.zipIdx.foldl (λa p=>a.setIfInBounds (o+p.2) p.1) arr
theorem i0 {o:Ah}(h:o+m.size<=arr.size)(k:Ah):(wb arr o m).getD k nv=if o<=k/\k<o+m.size then m.getD (k-o) nv else arr.getD k nv:=by
 have e:=Q8 m.toList arr o 0 (by simpa using h) k
 simp only[Nat.add_zero,Bi,Ba] at e;rw[Ex,Ex,Ex];unfold wb;rw[e]
 split <;> rfl
theorem Q9 {o d:Ah}(h:o+m.size<=arr.size)(Q:d<m.size):(wb arr o m).getD (o+d) nv=m.getD d nv:=by
 rw[i0 h,Ax ⟨Gy _ _,Nat.add_lt_add_left Q _⟩,Gb]
theorem uS {o k:Ah}(h:o+m.size<=arr.size)(Q:k<o\/o+m.size<=k):(wb arr o m).getD k nv=arr.getD k nv:=by
 rw[i0 h,Bb (by lia)]
theorem JN {a:Aw Bf}{i:Ah}(h:i+n<=a.size):(a.extract i (i+n)).size=n:=by rw[Ko];lia
theorem M7 {o:Ah}(h:o+m.size<=arr.size):(wb arr o m).toList=arr.toList.take o++(m.toList++arr.toList.drop (o+m.size)):=by
 apply Zn;intro k;have e:=Q8 m.toList arr o 0 (by simpa using h) k
 simp only[Nat.add_zero,Bi,Ba] at e;unfold wb;rw[Ba,e];have Q:(arr.toList.take o).length=o:=by rw[Dn,Bi];lia
 by_cases Y:k<o
 .rw[Bb (by lia),Ci (by lia),Mx Y,Ba]
 .rw[Cw (by lia),Q]
  by_cases J:k<o+m.size
  .rw[Ax (by lia),Ci (by rw[Bi];lia),Ba]
  .rw[Bb (by lia),Cw (by rw[Bi];lia),Ra,Bi,Ba]
   congr 1
   lia
theorem M8 {o:Ah}(h:o+n<=arr.size)(p:m.toList.Perm (arr.extract o (o+n)).toList):(wb arr o m).toList.Perm arr.toList:=by
 have Q:m.size=n:=by
  have:=p.length_eq;rw[Bi,Bi,Ko] at this
  lia
 rw[M7 (by lia),Q]
 have e:arr.toList=arr.toList.take o++((arr.extract o (o+n)).toList++arr.toList.drop (o+n)):=by rw[bT,Ov]
 conv=>rhs;rw[e]
 exact Jg _ (Lb _ p)
def Seg (r:Bf->Am)(a:Aw Bf)(lo n:Ah):Prop:=∀ i j,lo<=i->i<=j->j<lo+n->r (a.getD i nv)<=r (a.getD j nv)
theorem aQ {r:Bf->Am}{a:Aw Bf}(h:Seg r a lo n){i k:Ah}(h1:lo<=i)(h2:i+k<=lo+n)(h3:i+k<=a.size):(a.extract i (i+k)).toList.Pairwise (Le r):=by
 rw[Jr];intro x y Y G l;have U:x<k:=by rw[Bi,Ko] at Y;lia
 have Q:y<k:=by rw[Bi,Ko] at G;lia
 have e:=h (i+x) (i+y) (by lia) (by lia) (by lia)
 have N:i+x<a.size:=by lia
 have J:i+y<a.size:=by lia
 simpa [Gk,N,J,Le] using e
theorem sT {a:Aw Bf}{i k m:Ah}(h:m<k)(h3:i+k<=a.size):(a.extract i (i+k)).getD m nv=a.getD (i+m) nv:=by
 have Y:i+m<a.size:=by lia
 have J:m<(a.extract i (i+k)).size:=by rw[Ko];lia
 have Q:m<min (i+k) a.size-i:=by lia
 simp[Gk,Y,Q]
theorem V2 {a:Aw Bf}{i j k:Ah}(h1:i<=j)(h2:j<=k):(a.extract i j).toList++(a.extract j k).toList=(a.extract i k).toList:=by
 rw[<- Dx,Array.extract_append_extract]
 congr 2 <;> lia
section
variable {prog:Be}{w:Br}{A:Bk}{E:ae}{s:Ag}{κ : Mv}{U:Bf->Prop}{r:Bf->Am}
theorem M9 {M:Kq}{σ:Type}{Q:PUnit->σ->Prop}{st Y:σ}(h:Q ⟨⟩ Y):wpS M A E s (set Y:Lz σ Jl PUnit) Q st:=by
 unfold wpS;rw[StateT.run_set];exact Al ⟨rfl,h⟩
theorem hJ (C:Cm (Au prog w) A s κ U r){i Y B pw L pz:Ah}{Q:As->Fa->Prop}{arr:Aw Bf}{pd:Aw (Ah × Ah × Ah)}{g:Ah}(ua:∀ x∈arr.toList,U x)(e1:pd[i]? = Ab (Y,B,pw))(e2:pd[i+1]? = Ab (Y+B,L,pz))(p1:0<B)(p2:0<L)(hz:Y+B+L<=arr.size)
  (H:Seg r arr Y B) (p:Seg r arr (Y+B) L)
  (h:∀ N g,N.toList.Perm arr.toList->(∀ k,k<Y\/Y+B+L<=k->N.getD k nv=arr.getD k nv)->Seg r N Y (B+L)->Q true (Cy κ N ((pd.setIfInBounds i (Y,B+L,pw)).eraseIdxIfInBounds (i+1)) g none)) :
  wpS (Au prog w) A E s (mergeAt' i) Q (Cy κ arr pd g none):=by
 refine Ay (Nn ?_);dsimp only;rw[e1,e2];dsimp only;refine Ay (M9 ?_);refine Ay (zF (i:=Y+B) (by lia) ?_)
 refine Ay (V6 C rfl (by lia) (by lia) (λi hi=>ua _ (zS (by lia))) (ua _ (zS (by lia))) (λi j a b=>H _ _ (by lia) (by lia) (by lia)) λk k1 k2 k3=>?_)
 obtain⟨t,rfl⟩:=Ff k1;clear k1 p1 e1 e2;simp only[Gb,<- Mf] at *;refine qR (λe=>Bm (h arr g (Nt _) (λ_ _=>rfl) λi j a b c=>?_)) λe=>?_
 .have e:t=0:=by simpa using e
  subst e;by_cases q1:j<Y+k
  .exact H i j a b q1
  .by_cases q2:Y+k<=i
   .exact p i j q2 b (by lia)
   .have:=k2 (i-Y) (by lia)
    rw[show Y+(i-Y)=i by lia] at this
    exact Ft this (p _ _ (Av _) (by lia) (by lia))
 have e:t≠0:=by simpa using e
 obtain⟨u,rfl⟩:∃ u,t=u+1:=⟨t-1,by lia⟩
 clear e;rw[show Y+k+(u+1)-1=Y+k+u from rfl]
 refine Ay (zF (i:=Y+k+u) (by lia) ?_)
 refine Ay (V7 C rfl (by lia) (by lia) (λi hi=>ua _ (zS (by lia))) (ua _ (zS (by lia))) (λi j a b=>p _ _ (by lia) (by lia) (by lia)) λm m1 m2 m3=>?_)
 dsimp only;have hk:=k3 k (Av _) (by lia)
 have hq:=H (Y+k) (Y+k+u) (by lia) (by lia) (by lia)
 refine qR (λe=>?_) λe=>?_
 .have e:m=0:=by simpa using e
  subst e;exact absurd (Rc hk (Ft hq (m3 0 (Av _) p2))) (Int.lt_irrefl _)
 have e:m≠0:=by simpa using e
 have zx:=JN (a:=arr) (i:=Y+k) (n:=u+1) (by lia)
 have zy:=JN (a:=arr) (i:=Y+k+(u+1)) (n:=m) (by lia)
 have px:=aQ H (i:=Y+k) (k:=u+1) (by lia) (by lia) (by lia)
 have py:=aQ p (Av _) (k:=m) (by lia) (by lia)
 have f:∀ x∈(arr.extract (Y+k) (Y+k+(u+1))).toList,U x/\r (arr.getD (Y+k+(u+1)) nv)<=r x/\r x<=r (arr.getD (Y+k+u) nv):=λx O=>by
  obtain⟨j,q1,q2,q3,rfl⟩:=jZ O;exact⟨ua _ (zS q3),Hb (Rc hk (H (Y+k) j (by lia) q1 (by lia))),H j _ (by lia) (by lia) (by lia)⟩
 have T:∀ x∈(arr.extract (Y+k+(u+1)) (Y+k+(u+1)+m)).toList,U x/\r (arr.getD (Y+k+(u+1)) nv)<=r x/\r x<=r (arr.getD (Y+k+u) nv):=λx O=>by
  obtain⟨j,q1,q2,q3,rfl⟩:=jZ O;obtain⟨d,rfl⟩:=Ff q1;exact⟨ua _ (zS q3),p _ _ (Av _) q1 (by lia),Hb (m2 d (by lia))⟩
 have zb:∀ G l,Mo r ((arr.extract (Y+k) (Y+k+(u+1))).toList++(arr.extract (Y+k+(u+1)) (Y+k+(u+1)+m)).toList) G->Q true (Cy κ (wb arr (Y+k) G) ((pd.setIfInBounds i (Y,k+(u+1)+L,pw)).eraseIdxIfInBounds (i+1)) l none):=by
  intro G l M;have hm:G.size=u+1+m:=by
   have:=M.pm.length_eq;rw[Ca,Bi,Bi,Bi,zx,zy] at this;exact this
  have J:Y+k+G.size<=arr.size:=by lia
  have bd:∀ d,d<G.size->r (arr.getD (Y+k+(u+1)) nv)<=r (G.getD d nv)/\r (G.getD d nv)<=r (arr.getD (Y+k+u) nv):=λd hd=>(Bw.mp (M.pm.mem_iff.mp (zS hd))).elim (λq=>(f _ q).2) λq=>(T _ q).2;refine h _ l (M8 (n:=u+1+m) (by lia) ?_) (λj hj=>uS J (by lia)) λi j a b c=>?_
  .rw[<- Mf (Y+k),<- V2 (j:=Y+k+(u+1)) (by lia) (by lia)]
   exact M.pm
  rcases Lw i (Y+k) with i1|i1
  .obtain⟨x,rfl⟩:=Ff a
   have v:=k2 x (by lia)
   rw[uS J (.inl i1)];rcases Lw j (Y+k) with j1|j1
   .rw[uS J (.inl j1)];exact H _ j a b (by lia)
   obtain⟨y,rfl⟩:=Ff j1;refine Ft v ?_;rcases Lw y G.size with j2|j2
   .rw[Q9 J j2];exact(bd y j2).1
   .rw[uS J (.inr (by lia))];exact p _ _ (Av _) (by lia) (by lia)
  obtain⟨x,rfl⟩:=Ff i1;obtain⟨y,rfl⟩:=Ff (Bq i1 b);rcases Lw x G.size with i2|i2
  .rw[Q9 J i2]
   rcases Lw y G.size with j2|j2
   .rw[Q9 J j2];exact wN M.up (by lia) j2
   .rw[uS J (.inr (by lia))]
    obtain⟨z,rfl⟩:∃ z,y=u+1+z:=⟨y-(u+1),by lia⟩
    have v:=m3 z (by lia) (by lia)
    rw[Mf (Y+k)] at v;exact Ft (bd x i2).2 v
  .rw[uS J (.inr (by lia)),uS J (.inr (by lia))]
   exact p _ _ (by lia) b (by lia)
 have y0:(arr.extract (Y+k+(u+1)) (Y+k+(u+1)+m)).getD 0 nv=arr.getD (Y+k+(u+1)) nv:=sT (by lia) (by lia)
 have xl:(arr.extract (Y+k) (Y+k+(u+1))).getD ((arr.extract (Y+k) (Y+k+(u+1))).size-1) nv=arr.getD (Y+k+u) nv:=by rw[zx];exact sT (by lia) (by lia)
 have ux:=λx O=>(f x O).1;have uy:=λx O=>(T x O).1;have nx:0<(arr.extract (Y+k) (Y+k+(u+1))).size:=by lia
 have ny:0<(arr.extract (Y+k+(u+1)) (Y+k+(u+1)+m)).size:=by lia
 have I:∀ x∈(arr.extract (Y+k) (Y+k+(u+1))).toList,r (arr.getD (Y+k+(u+1)) nv)<=r x:=λx O=>(f x O).2.1;have o:∀ x∈(arr.extract (Y+k+(u+1)) (Y+k+(u+1)+m)).toList,r x<=r (arr.getD (Y+k+u) nv):=λx O=>(T x O).2.2;rw[<- y0] at I;rw[<- xl] at o;refine qR (λ_=>Ay (hX C rfl ux uy px py (λG l M=>Ay (Jk (Ay (Nn (Bm (zb G l M)))))) nx ny (I _ (zS nx)) o)) λ_=>Ay (hW C rfl ux uy px py (λG l M=>Ay (Jk (Ay (Nn (Bm (zb G l M)))))) nx ny I (o _ (zS (by lia))))
end
def mir (a:Aw Bf)(i j:Ah):Aw Bf:=mirror a i j ((j-i)/2)
theorem wJ {a:Aw Bf}{i j:Ah}(Q:j<=a.size)(k:Ah):(mir a i j).getD k nv=if i<=k/\k<j then a.getD (i+j-1-k) nv else a.getD k nv:=by
 rw[Ex,Ex,Ex];unfold mir;rw[getElem?_mirror_all Q]
 split <;> rfl
structure Cr (a b:Aw Bf)(lo n:Ah):Prop where
 pm:b.toList.Perm a.toList
 out:∀ k,k<lo\/lo+n<=k->b.getD k nv=a.getD k nv
theorem Cr.z {a b:Aw Bf}(h:Cr a b lo n):b.size=a.size:=by
 have:=h.pm.length_eq;simpa using this
theorem Cr.rfl' {a:Aw Bf}:Cr a a lo n:=⟨Nt _,λ_ _=>rfl⟩
theorem Cr.mir {a b:Aw Bf}{i j:Ah}(h:Cr a b lo n)(h1:lo<=i)(h2:j<=lo+n)(h3:j<=a.size):Cr a (mir b i j) lo n:=
 ⟨(Rm.mp (mirror_perm _ _ _ _)).trans h.pm,λk Q=>by rw[wJ (by rw[h.z];exact h3),Bb (by lia)];exact h.out k Q⟩
def sx (r:Bf->Am)(a:Aw Bf)(lo n:Ah):Prop:=∀ i j,lo<=i->i<=j->j<lo+n->r (a.getD j nv)<=r (a.getD i nv)
theorem UQ {r:Bf->Am}{a:Aw Bf}(h:Seg r a lo n)(h1:1<=n)(l:r (a.getD (lo+n-1) nv)<=r (a.getD (lo+n) nv)):Seg r a lo (n+1):=λi j Q J U=>by
 by_cases q:j<lo+n
 .exact h i j Q J q
 .have:j=lo+n:=by lia
  subst this;by_cases Y:i=lo+n
  .subst Y;exact Ou _
  .exact Ft (h i (lo+n-1) Q (by lia) (by lia)) l
theorem kN {r:Bf->Am}{a:Aw Bf}(h:sx r a lo n)(h1:1<=n)(l:r (a.getD (lo+n) nv)<=r (a.getD (lo+n-1) nv)):sx r a lo (n+1):=λi j Q J U=>by
 by_cases q:j<lo+n
 .exact h i j Q J q
 .have:j=lo+n:=by lia
  subst this;by_cases Y:i=lo+n
  .subst Y;exact Ou _
  .exact Ft l (h i (lo+n-1) Q (by lia) (by lia))
theorem aR {r:Bf->Am}{a:Aw Bf}:Seg r a lo 1:=λi j Y J Q=>by
 have:i=j:=by lia
 subst this;exact Ou _
theorem GU {r:Bf->Am}{a:Aw Bf}:sx r a lo 1:=λi j Y J Q=>by
 have:i=j:=by lia
 subst this;exact Ou _
def iD (r:Bf->Am)(a:Aw Bf)(lo n q:Ah):Prop:=q+1<=n/\∀ k,lo+n-(q+1)<=k->k<lo+n->r (a.getD k nv)=r (a.getD (lo+n-1) nv)
set_option tactic.hygienic true in
theorem kO {r:Bf->Am}{a:Aw Bf}{q:Ah}(Q:lo+n<=a.size)(h:iD r a lo n q)(k:Ah):r ((mir a (lo+n-(q+1)) (lo+n)).getD k nv)=r (a.getD k nv):=by
 rw[wJ Q];have:=h.1
 split
 .rename_i c
  rw[h.2 k (by lia) c.2,h.2 _ (by lia) (by lia)]
 .rfl
theorem GT {r:Bf->Am}{a:Aw Bf}(Q:lo+n<=a.size)(h:sx r a lo n):Seg r (mir a lo (lo+n)) lo n:=λi j J U Y=>by
 rw[wJ Q,wJ Q,Ax (by lia),Ax (by lia)]
 exact h _ _ (by lia) (by lia) (by lia)
section
variable {prog:Be}{w:Br}{A:Bk}{E:ae}{s:Ag}{κ : Mv}{U:Bf->Prop}{r:Bf->Am}
theorem kH (C:Cm (Au prog w) A s κ U r){i j:Ah}{arr:Aw Bf}{G:Aw (Ah × Ah × Ah)}{g:Ah}{Q:Ak As->Fa->Prop}(J:∀ x∈arr.toList,U x)(hi:i<arr.size)(Y:j<arr.size)
  (q:Q (Ab (decide (r (arr.getD i nv)<r (arr.getD j nv)))) (Cy κ arr G g none)):wpS (Au prog w) A E s (ltAt' i j) Q (Cy κ arr G g none):=by
 refine Ay (Nn ?_);exact Ay (zF hi (Ay (zF Y (C.lt (J _ (zS hi)) (J _ (zS Y)) rfl q))))
theorem b9 {i j:Ah}{Y:Aw (Ah × Ah × Ah)}{g:Ah}{Q:PUnit->Fa->Prop}(q:Q ⟨⟩ (Cy κ (mir arr i j) Y g none)):wpS (Au prog w) A E s (reverseSlice' i j) Q (Cy κ arr Y g none):=Jk q
theorem RQ {σ α:Type}{c:Prop}[Gg c]{Q:α->σ->Prop}{st:σ}{y:Ah}{K:Ah->Lz σ Jl α}{u:Lz σ Jl α}(P:Ah->σ->Prop)(hK:∀ z st,P z st->wpS (Au prog w) A E s (K z) Q st)(h1:c->(∀ z st,P z st->wpS (Au prog w) A E s (K z) Q st)->wpS (Au prog w) A E s u Q st)(h2:¬ c->P y st):wpS (Au prog w) A E s (if c then u else K y) Q st:=qR (λe=>h1 e hK) λe=>hK _ _ (h2 e)
theorem Y0 {σ α:Type}{c:Prop}[Gg c]{Q:α->σ->Prop}{st:σ}{K u:Lz σ Jl α}(P:σ->Prop)(hK:∀ st,P st->wpS (Au prog w) A E s K Q st)(h1:c->(∀ st,P st->wpS (Au prog w) A E s K Q st)->wpS (Au prog w) A E s u Q st)(h2:¬ c->P st):wpS (Au prog w) A E s (if c then u else K) Q st:=qR (λe=>h1 e hK) λe=>hK _ (h2 e)
theorem d8 (C:Cm (Au prog w) A s κ U r){lo N:Ah}{arr:Aw Bf}{L:Aw (Ah × Ah × Ah)}{g:Ah}{Q:Ak Ah->Fa->Prop}(ua:∀ x∈arr.toList,U x)(h1:1<=N)(hz:lo+N<=arr.size)
  (h:∀ n b,1<=n->n<=N->Cr arr b lo N->Seg r b lo n->Q (Ab n) (Cy κ b L g none)):wpS (Au prog w) A E s (countRun' lo N) Q (Cy κ arr L g none):=by
 have p:∀ {b:Aw Bf},Cr arr b lo N->∀ x∈b.toList,U x:=λh x u=>ua x (h.pm.mem_iff.mp u);have T:∀ {b:Aw Bf} {n:Ah} {f:Ah->Ak (Ak Ah) × Ah->Lz Fa Jl (ForInStep (Ak (Ak Ah) × Ah))},Cr arr b lo N->1<=n->n<=N->Seg r b lo n ->
   (∀ x m,f x (none,m)=(ltAt' (lo+m) (lo+m-1) >>= λo=>match o with
    |some z=>if z then pure (.done (none,m)) else pure (.yield (none,m+1))
    |_=>pure (.done (Ab none,m))))->wpS (Au prog w) A E s (forIn [n:N] (none,n) f) (λc Y=>Y=Cy κ b L g none/\∃ m,c=(none,m)/\n<=m/\m<=N/\Seg r b lo m/\(m=N\/r (b.getD (lo+m) nv)<r (b.getD (lo+m-1) nv))) (Cy κ b L g none):=by
  intro b n f J hn hN B hf;have zb:=J.z;refine Fe (I:=λx c Y=>Y=Cy κ b L g none/\c=(none,x)/\n<=x/\Seg r b lo x) ?_ ?_ ⟨rfl,rfl,Av _,B⟩
  .rintro x c Y H u ⟨rfl,rfl,v,B⟩
   rw[hf];refine Ay (kH C (p J) (by lia) (by lia) ?_)
   by_cases l:r (b.getD (lo+x) nv)<r (b.getD (lo+x-1) nv)
   .simp only[l,Kb,Du]
    exact Bm ⟨rfl,x,rfl,H,by lia,B,.inr l⟩
   .simp only[l,Kh,Bo,Ds]
    exact Bm ⟨rfl,rfl,by lia,UQ B (by lia) (by lia)⟩
  .rintro c Y ⟨rfl,rfl,v,B⟩
   rw[show max n N=N by lia] at B ⊢
   exact⟨rfl,N,rfl,hN,Av _,B,.inl rfl⟩
 refine Ay (Hl (T Cr.rfl' (Av 1) h1 aR λ_ _=>rfl) ?_);rintro c Y ⟨rfl,n,rfl,M,n2,B,nd⟩;dsimp only;refine qR (λe=>Bm (h n arr M n2 Cr.rfl' B)) λe=>?_;have e:¬ n=N:=by simpa using e
 have nd:r (arr.getD (lo+n) nv)<r (arr.getD (lo+n-1) nv):=by lia
 refine Y0 (λst=>∃ b,st=Cy κ b L g none/\Cr arr b lo N/\sx r b lo (n+1)) ?_ (λnp hk=>?_) λnp=>⟨arr,rfl,Cr.rfl',?_⟩
 .rintro _ ⟨b,rfl,J,O⟩
  refine Ay (Rt (Gw ⟨rfl,?_⟩));refine Ay (Hl (Fe (I:=λx c Y=>∃ b q,Y=Cy κ b L g none/\c=(none,x,q)/\Cr arr b lo N/\sx r b lo x/\iD r b lo x q)
   (Q:=λc Y=>∃ b m q,Y=Cy κ b L g none/\c=(none,m,q)/\1<=m/\m<=N/\Cr arr b lo N/\sx r b lo m/\iD r b lo m q) ?_ ?_ ⟨_,0,rfl,rfl,J,O,by lia,λk a b=>by rw[show k=lo+(n+1)-1 by lia]⟩) ?_)
  .rintro x c Y H u ⟨b,q,rfl,rfl,J,O,G⟩
   dsimp only;have zb:=J.z;refine Ay (kH C (p J) (by lia) (by lia) ?_)
   dsimp only;refine qR (λl=>?_) λl=>?_
   .have l:r (b.getD (lo+x) nv)<r (b.getD (lo+x-1) nv):=by simpa using l
    have d2:=kN O (by lia) (Hb l)
    have e2:∀ b:Aw Bf,iD r b lo (x+1) 0:=λb=>⟨by lia,λk a b=>by rw[show k=lo+(x+1)-1 by lia]⟩
    refine qR (λt=>Ay (b9 (Bm ⟨_,0,rfl,rfl,J.mir (by have:=G.1;lia) (by lia) (by lia),λi j a c d=>?_,e2 _⟩))) λt=>Bm ⟨_,0,rfl,rfl,J,d2,e2 _⟩
    rw[kO (by lia) G,kO (by lia) G]
    exact d2 i j a c d
   .have l:¬ r (b.getD (lo+x) nv)<r (b.getD (lo+x-1) nv):=by simpa using l
    refine Ay (kH C (p J) (by lia) (by lia) ?_)
    dsimp only;refine qR (λy=>Bm ⟨b,x,q,rfl,rfl,by lia,by lia,J,O,G⟩) λy=>?_
    have y:¬ r (b.getD (lo+x-1) nv)<r (b.getD (lo+x) nv):=by simpa using y
    have ee:r (b.getD (lo+x) nv)=r (b.getD (lo+x-1) nv):=by lia
    refine Bm ⟨b,q+1,rfl,rfl,J,kN O (by lia) (by lia),by have:=G.1;lia,λk a c=>?_⟩
    rw[show lo+(x+1)-1=lo+x by lia]
    by_cases kx:k=lo+x
    .rw[kx]
    .rw[ee];exact G.2 k (by lia) (by lia)
  .rintro c Y ⟨b,q,rfl,rfl,J,O,G⟩
   rw[show max (n+1) N=N by lia] at O G ⊢
   exact⟨b,N,q,rfl,rfl,h1,Av _,J,O,G⟩
  .rintro c Y ⟨b,m,q,rfl,rfl,m1,m2,J,O,G⟩
   dsimp only;have zb:=J.z;refine Y0 (λst=>∃ b,st=Cy κ b L g none/\Cr arr b lo N/\sx r b lo m) ?_ (λt hk=>?_) λt=>⟨b,rfl,J,O⟩
   .rintro _ ⟨b,rfl,J,O⟩
    have z2:=J.z;refine Ay (b9 ?_);refine Ay (Hl (T (J.mir (Av _) (by lia) (by lia)) m1 m2 (GT (by lia) O) λ_ _=>rfl) ?_)
    rintro c Y ⟨rfl,n',rfl,q1,q2,q3,_⟩;exact Bm (h n' _ (by lia) q2 (J.mir (Av _) (by lia) (by lia)) q3)
   .refine Ay (b9 (hk _ ⟨_,rfl,J.mir (by have:=G.1;lia) (by lia) (by lia),λi j a c d=>?_⟩))
    rw[kO (by lia) G,kO (by lia) G]
    exact O i j a c d
 .refine Ay (kH C ua (by lia) (by lia) ?_)
  dsimp only;refine qR (λe=>Bm (h n arr M n2 Cr.rfl' B)) λl=>?_;have l:¬ r (arr.getD lo nv)<r (arr.getD (lo+n-1) nv):=by simpa using l
  refine Ay (b9 (hk _ ⟨_,rfl,Cr.rfl'.mir (Av _) (by lia) (by lia),kN (λi j a b c=>?_) M ?_⟩))
  .rw[wJ (by lia),wJ (by lia),Ax (by lia),Ax (by lia)]
   exact B _ _ (by lia) (by lia) (by lia)
  .rw[wJ (by lia),wJ (by lia),Bb (by lia),Ax (by lia),show lo+(lo+n)-1-(lo+n-1)=lo by lia]
   lia
 .have:n=1:=by lia
  subst this;exact kN GU (Av _) (Hb nd)
end
theorem bQ {a:Aw Bf}{Q d:Ah}(hs:Q<a.size)(Y:d<=Q)(k:Ah):(bubble a Q d).getD k nv=if k=Q-d then a.getD Q nv else if Q-d<k/\k<=Q then a.getD (k-1) nv else a.getD k nv:=by
 simp only[Ex];rw[getElem?_bubble hs d Y]
 repeat' split
 all_goals rfl
theorem sC {a:Aw Bf}{s d k:Ah}(hs:s+d<a.size)(h:k<s\/s+d<k):(bubble a (s+d) d).getD k nv=a.getD k nv:=by
 rw[bQ hs (Ps _ _),Nd,Bb (by lia),Bb (by lia)]
theorem sA {a:Aw Bf}{s d:Ah}(hs:s+d<a.size):(bubble a (s+d) d).getD s nv=a.getD (s+d) nv:=by
 rw[bQ hs (Ps _ _),Nd,Ax rfl]
theorem fQ {a:Aw Bf}{s d z:Ah}(hs:s+d<a.size)(h:s<=z)(h2:z<s+d):(bubble a (s+d) d).getD (z+1) nv=a.getD z nv:=by
 rw[bQ hs (Ps _ _),Nd,Bb (by lia),Ax ⟨by lia,h2⟩]
 rfl
section
variable {prog:Be}{w:Br}{A:Bk}{E:ae}{s:Ag}{κ : Mv}{U:Bf->Prop}{r:Bf->Am}
theorem eP (C:Cm (Au prog w) A s κ U r){lo n ok:Ah}{arr:Aw Bf}{B:Aw (Ah × Ah × Ah)}{g:Ah}{Q:As->Fa->Prop}(v:∀ x∈arr.toList,U x)(h1:ok<=n)(hz:lo+n<=arr.size)(sg:Seg r arr lo ok)
  (h:∀ b,Cr arr b lo n->Seg r b lo n->Q true (Cy κ b B g none)):wpS (Au prog w) A E s (binarySort' lo n ok) Q (Cy κ arr B g none):=by
 have f:∀ {b:Aw Bf},Cr arr b lo n->∀ x∈b.toList,U x:=λh x H=>v x (h.pm.mem_iff.mp H);have T:Seg r arr lo (max ok 1):=by
  by_cases q:ok=0
  .rw[q];exact aR
  .rw[show max ok 1=ok by lia];exact sg
 refine Ay (Hl (Fe (I:=λk c Y=>c=(none,())/\∃ b,Y=Cy κ b B g none/\Cr arr b lo n/\Seg r b lo k)
  (Q:=λc Y=>c=(none,())/\∃ b,Y=Cy κ b B g none/\Cr arr b lo n/\Seg r b lo n) ?_ ?_ ⟨rfl,arr,rfl,Cr.rfl',T⟩) ?_)
 .rintro k c Y hk t ⟨rfl,b,rfl,G,sg⟩
  have zb:=G.z;dsimp only;refine Ay (Hl (Fe (I:=λx c Y=>Y=Cy κ b B g none/\∃ l u,c=(none,l,u)/\l<=u/\u<=k/\u+x<=k+l/\(∀ i,i<l->r (b.getD (lo+i) nv)<=r (b.getD (lo+k) nv))/\∀ i,u<=i->i<k->r (b.getD (lo+k) nv)<r (b.getD (lo+i) nv))
   (Q:=λc Y=>Y=Cy κ b B g none/\∃ l u,c=(none,l,u)/\l<=k/\(∀ i,i<l->r (b.getD (lo+i) nv)<=r (b.getD (lo+k) nv))/\∀ i,l<=i->i<k->r (b.getD (lo+k) nv)<r (b.getD (lo+i) nv)) ?_ ?_
   ⟨rfl,0,k,rfl,Hc _,Av _,Av _,λi y=>absurd y (Aa5 _),λi a b=>absurd a (Nat.not_le.mpr b)⟩) ?_)
  .rintro x c Y _ H ⟨rfl,l,u,rfl,L,o,p,N,O⟩
   dsimp only;refine qR (λe=>Bm ⟨rfl,l,u,rfl,by lia,N,λi a b=>O i (by lia) b⟩) λe=>?_
   refine Ay (kH C (f G) (by lia) (by lia) ?_)
   dsimp only;refine qR (λz=>?_) λz=>?_
   .have z:r (b.getD (lo+k) nv)<r (b.getD (lo+(l+u)/2) nv):=by simpa using z
    exact Bm ⟨rfl,_,_,rfl,by lia,by lia,by lia,N,λi a c=>Rc z (sg _ _ (by lia) (by lia) (by lia))⟩
   .have z:¬ r (b.getD (lo+k) nv)<r (b.getD (lo+(l+u)/2) nv):=by simpa using z
    exact Bm ⟨rfl,_,_,rfl,by lia,by lia,by lia,λi a=>Ft (sg _ _ (by lia) (by lia) (by lia)) (AaF.mp z),O⟩
  .rintro c Y ⟨rfl,l,u,rfl,L,o,p,N,O⟩
   exact⟨rfl,l,u,rfl,by lia,N,λi a b=>O i (by lia) b⟩
  .rintro c Y ⟨rfl,l,u,rfl,L,N,O⟩
   obtain⟨m,rfl⟩:=Ff L;clear L hk;dsimp only;simp only[<- Mf] at N O ⊢;have J:lo+l+m<b.size:=by lia
   have em:lo+l+m-(lo+l)=m:=Gb ..;refine Ay (Jk (Bm ⟨rfl,_,rfl,⟨(Rm.mp (bubble_perm _ _ _)).trans G.pm,λj M=>?_⟩,?_⟩))
   .show (bubble b (lo+l+m) (lo+l+m-(lo+l))).getD j nv=_
    rw[em,sC J (by lia)]
    exact G.out j M
   .intro i j a c d
    show r ((bubble b (lo+l+m) (lo+l+m-(lo+l))).getD i nv)<=r ((bubble b (lo+l+m) (lo+l+m-(lo+l))).getD j nv);rw[em];rcases Ny i (lo+l) with i1|rfl|i1
    .rw[sC J (.inl i1)]
     rcases Ny j (lo+l) with j1|rfl|j1
     .rw[sC J (.inl j1)];exact sg _ j a c (by lia)
     .obtain⟨x,rfl⟩:=Ff a
      rw[sA J];exact N x (by lia)
     .obtain⟨z,rfl⟩:∃ z,j=z+1:=⟨j-1,by lia⟩
      rw[fQ J (by lia) (by lia)];exact sg _ _ a (by lia) (by lia)
    .rw[sA J]
     rcases Nat.eq_or_lt_of_le c with rfl|j1
     .rw[sA J];exact Ou _
     .obtain⟨z,rfl⟩:∃ z,j=lo+z+1:=⟨j-1-lo,by lia⟩
      rw[fQ J (by lia) (by lia)];exact Hb (O z (by lia) (by lia))
    .obtain⟨x,rfl⟩:∃ x,i=x+1:=⟨i-1,by lia⟩
     obtain⟨z,rfl⟩:∃ z,j=z+1:=⟨j-1,by lia⟩
     rw[fQ J (by lia) (by lia),fQ J (by lia) (by lia)];exact sg _ _ (by lia) (by lia) (by lia)
 .rintro c Y ⟨rfl,b,rfl,G,sg⟩
  refine⟨rfl,b,rfl,G,?_⟩;intro i j a c d;exact sg i j a c (by lia)
 .rintro c Y ⟨rfl,b,rfl,G,sg⟩
  exact Bm (h b G sg)
end
def Rn (r:Bf->Am)(a:Aw Bf):Aa (Ah × Ah × Ah)->Ah->Ah->Prop
 |[],x,y=>x=y
 |(s,n,_)::t,x,y=>s=x/\0<n/\Seg r a s n/\Rn r a t (x+n) y
section
variable {r:Bf->Am}{a b:Aw Bf}
theorem Rn.app:∀ {O Q:Aa (Ah × Ah × Ah)} {x y:Ah},Rn r a (O++Q) x y↔∃ m,Rn r a O x m/\Rn r a Q m y
 |[],Q,x,y=>⟨λh=>⟨x,rfl,h⟩,λ⟨m,J,Y⟩=>by cases J;exact Y⟩
 |(s,n,p)::t,Q,x,y=>by
  show s=x/\0<n/\Seg r a s n/\Rn r a (t++Q) (x+n) y↔∃ m,(s=x/\0<n/\Seg r a s n/\Rn r a t (x+n) m)/\Rn r a Q m y;rw[Rn.app];exact⟨λ⟨J,Y,G,m,U,N⟩=>⟨m,⟨J,Y,G,U⟩,N⟩,λ⟨m,⟨J,Y,G,U⟩,N⟩=>⟨J,Y,G,m,U,N⟩⟩
theorem Rn.le:∀ {L:Aa (Ah × Ah × Ah)} {x y:Ah},Rn r a L x y->x+L.length<=y
 |[],x,y,h=>by cases h;simp
 |(s,n,p)::t,x,y,h=>by have:=Rn.le h.2.2.2;have:=h.2.1;simp only[Bc];lia
theorem Rn.congr:∀ {L:Aa (Ah × Ah × Ah)} {x y:Ah},Rn r a L x y->(∀ k,x<=k->k<y->b.getD k nv=a.getD k nv)->Rn r b L x y
 |[],x,y,h,_=>h
 |(s,n,p)::t,x,y,h,e=>by
  obtain⟨rfl,Q,J,Y⟩:=h;have l:=Rn.le Y;refine⟨rfl,Q,λi j a c d=>?_,Rn.congr Y λk U Q=>e k (by lia) Q⟩
  rw[e i (by lia) (by lia),e j (by lia) (by lia)]
  exact J i j a c d
theorem Rn.mod {f:Ah × Ah × Ah->Ah × Ah × Ah}(Q:∀ u v p,∃ Y,f (u,v,p)=(u,v,Y)):∀ {L:Aa (Ah × Ah × Ah)} {i x y:Ah},Rn r a L x y->Rn r a (L.modify i f) x y
 |[],i,x,y,h=>by simpa using h
 |(s,n,p)::t,0,x,y,h=>by
  obtain⟨Y,e⟩:=Q s n p;rw[List.modify_zero_cons,e];exact h
 |(s,n,p)::t,i+1,x,y,h=>by
  rw[List.modify_succ_cons];exact⟨h.1,h.2.1,h.2.2.1,Rn.mod Q h.2.2.2⟩
end
theorem RH {α:Type}{l:Aa α}{i:Ah}(h:i+1<l.length):∃ Q x y Y,l=Q++x::y::Y/\Q.length=i:=by
 refine⟨l.take i,l[i],l[i+1],l.drop (i+2),?_,by rw[Dn];lia⟩
 rw[<- Fp h,<- Fp (by lia),Ov]
section
variable {prog:Be}{w:Br}{A:Bk}{E:ae}{s:Ag}{κ : Mv}{U:Bf->Prop}{r:Bf->Am}
theorem mJ (C:Cm (Au prog w) A s κ U r){i e:Ah}{Q:As->Fa->Prop}{arr:Aw Bf}{Y:Aw (Ah × Ah × Ah)}{g:Ah}(t:∀ x∈arr.toList,U x)(hi:i+1<Y.size)(R:Rn r arr Y.toList 0 e)(he:e<=arr.size)
  (h:∀ b J g,b.toList.Perm arr.toList->(∀ k,e<=k->b.getD k nv=arr.getD k nv)->Rn r b J.toList 0 e->J.size+1=Y.size->Q true (Cy κ b J g none)):wpS (Au prog w) A E s (mergeAt' i) Q (Cy κ arr Y g none):=by
 obtain⟨z,⟨O,B,I⟩,⟨sb,L,c⟩,d,N,T⟩:=RH (l:=Y.toList) (i:=i) (by simpa using hi)
 rw[N] at R;obtain⟨m,v,rfl,o,y,rfl,f,s2,R2⟩:=Rn.app.mp R;have l2:=Rn.le R2;have j:Y[i]? = Ab (O,B,I):=by
  rw[<- Ba,N,<- T,Cw (Av _),Yr];rfl
 have p:Y[i+1]? = Ab (O+B,L,c):=by
  rw[<- Ba,N,<- T,Cw (by lia),Gb];rfl
 refine hJ C t j p o f (by lia) y s2 λb g u G a=>?_
 have H:((Y.setIfInBounds i (O,B+L,I)).eraseIdxIfInBounds (i+1)).toList=z++(O,B+L,I)::d:=by
  rw[Array.toList_eraseIdxIfInBounds,Array.toList_setIfInBounds,N,<- T,List.set_append_right _ _ (Av _),Yr,List.set_cons_zero,List.eraseIdx_append_of_length_le (by lia),Gb]
  rfl
 refine h b _ g u (λk M=>G k (by lia)) ?_ ?_
 .rw[H]
  refine Rn.app.mpr ⟨O,v.congr λk _ M=>G k (by lia),rfl,by lia,a,?_⟩
  rw[<- Mf];exact R2.congr λk M _=>G k (by lia)
 .have:=congrArg Ie H
  have q:=congrArg Ie N;simp only[Bi,Ca,Bc] at this q
  lia
theorem d9 (C:Cm (Au prog w) A s κ U r){Q:Pa->Fa->Prop}{arr:Aw Bf}{g:Ah}(ua:∀ x∈arr.toList,U x)(h2:0<arr.size)
  (h:∀ b Y g,b.toList.Perm arr.toList->b.toList.Pairwise (Le r)->Q () (Cy κ b Y g none)):wpS (Au prog w) A E s sortRuns' Q (Cy κ arr #[] g none):=by
 have p:∀ {b:Aw Bf},b.toList.Perm arr.toList->∀ x∈b.toList,U x:=λh x hx=>ua x (h.mem_iff.mp hx);have H:∀ {b:Aw Bf},b.toList.Perm arr.toList->b.size=arr.size:=λh=>by simpa using h.length_eq
 refine Ay (Nn ?_);dsimp only;refine Ay (Hl (Fe (I:=λx c J=>∃ b Y g lo,J=Cy κ b Y g none/\c=(none,lo)/\b.toList.Perm arr.toList/\lo<=arr.size/\min x arr.size<=lo/\Rn r b Y.toList 0 lo)
  (Q:=λc J=>∃ b Y g,J=Cy κ b Y g none/\c=(none,arr.size)/\b.toList.Perm arr.toList/\Rn r b Y.toList 0 arr.size) ?_ ?_ ⟨arr,#[],g,0,rfl,rfl,Nt _,by lia,by lia,rfl⟩) ?_)
 .rintro x c J _ hx ⟨b,Y,g,lo,rfl,rfl,G,lo1,zx,R⟩
  have zb:=H G;dsimp only;refine qR (λe=>Bm ⟨b,Y,g,rfl,by rw[show lo=arr.size by lia],G,by rw[show arr.size=lo by lia];exact R⟩) λe=>?_
  refine Ay (d8 C (p G) (by lia) (by lia) λn b2 n1 n2 cr N=>?_)
  have R2:Rn r b2 Y.toList 0 lo:=R.congr λk _ o=>cr.out k (.inl o);have O:=cr.pm.trans G;have z2:=H O;dsimp only;apply RQ (y:=n) (P:=λn st=>∃ b,st=Cy κ b Y g none/\b.toList.Perm arr.toList/\Rn r b Y.toList 0 lo/\Seg r b lo n/\lo+n<=arr.size/\0<n/\min (x+1) arr.size<=lo+n)
  .rintro n _ ⟨b,rfl,G,R,N,n3,n4,n5⟩
   refine Ay (Nn ?_);dsimp only;rcases hb:Y.back? with _|⟨s1,l1,p1⟩
   .dsimp only
    refine Ay (Jk (Bm ⟨_,_,_,_,rfl,rfl,G,n3,n5,?_⟩));show Rn r _ (Y.push _).toList 0 _;rw[Ec];exact Rn.app.mpr ⟨lo,R,rfl,n4,N,rfl⟩
   .dsimp only
    refine Ay (Hl (Fe (I:=λ_ c J=>c=(none,())/\∃ b Y g,J=Cy κ b Y g none/\b.toList.Perm arr.toList/\Rn r b Y.toList 0 lo/\Seg r b lo n)
     (Q:=λc J=>c=(none,())/\∃ b Y g,J=Cy κ b Y g none/\b.toList.Perm arr.toList/\Rn r b Y.toList 0 lo/\Seg r b lo n) ?_ (λ_ _ z=>z) ⟨rfl,_,Y,g,rfl,G,R,N⟩) ?_)
    .rintro y c J _ hy ⟨rfl,b,Y,g,rfl,G,R,N⟩
     have zb:=H G;refine Ay (Nn ?_);dsimp only;by_cases hp:Y.size>1
     .rw[Ax hp]
      rcases hq:Y[Y.size-2]? with _|⟨u,v,zy⟩
      .exact Bm ⟨rfl,b,Y,g,rfl,G,R,N⟩
      .dsimp only
       refine qR (λ_=>Bm ⟨rfl,b,Y,g,rfl,G,R,N⟩) λ_=>?_;refine Ay (mJ C (p G) (by lia) R (by lia) λb' B g' p' L R' _=>?_)
       refine qR (λe=>by simp at e) λ_=>Bm ⟨rfl,b',B,g',rfl,p'.trans G,R',λi j a c d=>?_⟩
       rw[L i a,L j (by lia)]
       exact N i j a c d
     .rw[Bb hp]
      exact Bm ⟨rfl,b,Y,g,rfl,G,R,N⟩
    .rintro c J ⟨rfl,b,Y,g,rfl,G,R,N⟩
     dsimp only;refine Ay (Jk (Ay (Jk (Bm ⟨_,_,_,_,rfl,rfl,G,n3,n5,?_⟩))));show Rn r b ((Y.modify (Y.size-1) _).push _).toList 0 _;rw[Ec,Array.toList_modify];exact Rn.app.mpr ⟨lo,Rn.mod (λ_ _ _=>⟨_,rfl⟩) R,rfl,n4,N,rfl⟩
  .intro lt o
   refine Ay (Rt (Gw ⟨rfl,?_⟩));refine Ay (eP C (p O) (by lia) (by lia) N λb3 M f=>?_)
   exact qR (λe=>by simp at e) λ_=>o _ _ ⟨b3,rfl,M.pm.trans O,R2.congr λk _ o=>M.out k (.inl o),f,by lia,by lia,by lia⟩
  .exact λlt=>⟨b2,rfl,O,R2,N,by lia,n1,by lia⟩
 .rintro c J ⟨b,Y,g,lo,rfl,rfl,G,lo1,zx,R⟩
  have:lo=arr.size:=by lia
  subst this;exact⟨b,Y,g,rfl,rfl,G,R⟩
 .rintro c J ⟨b,Y,g,rfl,rfl,G,R⟩
  dsimp only;have hl:=R.le;rw[Bi] at hl;refine Ay (Hl (Fe (I:=λx c J=>c=(none,())/\∃ b Y g,J=Cy κ b Y g none/\b.toList.Perm arr.toList/\Rn r b Y.toList 0 arr.size/\(Y.size<=1\/Y.size+x<=arr.size))
   (Q:=λc J=>c=(none,())/\∃ b Y g,J=Cy κ b Y g none/\b.toList.Perm arr.toList/\Rn r b Y.toList 0 arr.size/\Y.size<=1) ?_ ?_ ⟨rfl,b,Y,g,rfl,G,R,by lia⟩) ?_)
  .rintro x c J _ hx ⟨rfl,b,Y,g,rfl,G,R,T⟩
   have zb:=H G;refine Ay (Nn ?_);dsimp only;refine qR (λe=>Bm ⟨rfl,b,Y,g,rfl,G,R,e⟩) λe=>?_;refine Ay (mJ C (p G) ?_ R (by lia) λb' B g' p' L R' z'=>?_)
   .have e:¬ Y.size<=1:=e
    have q:∀ (c:Prop) [Gg c],(if c then Y.size-2-1 else Y.size-2)+1<Y.size:=λc _=>by split <;> lia
    exact q _
   exact qR (λe=>by simp at e) λ_=>Bm ⟨rfl,b',B,g',rfl,p'.trans G,R',by lia⟩
  .rintro c J ⟨rfl,b,Y,g,rfl,G,R,T⟩
   exact⟨rfl,b,Y,g,rfl,G,R,by lia⟩
  .rintro c J ⟨rfl,b,Y,g,rfl,G,R,T⟩
   have zb:=H G;refine Bm (h b Y g G ?_);have T:Y.toList.length<=1:=by simpa using T
   revert R T
   cases Y.toList with
   |nil=>intro R;have:0=arr.size:=R;lia
   |cons q t =>
    obtain⟨s0,n0,p0⟩:=q;intro R T;have:t=[]:=by cases t with|nil=>rfl|cons _ _=>simp at T
    subst this;obtain⟨rfl,_,N,e⟩:=R;have e:n0=arr.size:=by have:0+n0=arr.size:=e;lia
    subst e;rw[Jr];intro i j hi hj l;have zl:i<b.size:=by simpa using hi
    have zs:j<b.size:=by simpa using hj
    have:=N i j (by lia) (by lia) (by lia)
    simpa [Gk,zl,zs,Le] using this
end
structure rn (prog:Be)(w:Br)(h0:Bn)(vs:ah)(f:Ah->Ah->As):Prop where
 ex:∃ κ,∀ (A:Bk),A.units+8<Fo->∀ (s:Ag),lm h0 s.heap->(∀ (Q:Mv->Ag->Prop) (E:ae),Q κ s->Ap (Au prog w) A (keyKind' vs.toArray) Q E s)/\∀ i j (C:As->Ag->Prop),i<vs.length->j<vs.length->C (f i j) s->kas_ask prog w A κ vs i j C s
open Classical in
def kV {K:Type}(is:K->Ac->Prop)(d:K)(v:Ac):K:=if h:∃ k,is k v then choose h else d
open Classical in
theorem dI {K:Type}{is:K->Ac->Prop}{d:K}{v:Ac}(h:∃ k,is k v):is (kV is d v) v:=by
 unfold kV;rw[dif_pos h];exact choose_spec h
section
variable {prog:Be}{w:Br}{A:Bk}{E:ae}{s:Ag}
theorem HA {K:Type}{is:K->Ac->Prop}{lt':K->K->As}{d:K}(O:Ord lt')(zc:∀ {k k':K} {v:Ac},is k v->is k' v->k=k'){a:Af}{vs:ah}{ks:Aa K}{n:Ah}{h0:Bn}{P:PySem.Fin->Ag->Prop}(J:vs.length=ks.length)(zl:∀ i v,vs[i]? = Ab v->is (ks.getD i d) v)(u:s.heap.get? a=Ab (Gr "list" vs.toArray n))(hu:A.units+8<Fo)(hz:vs.length<=100000)(c:2<=vs.length->rn prog w h0 vs (dY lt' ks d))(hS:lm h0 s.heap)(ha:h0.get? a=none)
  (h:∀ B:Aa (K × Ac),B.Perm (ks.zip vs)->Nf lt' (B.map (·.1))->P (.done (.ret .none)) { s with heap:=sortedHeap s.heap a vs (B.map (·.2)).toArray }) : Ap (Au prog w) A (Jo.«list.sort» ⟨[.ref a],[]⟩) P E s:=by
 rw[list_sort_plain];have hb:a<s.heap.objs.size:=Bh u;have zs:vs.toArray.size=vs.length:=by simp
 refine Ad (listItems_at u rfl (Ad (listUpdate_at u rfl ?_ (by rw[zs,Gq];lia) (Hc _))))
 obtain⟨l,H⟩:∃ l,(s.heap.update a (Fj λ_=>#[])).get? a=Ab (Gr "list" #[] l):=⟨_,Va u (λ_=>#[])⟩;refine Ad (seqEpoch_at H rfl (Ad (wpAny_newTuple (Ad (wpAny_newList (Ef ?_) (Hc _))) (by show vs.length<=_;rw[Gq];lia))))
 have M:(((s.heap.update a (Fj λ_=>#[])).push (Gr "tuple" vs.toArray 0)).push (Gr "list" #[] 0)).get? a=Ab (Gr "list" #[] l):=
  Aj _ (Aj _ H)
 have S6:lm h0 (((s.heap.update a (Fj λ_=>#[])).push (Gr "tuple" vs.toArray 0)).push (Gr "list" #[] 0)):=λb o e =>
  Aj _ (Aj _ ((Df _ _ (λz:a=b=>by rw[<- z,ha] at e;cases e)).trans (hS b o e)))
 show Ap (Au prog w) A _ P E { s with heap:=((s.heap.update a (Fj λ_=>#[])).push (Gr "tuple" vs.toArray 0)).push (Gr "list" #[] 0) }
 dsimp only;have I:∀ (Y:Fa) (B:Aa (K × Ac)),(arrOf Y).map (·.2)=(B.map (·.2)).toArray->failedOf Y=none->B.Perm (ks.zip vs)->Nf lt' (B.map (·.1))->Ap (Au prog w) A (do
   let G:=(<- seqEpoch a) != l
   Builtin.List.listUpdate (.ref a) λ_=>(arrOf Y).map (·.2)
   if let Ab e:=failedOf Y then rule "list.sort.comparison-raised";throw e
   if G then rule "list.sort.modified";raiseError "ValueError" "list modified during sort"
   ret .none) P E { s with heap:=((s.heap.update a (Fj λ_=>#[])).push (Gr "tuple" vs.toArray 0)).push (Gr "list" #[] 0) }:=by
  intro Y B h1 N r h4;have hl:(B.map (·.2)).length=vs.length:=by rw[Aq,r.length_eq,Vb,J,TD]
  refine Ad (seqEpoch_at M rfl ?_);rw[h1];refine Ad (listUpdate_at M rfl ?_ (Hc _) (by show (B.map (·.2)).toArray.size<=_;rw[Bg,hl,Gq];lia))
  rw[N];simp only[bne_self_eq_false,Bo,Ds];exact Al (h B r h4)
 by_cases N:vs.toArray.size<2
 .rw[Ax N,Ax N]
  refine Ad (Al ?_);rw[StateT.run_pure];refine Ad (Al ?_);refine I (Cy general' (vs.toArray.zip vs.toArray) #[] 7 none) (ks.zip vs) ?_ rfl (Nt _) ?_
  .show (vs.toArray.zip vs.toArray).map (·.2)=_
   apply Tw.mp;simp[List.map_snd_zip,J]
  .rw[wP (by lia)]
   match ks,J with
   |[],_=>exact Nu
   |[_],_=>exact Ub _ _
   |_::_::_,e=>simp at e N;lia
 .rw[Bb N,Bb N]
  have zb:2<=vs.length:=by lia
  obtain⟨κ,C⟩:=c zb;obtain⟨k1,k2⟩:=C A hu { s with heap:=((s.heap.update a (Fj λ_=>#[])).push (Gr "tuple" vs.toArray 0)).push (Gr "list" #[] 0) } S6
  have kv:∀ i,i<vs.length->kV is d (vs.getD i De)=ks.getD i d:=λi U=>by
   have q:=zl i (vs.getD i De) (by rw[Ro,Ar U];rfl)
   exact zc (dI ⟨_,q⟩) q
  have km:∀ i,i<vs.length->ks.getD i d∈ks:=λi U=>by
   have:i<ks.length:=by lia
   simp[Jq,this]
  have cm:Cm (Au prog w) A { s with heap:=((s.heap.update a (Fj λ_=>#[])).push (Gr "tuple" vs.toArray 0)).push (Gr "list" #[] 0) } κ (λx=>∃ i,i<vs.length/\x=(vs.getD i De,vs.getD i De)) (λx=>gK lt' ks (kV is d x.1)):=by
   refine⟨?_⟩;rintro x y ⟨i,U,rfl⟩ ⟨j,L,rfl⟩ E Q st hk q;rw[lt'_eq];refine Ay (Nn ?_);rw[hk];rw[kv i U,kv j L,<- rZ O (km i U)] at q;refine Ay (Rt (Kx (Hw (k2 i j (λb s'=>s'=_/\b=dY lt' ks d i j) U L ⟨rfl,rfl⟩) ?_ λ_ _ e=>e.elim)));rintro b s' ⟨rfl,rfl⟩;exact⟨rfl,Bm q⟩
  have pl:(vs.toArray.zip vs.toArray).toList=(Cg vs.length).map λi=>(vs.getD i De,vs.getD i De):=by
   apply Os
   .simp
   .intro i h1 N
    have:i<vs.length:=by simpa using N
    simp[this]
  refine Ad (k1 _ _ ?_);refine Ad (Hw (d9 (E:=E) (Q:=λ_ Y=>∃ b f g,Y=Cy κ b f g none/\b.toList.Perm (vs.toArray.zip vs.toArray).toList/\b.toList.Pairwise (Le λx=>gK lt' ks (kV is d x.1))) cm (arr:=vs.toArray.zip vs.toArray) (g:=7) ?_ ?_ λb f g p q=>⟨b,f,g,rfl,p,q⟩) ?_ λ_ _ e=>e)
  .intro x T
   rw[pl] at T;obtain⟨i,U,rfl⟩:=Dj.mp T;exact⟨i,Ei.mp U,rfl⟩
  .simp;lia
  .rintro⟨⟨⟩,Y⟩ s' ⟨rfl,b,f,g,rfl,pm,up⟩
   refine I _ (b.toList.map λx=>(kV is d x.1,x.2)) ?_ rfl ?_ ?_
   .show b.map (·.2)=_
    apply Tw.mp;simp
   .refine(pm.map _).trans ?_
    rw[pl,Fg];have:ks.zip vs=(Cg vs.length).map λi=>(ks.getD i d,vs.getD i De):=by
     apply Os
     .simp[J]
     .intro i h1 N
      have r:i<vs.length:=by simpa using N
      have h4:i<ks.length:=by lia
      simp[r,h4]
    rw[this];refine List.Perm.of_eq (Ml λi U=>?_);show (kV is d (vs.getD i De),_)=_;rw[kv i (Ei.mp U)]
   .unfold Nf
    rw[Fg,Ib];refine up.imp_of_mem λ{x y} T t h=>?_;have T:=pm.mem_iff.mp T;have t:=pm.mem_iff.mp t;rw[pl] at T t;obtain⟨i,U,rfl⟩:=Dj.mp T;obtain⟨j,L,rfl⟩:=Dj.mp t;have h:gK lt' ks (kV is d (vs.getD i De))<=gK lt' ks (kV is d (vs.getD j De)):=h;show lt' (kV is d (vs.getD j De)) (kV is d (vs.getD i De))=false;have L:=Ei.mp L;rw[rZ O (ks:=ks) (by rw[kv j L];exact km j L)]
    exact Co (by lia)
end
section
variable {prog:Be}{w:Br}{h0:Bn}
theorem B9 {A:Bk}{s:Ag}{b:As}{Q:As->Ag->Prop}:∀ {xs ys:Aa Am} {us vs:ah} {i:Ah} {N M:Ah},ItemsAre (Ct prog w) xs us->ItemsAre (Ct prog w) ys vs->N+ys.length=M+xs.length->Q (_H.lexLt xs ys) s->KatLex prog w A b (decide (N<M)) Q (us.zip vs) i s:=by
 intro xs ys us vs i N M G
 induction G generalizing ys vs i with
 |nil =>
  intro J Y h;cases J with
  |nil =>
   have:decide (N<M)=false:=Co (by simp at Y;lia)
   rw[this];exact h
  |@cons k v ys vs q r =>
   have:decide (N<M)=true:=Dl (by simp at Y;lia)
   rw[this];exact h
 |@cons x u xs us O T U =>
  intro J Y h;cases J with
  |nil =>
   have:decide (N<M)=false:=Co (by simp at Y;lia)
   rw[this];exact h
  |@cons y v ys vs B C =>
   obtain⟨t,rfl⟩:=wW (prog:=prog) (w:=w) O;obtain⟨L,rfl⟩:=wW (prog:=prog) (w:=w) B;rw[Kj];refine kat_cons (Zt ?_);rw[_H.bf] at h;refine kat_go (λe=>kat_yes ?_) λe=>kat_no ?_
   .rw[Ax (by simpa using e)] at h
    exact U C (by simp at Y;lia) h
   .rw[Bb (by simpa using e)] at h
    cases b&&i == 0 with
    |true=>exact oneLt_int h
    |false=>exact kat_one _ _ (Qf h)
theorem aY {h:Bn}:∀ {vs:ah} {ks:Aa (Aa Am)},vs.length=ks.length->(∀ i v,vs[i]? = Ab v->gl prog w h (ks.getD i []) v)->(∀ k∈ks,k≠[])->∃ U,KatTups h vs U/\U.length=vs.length/\∀ f∈U,∃ n t,f=Ru n t
 |[],[],_,_,_=>⟨[],trivial,rfl,λf hf=>by simp at hf⟩
 |v::vs,k::ks,T,hv,J=>by
  obtain⟨U,E,A,H⟩:=aY (vs:=vs) (ks:=ks) (by simpa using T) (λi u I=>by simpa using hv (i+1) u (by simpa using I)) λk N=>J k (by simp[N])
  obtain⟨a,rfl,o,Q,n,B,L,O,C⟩:=hv 0 v rfl;have N:k≠[]:=J k (by simp)
  have Y:ItemsAre (Ct prog w) k Q.toList:=C;cases G:Q.toList with
  |nil=>rw[G] at Y;cases Y;exact absurd rfl N
  |cons f qI =>
   rw[G] at Y;cases Y with
   |cons q _ =>
    obtain⟨t,rfl⟩:=wW (prog:=prog) (w:=w) q;refine⟨_::U,KatTups.cons B L O (by rw[<- Ba,G];rfl) E,by simp[A],λf hf=>?_⟩
    rcases AT.mp hf with rfl|hf
    .exact⟨_,_,rfl⟩
    .exact H f hf
theorem T6 {ks:Aa (Aa Am)}(H:vs.length=ks.length)(hv:∀ i v,vs[i]? = Ab v->gl prog w h0 (ks.getD i []) v)(J:∀ k∈ks,k≠[])(h2:2<=vs.length):rn prog w h0 vs (dY _H.lexLt ks []):=by
 refine⟨tuples' (Ji "int" != Ji "tuple"),λA hu s G=>⟨λQ E h=>?_,λi j C T B h=>?_⟩⟩
 .obtain⟨fs,u,a2,o⟩:=aY (h:=s.heap) H (λi v Y=>by obtain⟨a,e,q⟩:=hv i v Y;exact⟨a,e,vN G q⟩) J
  refine kat_kind u (by lia) (λv Y=>?_) (by decide) h
  obtain⟨n,t,rfl⟩:=o v Y;exact Looks.of_pure rfl
 .have g:∀ k (U:k<vs.length),∃ a,vs.getD k De=.ref a/\Tv (Ct prog w) s.heap (ks.getD k []) a:=λk U=>by
   obtain⟨a,e,q⟩:=hv k vs[k] (Ar U);exact⟨a,by rw[<- e];simp[Jq,U],vN G q⟩
  obtain⟨a,I,f,x,na,c,_,y,O⟩:=g i T;obtain⟨b,z,ob,d,r,l,_,L,N⟩:=g j B;unfold kas_ask;rw[I,z];refine kat_lt c y l L (B9 O N ?_ h);have M:=O.length;have p:=N.length;simp only[Bi] at M p
  lia
theorem T4 {ks:Aa Am}(L:vs.length=ks.length)(hv:∀ i v,vs[i]? = Ab v->kz prog w (ks.getD i 0) v)(h2:2<=vs.length):rn prog w h0 vs (dY si ks 0):=by
 have J:∀ v∈vs,∃ n t,v=Ru n t:=λv O=>by
  obtain⟨i,J,e⟩:=Cz.mp O;obtain⟨t,q⟩:=wW (hv i v (by rw[Ar J,e]))
  exact⟨_,t,q⟩
 refine⟨oneType',λA I s T=>⟨λQ E h=>?_,λi j C J N h=>?_⟩⟩
 .obtain⟨v₁,Y,qI,rfl⟩:∃ v₁ Y qI,vs=v₁::Y::qI:=by
   match vs,h2 with
   |v₁::Y::qI,_=>exact⟨v₁,Y,qI,rfl⟩
  rw[keyKind_ints (intsAre_map _ J)];exact Al h
 .have g:∀ k (U:k<vs.length),∃ t,vs.getD k De=.int (ks.getD k 0) t:=λk U=>by
   obtain⟨t,q⟩:=wW (hv k vs[k] (Ar U));exact⟨t,by rw[<- q];simp[Jq,U]⟩
  obtain⟨t,B⟩:=g i J;obtain⟨u,G⟩:=g j N;unfold kas_ask;rw[B,G];exact kat_lt_int h
end
section
variable {K:Type}{lt':K->K->As}
theorem E4 {α:Type}{ks:Aa K}{vs:Aa α}{d:K}(U:vs.length=ks.length){p:K × α}(h:p∈ks.zip vs):∃ i,vs[i]? = Ab p.2/\ks.getD i d=p.1:=by
 obtain⟨i,Q,e⟩:=Cz.mp h;have J:i<ks.length:=by rw[Vb] at Q;lia
 have Y:i<vs.length:=by lia
 rw[List.getElem_zip] at e;subst e;exact⟨i,Ar Y,by simp[J]⟩
end
structure Kind (prog:Be)(w:Br){K:Type}(is:K->Ac->Prop)(hash:K->Am)(lt':K->K->As)(d:K)(Fit:K->Prop)(h0:Bn):Prop where
 ord:Ord lt'
 inj:∀ {k k':K} {v:Ac},is k v->is k' v->k=k'
 cmps:∀ {vs:ah} {ks:Aa K},vs.length=ks.length->(∀ i v,vs[i]? = Ab v->is (ks.getD i d) v)->(∀ k∈ks,Fit k)->2<=vs.length->rn prog w h0 vs (dY lt' ks d)
theorem H0 (prog:Be)(w:Br)(h0:Bn):Kind prog w (gl prog w h0) (TW (Ct prog w)) _H.lexLt [] (·≠[]) h0:=⟨pF,gl.inj,λU Y J Q=>T6 U Y J Q⟩
theorem EZ (prog:Be)(w:Br)(h0:Bn):Kind prog w (kz prog w) (Ct prog w).hash si 0 (λ_=>NE) h0:=⟨IW,λa b=>(Ct prog w).inj _ _ _ a b,λJ Y _ Q=>T4 J Y Q⟩
section
variable {prog:Be}{w:Br}{A:Bk}{E:ae}{s:Ag}{K:Type}{is:K->Ac->Prop}{ay:K->Am}{lt':K->K->As}{d:K}{uj:K->Prop}{h0:Bn}{S:Af}{V:ah}{seen:Aa K}
open Classical in
def pv (is:K->Ac->Prop)(d:K)(e:Am × Ac):K:=if h:∃ k,is k e.2 then choose h else d
open Classical in
theorem L6 {e:Am × Ac}(h:∃ k,is k e.2):is (pv is d e) e.2:=by
 unfold pv;rw[dif_pos h];exact choose_spec h
theorem oW {Q:ae}(kd:Kind prog w is ay lt' d uj h0)(hh:A.handled=none)(hu:A.units+16<Fo)(hS:lm h0 s.heap)(Z:i_ is ay S (yN w) V seen s.heap)(hf:∀ k∈seen,uj k){U:Aa K}(hU:U.length<=1000)(zy:∀ k∈seen,k∈U)
  (h:∀ h' tk D c (C:Aa (K × Ac)),(∀ b o,s.heap.get? b=Ab o->h'.get? b=Ab o)->s.heap.objs.size<=D->h'.get? D=Ab (Gr "list" (C.map (·.2)).toArray c)->C.map (·.1)=jc lt' seen->(∀ p∈C,is p.1 p.2/\p.2∈V)->C.length<=1000->Q (.ref D) { s with heap:=h',toks:=tk }) :
  Ap (Au prog w) A (call (.builtin "sorted") [.ref S]) Q E s:=by
 obtain⟨O,M,t,ho,H,T,hl,hV⟩:=Z;have st:ko w S O M t:=⟨T,hl⟩;have hn:O.size<=1000:=by
  have:=f9 O.toList U H.nd λe N=>by
   obtain⟨k',_,q⟩:=H.good e N;exact⟨k',zy k' ((H.mem k').mpr ⟨e,N,q⟩),q⟩
  rw[Bi] at this
  lia
 have I:=mP w S M O;have z2:=vX w S M O;have Y:∀ e∈(qS w S M O).toList,is (pv is d e) e.2/\e.2∈V:=λe N=>by
  have u:=I.mem_iff.mp N;obtain⟨k,_,q⟩:=H.good e u;exact⟨L6 ⟨k,q⟩,hV e u⟩
 have zc:(qS w S M O).toList.Pairwise λa b=>∀ k,is k a.2->¬ is k b.2:=(I.pairwise_iff λ{x y} h k hy hx=>h k hx hy).mpr H.nd;generalize zs:(qS w S M O).toList=oe at *;have z1:oe.length<=1000:=by rw[I.length_eq,Bi];exact hn
 have B:∀ i v,(oe.map (·.2))[i]? = Ab v->is ((oe.map (pv is d)).getD i d) v/\v∈V:=λi v hv=>by
  rw[Ea] at hv;cases r:oe[i]? with
  |none=>rw[r] at hv;cases hv
  |some e =>
   rw[r] at hv;cases hv;have g:=Y e (Cb r);have:(oe.map (pv is d)).getD i d=pv is d e:=by rw[Ro,Ea,r];rfl
   rw[this];exact g
 have nd:(oe.map (pv is d)).Nodup:=by
  unfold List.Nodup;rw[Ib];refine Tc (λ{a b} ha j h e=>?_) zc;exact h _ (Y a ha).1 (e▸(Y b j).1)
 have mem:∀ x,x∈oe.map (pv is d)↔x∈seen:=λx=>by
  rw[H.mem,Dj];constructor
  .rintro⟨e,N,rfl⟩
   exact⟨e,I.mem_iff.mp N,(Y e N).1⟩
  .rintro⟨e,N,q⟩
   exact⟨e,I.mem_iff.mpr N,kd.inj (Y e (I.mem_iff.mpr N)).1 q⟩
 have G:(oe.map (·.2)).length=(oe.map (pv is d)).length:=by simp
 refine Calls.call_function_entry kind_sorted plain_sorted entry_sorted (args_sorted1 _) ?_;unfold Jo.«sorted»;refine Ad (m:=checkCount "sorted" 1 1 _) (Al ?_);refine Ad (eR hh st ho (by lia) λJ f l L=>?_)
 rw[zs];refine Ad (wpAny_newList ?_ (by rw[Gq,Aq];lia))
 have hD:(J.push (Gr "list" (oe.map (·.2)).toArray 0)).get? J.objs.size=Ab (Gr "list" (oe.map (·.2)).toArray 0):=Bj _ rfl
 have n0:h0.get? J.objs.size=none:=by
  cases q:h0.get? J.objs.size with
  |none=>rfl
  |some o=>exact absurd (Bh (hS _ _ q)) (Oc.mpr (Fc L))
 show Ap _ _ _ _ _ { s with heap:=J.push (Gr "list" (oe.map (·.2)).toArray 0),toks:=f }
 refine Ad (Ef (Eo slot_list_sort ⟨_,hD,rfl⟩ entry_list_sort (HA (h0:=h0) (is:=is) kd.ord kd.inj (d:=d) (vs:=oe.map (·.2)) G (λi v hv=>(B i v hv).1) hD (by show A.units+2+8<Fo;lia) (by rw[Aq];lia) (λh2=>kd.cmps G (λi v hv=>(B i v hv).1) (λk hk=>hf k ((mem k).mp hk)) h2) (λb o e=>Aj _ (l b o (hS b o e))) n0 λC pm nf=>⟨_,rfl,?_⟩) (args_list_sort _)))
 refine Al ⟨_,rfl,?_⟩;have hz:(J.push (Gr "list" (oe.map (·.2)).toArray 0)).objs.size=J.objs.size+1:=size_push' ..
 have zx:∀ b o,b≠J.objs.size->(J.push (Gr "list" (oe.map (·.2)).toArray 0)).get? b=Ab o->((((J.push (Gr "list" (oe.map (·.2)).toArray 0)).update J.objs.size (Fj λ_=>#[])).push (Gr "tuple" (oe.map (·.2)).toArray 0)).push (Gr "list" #[] 0)).get? b=Ab o:=λb o j e =>
  Aj _ (Aj _ ((Df _ _ (Fm j)).trans e))
 obtain⟨e1,zb⟩:∃ e1,((J.push (Gr "list" (oe.map (·.2)).toArray 0)).update J.objs.size (Fj λ_=>#[])).get? J.objs.size=Ab (Gr "list" #[] e1):=⟨_,Va hD (λ_=>#[])⟩
 have zl:=Va (Aj (Gr "list" #[] 0) (Aj (Gr "tuple" (oe.map (·.2)).toArray 0) zb)) (λ_=>(C.map (·.2)).toArray)
 have pk:(C.map (·.1)).Perm (oe.map (pv is d)):=by
  have:=pm.map (·.1)
  rwa [wP (by lia)] at this
 refine h _ f J.objs.size _ C (λb o e=>?_) (Fc L) zl (LN kd.ord nf (pk.nodup_iff.mpr nd) λx=>by rw[pk.mem_iff,mem]) (λp hp=>?_) (by have:=pk.length_eq;rw[Aq,Aq] at this;lia)
 .have j:b≠J.objs.size:=λz=>by
   subst z;exact absurd (Bh e) (Oc.mpr (Fc L))
  exact(Df _ _ (Fm j)).trans (zx b o j (Aj _ (l b o e)))
 .obtain⟨i,e1,e2⟩:=E4 (d:=d) G (pm.mem_iff.mp hp)
  exact e2▸B i _ e1
end
end _S
namespace _D
open _L
variable {aj:aa}{α:ag}{σ:_L.St}
noncomputable def w9:Aa D->Ak (Aa (Aa Am))
 |[]=>Ab []
 |.tup Q::r=>(wV Q).bind λk=>(w9 r).map (k::·)
 |_::_=>none
def lw (k:Aa Am):D:=.tup (k.map D.int)
theorem eK:∀ {Q:Aa D} {ks:Aa (Aa Am)},w9 Q=Ab ks->Q=ks.map lw
 |[],ks,h=>by cases h;rfl
 |d::r,ks,h=>by
  cases d with
  |tup J =>
   obtain⟨k,G,Y⟩:=Em.mp (show (wV J).bind (λk=>(w9 r).map (k::·))=Ab ks from h)
   obtain⟨m,U,rfl⟩:=Gf.mp Y;rw[eK U,g9 G];rfl
  |_=>cases h
theorem jC (ks:Aa (Aa Am)):w9 (ks.map lw)=Ab ks:=by
 induction ks with
 |nil=>rfl
 |cons k ks Q =>
  show (wV (k.map D.int)).bind (λk=>(w9 (ks.map lw)).map (k::·))=_
  rw[lF,Q];rfl
def uM (xs:Aa D):Ak (Aa D):=match wV xs with
 |some Y=>if (_S.jc _S.si Y).length<=1000 then Ab ((_S.jc _S.si Y).map D.int) else none
 |none=>match w9 xs with
  |some Q=>if ((_S.jc _H.lexLt Q).length<=1000&&Q.all λk=>!k.isEmpty) then Ab ((_S.jc _H.lexLt Q).map lw) else none
  |none=>none
def OC:D->Ak (Aa D)
 |.lst Q=>Ab Q
 |.tup Q=>Ab Q
 |_=>none
theorem UW {K:Type}{lt':K->K->As}(O:_S.Ord lt')(ks:Aa K)(d:K):_S.jc lt' (_S.vC (λi=>ks.getD i d) ks.length)=_S.jc lt' ks:=
 _S.b8 O (_S.kG O _) (_S.kG O _) λx=>by
  rw[_S.yF O,_S.yF O,_S.j6];constructor
  .rintro⟨i,Q,rfl⟩
   simp[Jq,Q]
  .intro Y
   obtain⟨i,Q,e⟩:=Cz.mp Y;exact⟨i,Q,by simp[Jq,Q,e]⟩
section
variable {X:Cx}{e:Bp}{fa:DE}{p1 p2 nw nu:En}
theorem QN:Gm "sorted" = Ab (.builtin "sorted"):=by decide +kernel
theorem cT {prog:Be}{w:Br}:∀ {k:Aa Am} {us:ah},qJ (k.map V.int) us->ItemsAre (Ct prog w) k us
 |[],us,h=>by cases h;exact .nil
 |i::k,us,h=>by
  cases h with
  |cons q t =>
   obtain⟨Q,rfl⟩:=q;exact .cons (intKind_is _ _ _ _) (cT t)
theorem WL {H P:Hp}{S:aq}{s:Ag}{d:D}{xs:Aa D}{v:V}{Y:Ac}(I:Inv X aj σ H s)(r:bh X.K H P α S)(p:au X.K P α d v)(q:qK v Y)(h:OC d=Ab xs) :
  ∃ a vs ao,Y=.ref a/\qD X.K P α xs vs/\qJ vs ao/\(s.heap.IsList a ao.toArray\/s.heap.IsTuple a ao.toArray)/\xs.length=ao.length:=by
 cases d with
 |lst U =>
  cases h;obtain⟨a,vs,ao,n,rfl,_,t,Q,e,l,_⟩:=vM I r p;exact⟨a,vs,ao,q,t,Q,.inl ⟨_,e,rfl,n,rfl⟩,l⟩
 |tup U =>
  cases h;obtain⟨a,vs,ao,rfl,_,t,Q,⟨o,e,G,n,J⟩,l,_⟩:=uQ I r p;exact⟨a,vs,ao,q,t,Q,.inr ⟨o,e,G,n,J⟩,l⟩
 |_=>cases h
end
section
variable {X:Cx}
noncomputable def lstM (d:D)(S:aq):Ak (Aa D):=match d with
 |.lst Q=>Ab Q
 |.loc i=>match S[i]? with
  |some (.lst Q)=>Ab Q
  |_=>none
 |_=>none
def pR:G2:=λa b S=>match lstM a S,lstM b S with
 |some Q,Ab Y=>if Q.length+Y.length<=bb then .ok (.lst (Q++Y)) S else .bad
 |_,_=>.bad
theorem jX {H P:Hp}{S:aq}{s:Ag}{d:D}{xs:Aa D}{v:V}(I:Inv X aj σ H s)(r:bh X.K H P α S)(h:lstM d S=Ab xs)(p:au X.K P α d v) :
  ∃ a vs ao n,v=.ref a/\qD X.K P α xs vs/\qJ vs ao/\s.heap.get? a=Ab { cls:=.type "list",data:=.seq ao.toArray n } /\ xs.length=ao.length:=by
 cases d with
 |lst J =>
  cases h;obtain⟨a,vs,ao,n,e,_,t,Q,G,U,_⟩:=vM I r p;exact⟨a,vs,ao,n,e,t,Q,G,U⟩
 |loc i =>
  simp only[lstM] at h;cases Y:S[i]? with
  |none=>rw[Y] at h;cases h
  |some m =>
   rw[Y] at h;cases m with
   |lst J =>
    cases h;simp only[au] at p;obtain⟨a,rfl,q⟩:=p;obtain⟨vs,z,t⟩:=r.at' i a _ q Y;obtain⟨_,ao,n,Q,e⟩:=I.hok a _ z;exact⟨a,vs,ao,n,rfl,t,Q,e,by rw[t.length,Q.length]⟩
   |_=>cases h
 |_=>cases h
theorem BL:gh X (Ee .Add) pR:=by
 intro aj σ H s P α S v u g k a b Q I r T B z A Y;unfold pR at Y;cases J:lstM a S with
 |none=>rw[J] at Y;exact Ao Y
 |some d =>
  cases G:lstM b S with
  |none=>rw[J,G] at Y;exact Ao Y
  |some q =>
   rw[J,G] at Y;obtain⟨C,Y⟩:=x5 (X:=X) Y;obtain⟨a,o,l,n,rfl,w,U,E,L⟩:=jX I r J z;obtain⟨b,p,O,c,rfl,j,N,M,y⟩:=jX I r G A;cases T;cases B;refine Tq E M ?_ (by rw[Bg,Bg,<- L,<- y,<- zB];exact C)
   rw[Qi];exact f7 I r (w.append j) (U.append N) (by rw[Ca];exact C) Y
end
section
variable {X:Cx}{cm:As}{k:Ah}{e:Bp}{fa:DE}{p1 p2 nw nu:En}
theorem RS:je X (Ee .Add) pR:=⟨BL⟩
end
end _D
section
namespace _D
open _L
mutual
def qq:D->Ak PyData
 |.non=>Ab .none
 |.bl b=>Ab (.bool b)
 |.int i=>Ab (.int i)
 |.str x=>Ab (.str x)
 |.tup Q=>(fG Q).map .tuple
 |.lst Q=>(fG Q).map .list
 |.dct0=>Ab (.dict [])
 |_=>none
def fG:Aa D->Ak (Aa PyData)
 |[]=>Ab []
 |d::Q=>(qq d).bind λx=>(fG Q).map (x::·)
end
end _D
end
section
namespace _H
noncomputable def fu (n:Ah)(k:Am):Am:=(Gi none none k (n:Am)).1
def o_ (n:Ah)(k:Am):Am:=(Gi none none k (n:Am)).2
def gy (n:Ah)(k:Am):Ah:=Gj (fu n k) (o_ n k) k
def dh {α:Type}(xs:Aa α)(k:Am):Aa α:=(Cg (gy xs.length k)).filterMap λ(m:Ah)=>xs[(fu xs.length k+(m:Am)*k).toNat]?
section
variable {prog:Be}{w:Br}{A:Bk}{E:ae}{s:Ag}
theorem bA {U:Af}{k:Am}{t:Qc}{n:Ah}{Q:Am × Am × Ah->Ag->Prop}(hs:s.heap.IsSliceOf U .none .none (.int k t))(G:k≠0)
  (h:Q (fu n k,k,gy n k) s):Ap (Au prog w) A (Jd (.ref U) (pure (n:Am))) Q E s:=by
 obtain⟨os,Y,N,J⟩:=id hs;unfold Jd Ry;refine Ad (Ad (Ed Y J (x:=.none) rfl (Ad (Ed Y J (x:=.none) rfl (Ad (Ed Y J (x:=.int k t) rfl (Al ?_)))))));refine Ad (slicePart_int ?_);show Ap _ _ (if (k == 0)=true then _ else _) _ _ s
 rw[Bb (by simpa using G)]
 refine Ad (Qo (Ad (Qo (Ad (Al ?_)))));exact Al h
theorem io {α:Type}(xs:Aa α)(k:Am):(dh xs k).length<=gy xs.length k:=by
 unfold dh;exact Bq (List.length_filterMap_le _ _) (by rw[Eb];exact Av _)
theorem ik {t C:Af}{items:Aw Ac}{k:Am}{u:Qc}{Q:ae}(J:Qm s.heap t items)(hs:s.heap.IsSliceOf C .none .none (.int k u))(h0:k≠0)(h1:k≠1)
  (h:Q (.ref s.heap.objs.size) { s with heap:=s.heap.push { cls:=.type "tuple",data:=.seq (dh items.toList k).toArray } })
  (hsz:gy items.size k<=sizeLine):Ap (Au prog w) A (On (.ref t) (.ref C)) Q E s:=by
 have Y:sizeOk (.seq (dh items.toList k).toArray):=by
  show (dh items.toList k).toArray.size<=sizeLine;rw[Bg];exact Bq (io _ _) (by simpa using hsz)
 obtain⟨os,O,U,B⟩:=id hs;have N:s.TypeIs (.ref C) "slice":=⟨os,O,U⟩;unfold On
 try with_reducible refine Ef ?_
 first|refine Ad (Al ?_)|skip
 refine Ad (Rz J.typeIs (by decide) ?_)
 refine Ad (El (name:=Ga "__getitem__") J.typeIs Do
  (Eo Do J.typeIs Qg ?_ (Qy _ _)))
 show Ap _ _ (Je (.ref t) >>= _) _ _ s;refine Ad (Wz J ?_);refine Ad (Kc N ?_);rw[Ax (by decide)]
 refine Ad (bA hs h0 ?_);have G:¬ ((fu items.size k == 0&&k == 1&&gy items.size k == items.size)=true):=by
  intro q;rw[Bd,Bd] at q;exact h1 (eq_of_beq q.1.2)
 show Ap _ _ (if (fu items.size k == 0&&k == 1&&gy items.size k == items.size)=true then _ else _) _ _ s
 rw[Bb G];have e:((Cg (gy items.size k)).filterMap λ(m:Ah)=>items[(fu items.size k+(m:Am)*k).toNat]?)=dh items.toList k:=by
  unfold dh;simp
 rw[e]
 first
  |exact Ad (m:=Ev _) (Dm (Al ⟨_,rfl,Al h⟩) Y)
  |exact Ad (m:=Ev _) (Dm (Ad (Al (Al ⟨_,rfl,Al h⟩))) Y)
  |exact Ad (Ad (m:=Ev _) (Dm (Al (Al ⟨_,rfl,Al h⟩)) Y))
  |exact Ad (Ad (m:=Ev _) (Dm (Al ⟨_,rfl,Al h⟩) Y))
end
end _H
namespace _D
open _L
def dF:G2:=λd k S=>match d,k with
 |.tup Q,.int k=>if k≠0/\k≠1/\_H.gy Q.length k<=bb then .ok (.tup (_H.dh Q k)) S else .bad
 |_,_=>.bad
def iS (fe Q:DE):DE:=d2 dF fe Q
section
variable {X:Cx}{e ek:Bp}{fe fk:DE}{p2 ar:En}
theorem WX {vs:Aa V}{us:ah}(Y:qJ vs us)(l:Aa Ah)(f:Ah->Ah):qJ (l.filterMap λm=>vs[f m]?) (l.filterMap λm=>us[f m]?):=by
 induction l with
 |nil=>exact .nil
 |cons m l Q =>
  simp only[Fv];cases h:vs[f m]? with
  |none =>
   have:us[f m]? = none:=by
    rw[So] at h ⊢;rw[<- Y.length];exact h
   rw[this];exact Q
  |some v =>
   obtain⟨u,J,r⟩:=Y.get h;rw[J];exact .cons r Q
theorem WD {K:Ai}{P:Hp}{α:ag}{Q:Aa D}{vs:Aa V}(Y:qD K P α Q vs)(l:Aa Ah)(f:Ah->Ah):qD K P α (l.filterMap λm=>Q[f m]?) (l.filterMap λm=>vs[f m]?):=by
 induction l with
 |nil=>exact .nil
 |cons m l J =>
  simp only[Fv];cases h:Q[f m]? with
  |none =>
   have:vs[f m]? = none:=by
    rw[So] at h ⊢;rw[<- Y.length];exact h
   rw[this];exact J
  |some d =>
   obtain⟨u,U,r⟩:=Y.get h;rw[U];exact .cons r J
set_option tactic.hygienic true in
theorem GF (g:PE X e (tD X fe))(hk:PE X ek (tD X fk)):PE X (.Subscript e (.Slice none none (Ab ek) p2) ar) (tD X (iS fe fk)):=by
 intro n s σ H Q I h;obtain⟨P,α,j,S,r,re,af⟩:=h;have T:qG X P α ((fe j S).bind λd u=>(fk j u).bind λk w=>dF d k w) (gw X P α Q):=af;refine WP (bo (zM g I r re T) λv s1 ⟨x,H1,P1,c,d,u,G,A⟩=>?_);refine Zx ?_;rw[Sa];refine Al (Al ?_);rw[WF];refine bo (zM hk G.inv G.rel G.env (qT.base G.same G.pre A)) λvk U ⟨y,l,p,E,k,w,G2,Y⟩=>?_;have Y:=qT.base G2.same G2.pre Y;cases d with
 |tup o =>
  cases k with
  |int k =>
   simp only[dF] at Y
   split at Y
   .rename_i J
    have i:=au.mono G2.same G2.pre _ _ G.rep;obtain⟨a,N,L,rfl,q,t,O,ht,f,_⟩:=uQ G2.inv G2.rel i;cases (show v=Dk a from G.val)
    have z:=G2.rep;simp only[au] at z;subst z;obtain⟨B,rfl⟩:=G2.val;have I4:Inv X n σ l { U with heap:=U.heap.push { cls:=.type "slice",data:=.fields #[.none,.none,.int k B] } }:=G2.inv.kept (t':=U.toks) λb ob q=>Aj _ q
    have C:Qm (U.heap.push { cls:=.type "slice",data:=.fields #[.none,.none,.int k B] }) a L.toArray:=ht.keeps λb ob q=>Aj _ q;refine Aa2 (ops:=[.ref a,.ref U.heap.objs.size]) (s:={ U with heap:=U.heap.push { cls:=.type "slice",data:=.fields #[.none,.none,.int k B] } }) C.typeIs Do.lookup ?_ (by with_unfolding_all rfl)
    refine _H.ik (s:={ U with heap:=U.heap.push { cls:=.type "slice",data:=.fields #[.none,.none,.int k B] } }) C (Ya ..) J.1 J.2.1 ?_ ?_
    .have lv:N.length=L.length:=O.length
     have ld:o.length=N.length:=t.length;have t':qD X.K p E (_H.dh o k) (_H.dh N k):=by
      unfold _H.dh;rw[ld];exact WD t _ λm=>(_H.fu N.length k+(m:Am)*k).toNat
     have M:qJ (_H.dh N k) (_H.dh L k):=by
      unfold _H.dh;rw[lv];exact WX O _ λm=>(_H.fu L.length k+(m:Am)*k).toNat
     exact rB I4 G2.rel t' M (Bq (_H.io _ _) J.2.2) Y
    .rw[Bg,<- f,<- zB];exact J.2.2
   .exact Ao Y
  |_=>exact Ao Y
 |_=>exact Ao Y
end
end _D
end
namespace _D
open _L
section
variable {X:Cx}{cm:As}{k:Ah}{e ek:Bp}{fe fk:DE}{p2 ar:En}
theorem FC (Y:QE X e fe)(Q:QE X ek fk):QE X (.Subscript e (.Slice none none (Ab ek) p2) ar) (iS fe fk):=⟨GF Y.1 Q.1⟩
end
section
variable {X:Cx}{aj:aa}{σ : _L.St}{H P:Hp}{α : Aa Af}{S:aq}{s:Ag}
inductive ug (X:Cx)(pins:aa)(σ : _L.St)(H P:Hp)(α : Aa Af)(ys:Aa D)(u:Ac)(s':Ag):Prop
 |mk (D:Af) (vs:Aa V) (e:u=.ref D) (hn:H D=none) (I:Inv X pins σ (cc H D (.lst vs)) s') (rp:qD X.K P α ys vs):ug X pins σ H P α ys u s'
end
end _D
namespace _L
variable {jj:Aa An}{mg mb:ai}
def AO (H:Hp):Prop:=∀ b,H b=none\/(∃ o Q,H b=Ab (.frz o (.lst Q)))\/H b=Ab (.tbl #[])
def xf (K:Ai)(H:Hp):Prop:=∀ x∈yM,∀ c T,Ej K x=Ab (c,T)->H T=Ab (.tbl #[])
structure vp (K:Ai)(h:Bn):Prop where
 at':∀ x∈yM,∀ c T,Ej K x=Ab (c,T)->AaG h c T/\h.get? T=Ab (Qu #[]) /\ K.lookup T=none
 inj:∀ x∈yM,∀ y∈yM,∀ c d T,Ej K x=Ab (c,T)->Ej K y=Ab (d,T)->x=y
theorem VH {P:Be}{w:Br}{K:Ai}{CX:sy}{k:Ah}{fa a:Af}{fd:Fh}{x:An}{sp:Sp}{Q:Ag}{vs:ah}{g:Aa Am}
  (KX:K.In Q.heap) (p:Q.heap.Ns Cn mg) (J:Q.heap.Ns Qe mb) (z3:∀ x:An,x ≠ "__name__" -> mb x=Gm x) (l:Q.heap.NoLimit) (hg:Q.gens=#[]) (zl:MD mg Q.heap) (N:vp K Q.heap)
  (y:Q.heap.get? a=Ab { cls:=.type "list",data:=.seq vs.toArray }) (hi:Kt vs g) (hl:g.length<=sizeLine) (hr:gt k Sb)
  (F:∀ base:Bn,K.In base->base.Ns Cn mg->kw P w K mg base CX k fa fd [x] sp) (j:∀ (s:Ag) (u:Ac),Ol s fd ⟨[u],[]⟩ [(x,u)])
  (zy:∀ H:Hp,xf K H->oo K H a (g.map V.int)->sp [.ref a] H (λv _=>v=.bl true) λ_ _ _=>Fb)
  (z1:∀ H e s',CX [] H Q (λ_ _ _=>Fb) e s'->Fb) :
  Ja (Au P w) Sb (.call (.ref fa) ⟨[.ref a],[]⟩) (λr s'=>r=.ok (.ret (.bool true))/\OldK Q.heap s'.heap/\s'.os=Q.os/\Og s'.gens) Q:=by
 have rv:=WW hi;have z4:=hi.length
 let gl:Af->Prop:=λb=>∃ x∈yM,∃ c,Ej K x=Ab (c,b)
 have tab:∀ b,gl b->Q.heap.get? b=Ab (Qu #[]) /\ K.lookup b=none:=λb ⟨x,U,c,h⟩=>(N.at' x U c b h).2;have core:∀ H:Hp,AO H->xf K H->oo K H a (g.map V.int)->gj P w H Q.heap->(∀ b,H b≠none->b=a\/gl b)->(H a≠none->K.lookup a=none) ->
   Ja (Au P w) Sb (.call (.ref fa) ⟨[.ref a],[]⟩) (λr s'=>r=.ok (.ret (.bool true))/\OldK Q.heap s'.heap/\s'.os=Q.os/\Og s'.gens) Q:=by
  intro H hO hT hS A hA hK;have Y:∀ {b:Af} {o:Ch},Q.heap.get? b=Ab o->H b=none->(g6 Q.heap H).get? b=Ab o:=λe n=>V9 e n;have zc:∀ {b:Af} {o:Ch},Q.heap.get? b=Ab o->o.cls≠.none->(o.cls≠.type "list" \/ ∃ I M,o.data=.dict I M)->H b=none:=λ{b o} e c1 c2=>by
   cases q:H b with
   |none=>rfl
   |some u =>
    rcases hA b (by rw[q];simp) with e'|e'
    .subst e'
     rw[y] at e;cases e;rcases c2 with z|⟨I,M,d⟩
     .exact absurd rfl z
     .cases d
    .rw[(tab b e').1] at e;cases e
     exact absurd rfl c1
  have zx:∀ {b:Af} {o:Ch} {I:Aw DictEntry} {M:Ah},Q.heap.get? b=Ab o->o.data=.dict I M->H b=none:=λ{b o I M} e d=>by
   cases q:H b with
   |none=>rfl
   |some u =>
    rcases hA b (by rw[q];simp) with e'|e'
    .subst e'
     rw[y] at e;cases e;cases d
    .rw[(tab b e').1] at e;cases e;cases d
  have O:∀ {b:Af} {m:ai},Q.heap.Ns b m->(g6 Q.heap H).Ns b m:=λ{b m} ⟨o,I,M,e,d,r⟩=>⟨o,I,M,Y e (zx e d),d,r⟩;have i:K.In (g6 Q.heap H):=λb o e=>Y (KX b o e) (by
   cases q:H b with
   |none=>rfl
   |some u =>
    rcases hA b (by rw[q];simp) with e'|e'
    .subst e'
     rw[hK (by rw[q];simp)] at e;cases e
    .rw[(tab b e').2] at e;cases e)
  have hM:Mod K mg (g6 Q.heap H):=by
   refine⟨i,O p,⟨mb,O J,z3⟩,let ⟨mc,h1,h2⟩:=l;⟨mc,O h1,h2⟩,?_,λx U c T h=>?_,N.inj⟩
   .obtain⟨bm,o,b1,b2,b3,b4,b5⟩:=zl
    exact⟨bm,o,b1,b2,Y b3 (zc b3 (by rw[b4];nofun) (.inl (by rw[b4];decide))),b4,b5⟩
   .obtain⟨o,vs,t,tf,L,tg,zs,zb,tt,C,E,r⟩:=(N.at' x U c T h).1
    exact⟨o,vs,t,tf,L,tg,zs,zb,tt,Y C (zc C (by rw[E];nofun) (.inl (by rw[E];decide))),E,r⟩
  have e0:lr P w K mg (g6 Q.heap H) Sb [] Q H:=⟨rfl,hM,λb o e=>BQ e,Yq (ZM _ _),trivial,λb J=>absurd (show b∈([]:ag) from J) (by simp),A,.of_eq hg⟩
  refine Nk ((F _ i (O p)).run Sb [] Q H ⟨[.ref a],[]⟩ [.ref a] [.ref a] _ _ hr e0 (j Q (.ref a)) (.cons rfl .nil) (zy H hT hS)) λr s' h=>?_;cases r with
  |error e=>exact(z1 H e s' h).elim
  |ok fl =>
   cases fl with
   |next=>exact Ao h
   |brk=>exact Ao h
   |cont=>exact Ao h
   |ret u =>
    obtain⟨v,H',os,f,un,B,r',q⟩:=h;have q':v=.bl true:=q;subst q';obtain rfl:u=Fu true:=r';refine⟨rfl,⟨λb o e=>?_,λb o e=>un.there b o e (by simp)⟩,os,f⟩
    cases q:H b with
    |none=>exact .inl (un.keep b o e q (by intro z;exact absurd (show b∈([]:ag) from z) (by simp)) (by simp))
    |some u =>
     rcases hO b with z|⟨ob,xs,z⟩|z
     .rw[q] at z;cases z
     .have z2:=un.frzs b ob _ z
      obtain⟨C,_⟩:=A b _ z;obtain⟨E,_⟩:=B b _ z2;rw[e] at C;cases C;exact .inl E
     .obtain⟨ge,z2⟩:=un.tbls b _ z
      have C:Q.heap.get? b=Ab (Qu #[]):=A b _ z;have E:s'.heap.get? b=Ab (Qu (#[] ++ ge)):=B b _ z2;rw[e] at C;cases C;rcases hA b (by rw[q];simp) with e'|⟨x,U,c,h⟩
      .subst e';rw[y] at e;cases e
      .exact .inr (.inl ⟨((N.at' x U c b h).1.tab e).isCodeTable,rfl,#[],ge,rfl,E⟩)
 have nT:¬ gl a:=λh=>by
  have z:=(tab a h).1;rw[y] at z;cases z
 have tT:∀ x∈yM,∀ c T,Ej K x=Ab (c,T)->gl T:=λx U c T h=>⟨x,U,c,h⟩;have z5:∀ b,Gg (gl b):=λb=>Classical.propDecidable _;cases hk:K.lookup a with
 |some o =>
  have e:=KX a o hk;rw[y] at e;cases e;refine core (λb=>if gl b then Ab (.tbl #[]) else none) (λb=>?_) (λx U c T h=>Ax (tT x U c T h)) (.inr ⟨vs,_,hk,by rw[Aq];exact hl,rv⟩) (λb u z=>?_) (λb z=>?_) λz=>absurd (Bb nT) z
  .by_cases h:gl b
   .exact .inr (.inr (Ax h))
   .exact .inl (Bb h)
  .by_cases h:gl b
   .have G:=(Ax h).symm.trans z
    cases G;exact(tab b h).1
   .have G:=(Bb h).symm.trans z
    cases G
  .by_cases h:gl b
   .exact .inr h
   .exact absurd (Bb h) z
 |none =>
  refine core (λb=>if b=a then Ab (.frz { cls:=.type "list",data:=.seq vs.toArray } (.lst (g.map V.int))) else if gl b then Ab (.tbl #[]) else none) (λb=>?_) (λx U c T h=>?_) (.inl (.inr ⟨{ cls:=.type "list",data:=.seq vs.toArray },Ax rfl⟩)) (λb u z=>?_) (λb z=>?_) λ_=>hk
  .by_cases J:b=a
   .exact .inr (.inl ⟨_,_,Ax J⟩)
   .by_cases h:gl b
    .exact .inr (.inr ((Bb J).trans (Ax h)))
    .exact .inl ((Bb J).trans (Bb h))
  .have h':=tT x U c T h
   exact(Bb (λ(z:T=a)=>nT (z▸h'))).trans (Ax h')
  .by_cases J:b=a
   .have G:=(Ax J).symm.trans z
    cases G;subst J;exact⟨y,by rw[Aq];exact hl,vs,_,rv,y⟩
   .by_cases h:gl b
    .have G:=((Bb J).trans (Ax h)).symm.trans z
     cases G;exact(tab b h).1
    .have G:=((Bb J).trans (Bb h)).symm.trans z
     cases G
  .by_cases J:b=a
   .exact .inl J
   .by_cases h:gl b
    .exact .inr h
    .exact absurd ((Bb J).trans (Bb h)) z
def sI (q:Be)(K:Ai):As:=yM.all λx=>match Ej K x with
 |none=>true
 |some (_,T)=>((recsOf q).find? λe=>e.name == x).isSome&&((K.lookup T).isNone&&yM.all λy=>match Ej K y with
  |none=>true
  |some (_,U)=>x == y||!decide (T=U))
theorem M0 {q:Be}{Q:ExcName->Ak Ac}{h:Bn}{K:Ai}(T:Top q jj Q mg mb h)(X:K.In h)(c:sI q K=true):vp K h:=by
 unfold sI at c;have g:∀ x∈yM,∀ d U,Ej K x=Ab (d,U)->((recsOf q).find? λe=>e.name == x).isSome=true/\(K.lookup U).isNone=true/\(yM.all λy=>match Ej K y with
  |none=>true
  |some (_,V)=>x == y||!decide (U=V))=true:=λx Y d U e=>by
  have z:=Bs.mp c x Y;rw[e] at z;simpa only [Bd] using z
 refine⟨λx Y d U e=>?_,λx Y y C d I U O G=>?_⟩
 .obtain⟨J,E,_⟩:=g x Y d U e
  obtain⟨r,N⟩:=Mw.mp J;obtain⟨B,L⟩:=PySem.W.tab_of T X N e;exact⟨B,L,by simpa using E⟩
 .have z:=Bs.mp (g x Y d U O).2.2 y C
  rw[G] at z;simpa using z
theorem M6 {l:Aa8}{n k:Ah}{q:Be}{jj:Aa An}{XP:(An->Ak Ac)->Bn->Prop}{M:Br->Bn->Prop}{d:DefRec}{K:Params->Ai}{CX:Br->sy}{sp:Br->Sp}{x:An}
  (m:l.most=Ab n) (L:n<=sizeLine) (B:d.params.defaults=[]) (g:gt k Sb) (ht:∀ p,sI q (K p)=true)
  (hY:∀ (w:Br) (h:Bn),M w h->(K w.params).In h)
  (F:∀ (w:Br) (mg:ai) (C:Af) (h:Bn),(K w.params).In h->h.Ns Cn mg->mg d.name=Ab (.ref C) ->
   ∃ fd:Fh,(∀ (s:Ag) (u:Ac),Ol s fd ⟨[u],[]⟩ [(x,u)]) /\
    ∀ base:Bn,(K w.params).In base->base.Ns Cn mg->kw l.prog w (K w.params) mg base (CX w) k C fd [x] (sp w))
  (I:∀ (w:Br) (H:Hp) (a:Af) (O:Aa Am),O.length<=n->xf (K w.params) H->oo (K w.params) H a (O.map V.int)->sp w [.ref a] H (λv _=>v=.bl true) λ_ _ _=>Fb)
  (A:∀ (w:Br) (H:Hp) (s:Ag) (e:Ac) (s':Ag),CX w [] H s (λ_ _ _=>Fb) e s'->Fb) :
  AaU q jj XP M l.row.toRowW d [] (λf vs=>AaC f vs):=by
 refine _A.mh m B λw z N mg mb C o pm cd b a vs O G Y ho hd zb T U J Q i=>?_;have E:=hY w _ Y;obtain⟨fd,hb,t⟩:=F w mg C _ E G.T.g T;exact VH E G.T.g G.T.b G.T.builtins G.T.nolimit i (let ⟨r,ob,b1,b2,y,j,b5,b6⟩:=G.T.bmain;⟨r,ob,b1,b2,y,j,b5,b6⟩) (M0 G.T E (ht _)) U J (Bq Q L) g t hb (λH c hS=>I w H a O Q c hS) λH e s'=>A w H N e s'
end _L
namespace _D
open _L
variable {K:Ai}{mg:ai}
theorem RB {h:Bn}(X:K.In h)(G:h.Ns Cn mg){x:An}{st:Ey}{J:Aa An}{f:Af}{L:Ac}{T N:Ak Af}{U:Aw (Ak Ac)}{kV Y C Q O:Ac}
  (a:Dr K Cn x=Ab (Ab (.ref f)))
  (l:K.lookup f=Ab ⟨L,T,.func (Gn x x (wQ st) (zV st) (qM st) .none kV Y C N Q O),U⟩) (c:Lr K Q x=true) (k:Ep K (.ref f)=true)
  (B:∀ (kV Y C:Ac) (N:Ak Af) (Q O:Ac) (us:ah),us.length=J.length->Aa1 (Gn x x (wQ st) (zV st) (qM st) .none kV Y C N Q O) ⟨us,[]⟩=pure (J.zip us)):qw K mg x st J:=
 have F:=NU (st:=st) l c k
 ⟨f,_,Xn X G a,F,F.binds B⟩
noncomputable def sH (K:Ai)(C:Af):As:=
 decide (Nq K (.ref C) "__getattribute__" = Ab (Ab (.builtin "BaseException.__getattribute__")))&&decide (Nq K (.ref C) "__getattr__" = Ab none)
 && decide (Nq K (.ref C) "__class__" = Ab (Ab (.builtin "object.__class__")))&&decide (Wv K C (.type "object")=Ab true)&&decide (Wv K C (.type "BaseException")=Ab true)
 && (PySem.W.clsIn K C).isSome&&decide (Lq K (.ref C) (.type "ValueError")=Ab true)
noncomputable def YE (K:Ai):As:=
 decide (Yx K (.builtin "object.__class__") "__get__" = Ab (Ab (.builtin "getset_descriptor.__get__")))&&decide (Aa0 K (.builtin "object.__class__")=Ab true)
def MZ (K:Ai)(Q:ag):As:=Q.all λC=>Q.all λB=>decide (Lq K (.ref C) (.ref B)=Ab (C == B))
theorem T3 {Y:ag}(h1:Y.all (sH K)=true)(h2:YE K=true)(h3:MZ K Y=true):rq K Y:=by
 have g:=h2;unfold YE at g;simp only[Bd,Cc] at g;have J:∀ C∈Y,sH K C=true:=Bs.mp h1;refine⟨λC Q=>?_,λC Q B L=>?_,λC Q=>?_⟩
 .have e:=J C Q
  unfold sH at e;simp only[Bd,Cc] at e;obtain⟨⟨⟨⟨⟨⟨E,N⟩,G⟩,T⟩,U⟩,O⟩,I⟩:=e;exact⟨E,N,G,g.1,g.2,T,U,O⟩
 .have e:=Bs.mp (Bs.mp h3 C Q) B L
  exact Bz e
 .have e:=J C Q
  unfold sH at e;simp only[Bd,Cc] at e;exact e.2
def ID (K:Ai)(Q:ah)(A:Af):As:=Q.all λv=>decide (Ju K v (.ref A)=Ab true)
def IB (K:Ai)(Q:ag)(A:Af):As:=Q.all λC=>bR K C A
def IC (K:Ai)(Q:ag):As:=Q.all λC=>Ep K (.ref C)
def dQ (K:Ai):Sp:=λJ H Q E=>xf K H/\∃ a Y,J=[.ref a]/\oo K H a (AaZ V.int Y)/\Y.length<=63/\∀ U,Q (.bl true) U
theorem eA {P:Hp}{α:ag}:∀ Q:Aa Am,qD K P α (Q.map D.int) (Q.map V.int)
 |[]=>.nil
 |n::Q=>.cons (by simp only[au]) (eA Q)
def tj (H:Hp):Hp:=λb=>match H b with
 |some (.tbl _)=>none
 |u=>u
theorem B6 {P:Be}{w:Br}{r:Af}{st:Ey}{k:Ah}{x:An}(hs:qw K mg "law" st [x])(A:mg "law" = Ab (.ref r))
  (L:∀ (kV N y:Ac) (I:Ak Af) (U M:Ac) (s:Ag) (v:Ac),Ol s (Gn "law" "law" (wQ st) (zV st) (qM st) .none kV N y I U M) ⟨[v],[]⟩ [(x,v)])
  (O:∀ base:Bn,∃ F,dS P w K mg base true k "law" [x] F/\∀ J:Aa Am,J.length<=63->∃ S,F [.lst (J.map D.int)] [] = .ok (.bl true) S) :
  ∃ fd:Fh,(∀ (s:Ag) (v:Ac),Ol s fd ⟨[v],[]⟩ [(x,v)])/\∀ base:Bn,K.In base->base.Ns Cn mg->kw P w K mg base (ml P w) k r fd [x] (dQ K):=by
 obtain⟨f,fd,g,F,hb⟩:=hs;cases A.symm.trans g;refine⟨fd,?_,λbase _ _=>?_⟩
 .obtain⟨oc,od,kV,N,y,I,U,M,m,rfl,_,_⟩:=F.ex
  exact L kV N y I U M
 .obtain⟨G,⟨f',i,B,_,zb,j,X⟩,hG⟩:=O base
  cases g.symm.trans B;cases j.one (pU F);refine(X.imp λvs H Q E h=>?_).ok;obtain⟨t,a,J,rfl,hS,j,k⟩:=h;obtain⟨S,e⟩:=hG J j;have Y:∀ (b:Af) (u:HO),H b=Ab u->(∀ C,u≠.tbl C)->tj H b=Ab u:=λb u q h=>by
   unfold tj;rw[q];cases u with
   |tbl C=>exact absurd rfl (h C)
   |_=>rfl
  have p:oo K (tj H) a (AaZ V.int J):=by
   rcases hS with (h|⟨o,h⟩)|h
   .exact .inl (.inl (Y _ _ h λ_ z=>by cases z))
   .exact .inl (.inr ⟨o,Y _ _ h λ_ z=>by cases z⟩)
   .exact .inr h
  have sub:qF (tj H) H:=λb u q=>by
   unfold tj at q;cases z:H b with
   |none=>rw[z] at q;cases q
   |some v =>
    rw[z] at q;cases v with
    |tbl C=>cases q
    |_=>exact q
  refine⟨rfl,tj H,[],[.lst (J.map D.int)],[],⟨λx l c T h=>⟨#[],t x l c T h,by unfold tj;rw[t x l c T h],by simp,trivial,λar cv z=>by cases z⟩,sub,rfl,.nil,by simp,by simp,by simp⟩,.cons (nJ p (eA J)) .nil,?_⟩
  rw[e];intro v n P' zc _ _ _ d;simp only[au] at d;subst d;exact k n
theorem A7 {l:Aa8}{q:Be}{L:Aa An}{I:(An->Ak Ac)->Bn->Prop}{Y:Br->Bn->Prop}{d:DefRec}{K:Params->Ai}{k:Ah}{x:An}(C:l.most=Ab 63)(Q:d.params.defaults=[])(G:gt k Sb)(E:∀ p,sI q (K p)=true)
  (U:∀ (w:Br) (h:Bn),Y w h->(K w.params).In h)
  (F:∀ (w:Br) (mg:ai) (J:Af) (h:Bn),(K w.params).In h->h.Ns Cn mg->mg d.name=Ab (.ref J) ->
   ∃ fd:Fh,(∀ (s:Ag) (u:Ac),Ol s fd ⟨[u],[]⟩ [(x,u)])/\∀ base:Bn,(K w.params).In base->base.Ns Cn mg->kw l.prog w (K w.params) mg base (ml l.prog w) k J fd [x] (dQ (K w.params))) :
  AaU q L I Y l.row.toRowW d [] (λf vs=>AaC f vs):=
 _L.M6 (n:=63) (k:=k) (x:=x) (CX:=λw=>ml l.prog w) (sp:=λw=>dQ (K w.params)) C (by decide) Q G E U F (λ_ _ a O B N T=>⟨N,a,O,rfl,T,B,λ_=>rfl⟩) λw H s e A h=>by
  obtain⟨_,_,_,_,_,_,_,_,_,_,_,_,z⟩:=h;exact z
end _D
namespace _D
variable {us:ah}
theorem zr (h:us.length=0):us=[]:=Po h
theorem xq {n:Ah}(h:us.length=n+1):∃ a vs,us=a::vs/\vs.length=n:=by
 cases us with
 |nil=>exact absurd h (by simp)
 |cons a vs=>exact⟨a,vs,rfl,by simpa using h⟩
theorem yo (h:us.length=1):∃ a,us=[a]:=by
 obtain⟨a,Y,rfl,Q⟩:=xq h;exact⟨a,by rw[zr Q]⟩
theorem yn (h:us.length=2):∃ a b,us=[a,b]:=by
 obtain⟨a,Y,rfl,Q⟩:=xq h;obtain⟨b,rfl⟩:=yo Q;exact⟨a,b,rfl⟩
theorem zq (h:us.length=3):∃ a b c,us=[a,b,c]:=by
 obtain⟨a,Y,rfl,Q⟩:=xq h;obtain⟨b,c,rfl⟩:=yn Q;exact⟨a,b,c,rfl⟩
end _D
namespace _D
open _L
variable {Fs:Aa (Ah × DF)}{sc:Eu}
theorem KC (F:DF):∃ G:DF,G=F:=⟨F,rfl⟩
def sh (F:DF):DF:=u8 (KC F)
theorem zP (F:DF):sh F=F:=Vo (KC F)
def yx:Ak HT->As
 |some .local => true
 |some .cell=>true
 |some .free=>true
 |_=>false
noncomputable def wv:Ak HT->As
 |some .local => true
 |some .cell=>true
 |_=>false
def F_:Ak HT->As
 |some .globalImplicit=>true
 |_=>false
noncomputable def wu (x:An):As:=!(x == ("__debug__" : An))&&(!(x == ("__classdict__" : An))&&!decide (x = "__name__"))
def ox (X:Cx)(x:An):As:=F_ (X.env.kindOf x)&&wu x
def xx (v:Ac)(x:An):As:=decide (Gm x=Ab v)
def nB (sc:Eu):Aa An:=sc.names.filterMap λy=>if wv (Ab y.2) then Ab y.1 else none
def y8 (sc:Eu):Aa An:=(sc.names.filterMap λy=>if wv (Ab y.2)&&!(y.1 == (".0" : An)) then Ab y.1 else none)++sc.names.filterMap λy=>if y.2 == .free then Ab y.1 else none
def Ck (b:As):Prop:=b=true
theorem ck {b:As}(h:b=true:=by kernel_rfl):Ck b:=h
structure qm (F:DF)(P:Be)(w:Br)(K:Ai)(mg:ai)(base:Bn)(cm:As)(k:Ah)(x:An)(n:Ah):Prop where
 get:md P w K mg base cm k x n F
def vh (X:Cx)(m:Ah)(x:An):As:=decide (X.N[m]? = Ab x)&&(wv (X.env.scope.names.lookup x)&&(decide X.N.Nodup&&(X.fn x||decide (X.env.scope.names.lookup x=Ab .local))))
noncomputable def vi (X:Cx)(m:Ah)(x:An):As:=decide (X.N[m]? = Ab x)&&decide (X.env.scope.names.lookup x=Ab .local)
def dA (Q:Eu)(Y:Aa An)(am:Eu)(bz:Aa (Ak Ah)):As:=
 decide (am.kind=.function)&&(decide (∀ y∈am.names,y.2=.local -> am.names.lookup y.1=Ab .local)&&(decide (∀ y∈am.names,y.2=.cell->am.names.lookup y.1=Ab .cell)&&(decide (∀ y∈am.names,y.2=.free->Q.names.lookup y.1=Ab .cell\/Q.names.lookup y.1=Ab .free)
 && (decide (∀ y∈am.names,y.2=.free->am.names.lookup y.1=Ab .free)&&(decide (bz.length=(y8 am).length)&&(((bz.zip (y8 am)).all λp=>match p.1 with|none=>true|some i=>Y[i]? == Ab p.2&&am.names.lookup p.2 == Ab .free)&&decide (y8 am).Nodup))))))
noncomputable def w_ (N P:Aa An)(sc:Eu):As:=
 decide (sc.kind=.function)&&(decide (sc.isCoroutine=false)&&(decide (sc.isGenerator=false)&&(decide N.Nodup&&(decide (N.take P.length=P)&&(decide (∀ x∈P,sc.names.lookup x=Ab .local \/ sc.names.lookup x=Ab .cell)&&decide (∀ y∈sc.names,y.2≠.free))))))
theorem sJ {Q:Eu}{Y:Aa An}{am:Eu}{bz:Aa (Ak Ah)}(h:dA Q Y am bz=true):dc Q Y am (y8 am) bz:=by
 simp only[dA,Bd,Cc] at h;obtain⟨a,b,c,d,e,f,g,k⟩:=h;exact⟨a,b,c,d,e,f,g,k⟩
theorem ZK {N P:Aa An}(h:w_ N P sc=true):cu N P sc:=by
 simp only[w_,Bd,Cc] at h;obtain⟨a,b,c,d,e,f,g⟩:=h;exact⟨a,b,c,d,e,f,g⟩
section
variable {X:Cx}{a b c e o ce tg bg:Bp}{cy qI:Aa Bp}{f g:DS}{fa:DE}{f2:oz}{dg:DG}{t:DT}{kk:DK}{bi dy:Aa Dy}{am:Eu}{bz:Aa (Ak Ah)}{mm:As}{l q:Ah}{y z:An}{ou:G2}{es:Aa Bp}{fA:DA}{x:An}{p ar:En}{cm:As}{k n m:Ah}{F:DF}
theorem PN (h:yx (sc.names.lookup x)=true):qv sc x:=by
 unfold qv
 revert h
 cases sc.names.lookup x with
 |none=>intro h;cases h
 |some y=>cases y <;> intro h <;> first|cases h;done|exact .inl rfl|exact .inr (.inl rfl)|exact .inr (.inr rfl)
theorem PL (h:wv (sc.names.lookup x)=true):_L.Loc sc x:=by
 unfold _L.Loc
 revert h
 cases sc.names.lookup x with
 |none=>intro h;cases h
 |some y=>cases y <;> intro h <;> first|cases h;done|exact .inl rfl|exact .inr rfl
theorem mM (h:wu x=true):(x == ("__debug__" : An))=false/\(x == ("__classdict__" : An))=false/\x ≠ "__name__":=by
 unfold wu at h;rw[Bd,Bd] at h;exact⟨by simpa using h.1,by simpa using h.2.1,by simpa using h.2.2⟩
theorem wB (h:ox X x=true):Gl X x/\(x == ("__debug__" : An))=false/\x ≠ "__name__":=by
 have h:=(Bd _ _).mp h;refine⟨?_,(mM h.2).1,(mM h.2).2.2⟩;have z:=h.1;unfold Gl
 revert z
 cases X.env.kindOf x with
 |none=>intro z;cases z
 |some y=>cases y <;> intro z <;> first|cases z;done|rfl
theorem rM (h:vh X m x=true):X.N[m]? = Ab x/\_L.Loc X.env.scope x/\X.N.Nodup/\(X.fn x=true\/X.env.scope.names.lookup x=Ab .local):=by
 simp only[vh,Bd,Cc,Us] at h;exact⟨h.1,PL h.2.1,h.2.2⟩
theorem kA (h:vi X m x=true):X.N[m]? = Ab x/\X.env.scope.names.lookup x=Ab .local:=by
 simp only[vi,Bd,Cc] at h;exact h
theorem JQ (h:Ck (ox X x)):Gl X x:=(wB h).1
theorem aV (h:Ck (decide (X.N[m]? = Ab x)&&(yx (X.env.scope.names.lookup x)&&wu x))):QE X (.Name x ar) (qB m):=by
 unfold Ck at h;simp only[Bd,Cc] at h;exact SN m h.1 (PN h.2.1) (mM h.2.2).1 (mM h.2.2).2.1
theorem zd {nm:Eg}(h:Ck (ox X x))(hm:X.mg x=none)(Q:Ck (xx (.type nm) x)):QE X (.Name x ar) (dC (.ty nm)):=
 have h:=wB h
 F7 h.1 hm (Bz Q) h.2.2 h.2.1
theorem W_ {C:Af}(h:Ck (ox X x))(hm:X.mg x=Ab (.ref C)/\Ep X.K (.ref C)=true):QE X (.Name x ar) (dC (.obj C)):=
 have h:=wB h
 SE h.1 hm.1 hm.2 h.2.1
theorem U_ {v:Am}(h:Ck (ox X x))(hm:∃ t,X.mg x=Ab (.int v t)):QE X (.Name x ar) (dC (.int v)):=
 have h:=wB h
 F9 h.1 hm h.2.1
abbrev sr (X:Cx)(e:Bp)(es:Aa Bp)(ar:En):Prop:=Bl (e::es) X.env=(false,eval e X.env)::Bl es X.env/\(Gp ar (Bl es X.env)).any (·.1)=false
theorem aN (G:qm F X.prog X.w X.K X.mg X.base cm k x n)(Y:az cm k X.A)(J:ji X)(h:Ck (ox X x))(Q:QA X (e::es) fA)(s:sr X e es ar):QE X (.Call (.Name x p) (e::es) [] ar) (qP n F fA):=
 have h:=wB h
 z_ G.1 Y J h.1 Q h.2.1 s.1 s.2
theorem aO (G:qm F X.prog X.w X.K X.mg X.base cm k x n)(Y:az cm k X.A)(h:Ck (ox X x))(Q:QA X (e::es) fA)(s:sr X e es ar):QE X (.Call (.Name x p) (e::es) [] ar) (qP n (lz F) fA):=
 have h:=wB h
 zz G.1 Y h.1 Q h.2.1 s.1 s.2
theorem aB {id:Eg}(Q:fr X (.builtin id) F)(h:Ck (ox X x))(hm:X.mg x=none)(J:Ck (xx (.builtin id) x))(Y:QA X (e::es) fA)(s:sr X e es ar):QE X (.Call (.Name x p) (e::es) [] ar) (qH F fA):=
 have h:=wB h
 U6 Q h.1 hm (Bz J) Y h.2.2 h.2.1 s.1 s.2
theorem aT {T:Eg}(Q:fr X (.type T) F)(h:Ck (ox X x))(hm:X.mg x=none)(J:Ck (xx (.type T) x))(Y:QA X (e::es) fA)(s:sr X e es ar):QE X (.Call (.Name x p) (e::es) [] ar) (qH F fA):=
 have h:=wB h
 XY Q h.1 hm (Bz J) Y h.2.2 h.2.1 s.1 s.2
theorem aC (S:Ck (dA X.env.scope X.N am bz))(O:X.calm=true)(hi:ut X tg bg f2)(B:∀ J C U Q Y,QG (qY X (y8 am) am J C U Q Y) tg dg)(G:∀ J C U Q Y,ue (qY X (y8 am) am J C U Q Y) cy t)
  (has:∀ g',(⟨tg,bg,cy,0⟩::dy:Aa Dy)[0+1]? = Ab g'->g'.is_async=0)
  (N:∀ J C U Q Y,QK jv (qY X (y8 am) am J C U Q Y) (λav=>xK false ce (⟨tg,bg,cy,0⟩::dy) am ar 0 av (qY X (y8 am) am J C U Q Y).env) kk) (hs:∀ x,Fw bg X.env x=pure x) :
  QE X (.ListComp ce (⟨tg,bg,cy,0⟩::dy) am ar) (qZ mm bz f2 dg t kk):=U8 O (sJ S) hi B G has N hs
theorem V_ {N J:En}(hsw:Nv (.ListComp ce (⟨tg,bg,cy,0⟩::dy) am ar) (Ab (.Name y N)) J.line X.env=pure true)(S:Ck (dA X.env.scope X.N am bz))(L:Ck (vh X m y))(T:X.calm=true)(hi:ut X tg bg f2)(E:∀ G C U Y Q,QG (qY X (y8 am) am G C U Y Q) tg dg)(B:∀ G C U Y Q,ue (qY X (y8 am) am G C U Y Q) cy t)
  (has:∀ g',(⟨tg,bg,cy,0⟩::dy:Aa Dy)[0+1]? = Ab g'->g'.is_async=0)
  (O:∀ G C U Y Q,QK jv (qY X (y8 am) am G C U Y Q) (λav=>xK false ce (⟨tg,bg,cy,0⟩::dy) am ar 0 av (qY X (y8 am) am G C U Y Q).env) kk) (hs:∀ x,Fw bg X.env x=pure x) :
  QS X (.Assign [.Name y N] (.ListComp ce (⟨tg,bg,cy,0⟩::dy) am ar) J) (zA (qZ mm bz f2 dg t kk) (br m)):=
 have h:=rM L
 UD T h.2.2.1 (sJ S) hi E B has O h.1 h.2.1 h.2.2.2 hsw hs
theorem za (h:Ck (vh X m x)):QG X (.Name x ar) (br m):=
 have h:=rM h
 FD h.2.2.1 h.1 h.2.1 h.2.2.2
theorem y_ {Q:En}(hs:Nv e (Ab (.Name x Q)) ar.line X.env=pure false)(Y:QE X e fa)(h:Ck (vh X m x)):QS X (.Assign [.Name x Q] e ar) (zA fa (br m)):=
 have h:=rM h
 SX h.2.2.1 Y h.1 h.2.1 hs h.2.2.2
theorem T_ {J Q Y:En} {kt k2 pt2} (h:Ck (decide X.N.Nodup&&(vi X m x&&(vi X l y&&!decide (m=l))))) (U:X.calm=true) (G:QA X [a,b] fA)
  (hw:Ma [.Tuple [.Name x J,.Name y Q] kt Y] (.Tuple [a,b] k2 pt2) X.env=pure (Ab [x,y])) (hs:Mb [.Tuple [.Name x J,.Name y Q] kt Y] (.Tuple [a,b] k2 pt2) ar.line X.env=pure false) :
  QS X (.Assign [.Tuple [.Name x J,.Name y Q] kt Y] (.Tuple [a,b] k2 pt2) ar) (pH m l fA):=by
 unfold Ck at h;simp only[Bd,Cc,Nw,Ih] at h;exact SW U h.1 G (kA h.2.1).1 (kA h.2.2.1).1 h.2.2.2 (kA h.2.1).2 (kA h.2.2.1).2 hw hs
theorem S_ {C:Af}{Y Q:En}(h:Ck (ox X x))(U:X.calm=true)(J:ji X)(hm:∃ G,X.mg x=Ab (.ref C)/\bR X.K C G=true)(N:QA X (e::qI) fA)(s:sr X e qI Q) :
  QS X (.Raise (Ab (.Call (.Name x Y) (e::qI) [] Q)) none ar) (yT (.ref C) fA):=
 have h:=wB h
 let ⟨_,hm,O⟩:=hm
 UE U J h.1 hm O N h.2.1 s.1 s.2
theorem Q_ {nm:An}{O:Aa Ey}{Y:Ey}{Q:Aa Ey}{B J:En}{C:ah}(h:Ck (ox X x&&(vi X m nm&&(decide X.N.Nodup&&decide (X.N.length=n)))))(L:ji X)(hm:∃ G,X.mg x=Ab (.ref G)/\∀ c∈C,Ju X.K c (.ref G)=Ab true)(T:∀ E N,lu (Cx.tryIn X E N)->QB (Cx.tryIn X E N) O f)(hs:∀ e,QB (Cx.suite X e) (Y::Q) g) :
  QS X (.Try O [.ExceptHandler (Ab (.Name x B)) (Ab nm) (Y::Q) J] [] [] ar) (fJ n m C f g):=by
 unfold Ck at h;simp only[Bd,Cc] at h;obtain⟨G,hm,U⟩:=hm;exact SY L T hs (wB h.1).1 hm U h.2.2.1 (kA h.2.1).1 (kA h.2.1).2 (wB h.1).2.1 h.2.2.2
theorem R_ {Q:Bp}{fi:DE}{lp sp:En}(G:az cm k X.A)(T:my X cm k es Fs)(Y:ji X)(J:Ck (decide (Fs.length<=bb)))(hi:QE X Q fi)(U:QA X (e::qI) fA)(hs:u0 Q)(s:sr X e qI ar) :
  QE X (.Call (.Subscript (.List es lp) Q sp) (e::qI) [] ar) (bS Fs fi fA):=SL T G Y (Bz J) hi U hs s.1 s.2
theorem P_ {j:Ah}(G:qm F X.prog X.w X.K X.mg X.base cm j x n)(Q:j<=k)(h:Ck (ox X x))(t:my X cm k es Fs):my X cm k (.Name x p::es) ((n,F)::Fs):=
 have h:=wB h
 Y3 (G.1.mono Q) h.1 h.2.1 t
end
structure xc (K:Ai)(mg:ai)(tp:Ah->Ey)(tab:Aa (An × Ah × Aa An))(bl:Aa An)(oi pr:Aa (An × Af))(cs:ah)(exl:ag)(qf:Aa (An × Am)):Prop where
 src:∀ (j:Ah) {x:An} {i:Ah} {ps:Aa An},tab[j]? = Ab (x,i,ps)->qw K mg x (tp i) ps
 nb:∀ {x:An},Ck (bl.contains x)->mg x=none
 cl:∀ {x:An} {C:Af},oi.lookup x=Ab C->mg x=Ab (.ref C)/\Ep K (.ref C)=true
 rz:∀ {x:An} {C:Af},pr.lookup x=Ab C->∃ Ae,mg x=Ab (.ref C)/\bR K C Ae=true
 ct:∃ C0,mg "FarError" = Ab (.ref C0)/\∀ c∈cs,Ju K c (.ref C0)=Ab true
 cls:rq K exl
 gi:∀ {x:An} {v:Am},qf.lookup x=Ab v->∃ t,mg x=Ab (.int v t)
section
variable {K:Ai}{mg:ai}{cm:As}{tp:Ah->Ey}{tab:Aa (An × Ah × Aa An)}{bl:Aa An}{oi pr:Aa (An × Af)}{cs:ah}{exl:ag}{qf:Aa (An × Am)}{x:An}{i m:Ah}{ps:Aa An}{F:DF}{g:DS}
theorem dq (P:Be)(w:Br)(base:Bn)(k j:Ah)(T:xc K mg tp tab bl oi pr cs exl qf)(Y:tab[j]? = Ab (x,i,ps))(h:Ck (w_ (nB (qM (tp i))) ps (qM (tp i))&&decide ((nB (qM (tp i))).length=m)))(J:F=qQ m g)
  (G:∀ (f:Af) (Q:Ac) (A:Bk) (U:Aa Iu) (s:Ag) (H:Hp) (E:XK),bK K x Q->az cm k (A.deeper (Gx x (qM (tp i)) s.heap.objs.size f Q)) ->
   QB (lh cm P w K mg base (nB (qM (tp i))) x (qM (tp i)) f Q A U s H E) (zV (tp i)) g):qm F P w K mg base cm (k+1) x ps.length:=by
 unfold Ck at h;simp only[Bd,Cc] at h;obtain⟨h,rfl⟩:=h;exact⟨J▸IE (T.src j Y) (ZK h) rfl G⟩
theorem K_ {P:Be}{w:Br}{base:Bn}(k j:Ah)(T:xc K mg tp tab bl oi pr cs exl qf)(Y:tab[j]? = Ab (x,i,ps))(h:Ck (w_ (nB (qM (tp i))) ps (qM (tp i))&&decide ((nB (qM (tp i))).length=m)))
  (U:∀ (f:Af) (Q:Ac) (A:Bk) (J:Aa Iu) (s:Ag) (H:Hp) (E:XK),bK K x Q->az cm k (A.deeper (Gx x (qM (tp i)) s.heap.objs.size f Q)) ->
   QB (lh cm P w K mg base (nB (qM (tp i))) x (qM (tp i)) f Q A J s H E) (zV (tp i)) g):dS P w K mg base cm (k+1) x ps (qQ m g):=by
 unfold Ck at h;simp only[Bd,Cc] at h;obtain⟨h,rfl⟩:=h;exact EE (T.src j Y) (ZK h) rfl U
end
theorem hv {a b:Prop}(f:a->b)(h:a):b:=f h
inductive t_ (K:Ai)(x:An)(st:Ey)(ps:Aa An):Prop
 |mk {f:Af} {oc:Ac} {od an:Ak Af} {osl:Aw (Ak Ac)} {kV doc pm cdv ct:Ac} (a:Dr K Cn x=Ab (Ab (.ref f)))
  (l:K.lookup f=Ab ⟨oc,od,.func (Gn x x (wQ st) (zV st) (qM st) .none kV doc pm an cdv ct),osl⟩) (c:Lr K cdv x=true) (k:Ep K (.ref f)=true):t_ K x st ps
def iG (K:Ai)(tp:Ah->Ey):Aa (An × Ah × Aa An)->Prop
 |[]=>NE
 |(x,i,Q)::t=>t_ K x (tp i) Q/\iG K tp t
def xp (tp:Ah->Ey):Aa (An × Ah × Aa An)->Prop
 |[]=>NE
 |(x,i,U)::t=>(∀ (kV Y O:Ac) (G:Ak Af) (J N:Ac) (Q:ah),Q.length=U.length->Aa1 (Gn x x (wQ (tp i)) (zV (tp i)) (qM (tp i)) .none kV Y O G J N) ⟨Q,[]⟩=pure (U.zip Q))/\xp tp t
def iA (K:Ai):Aa (An × Af)->Prop
 |[]=>NE
 |(x,C)::t=>Dr K Cn x=Ab (Ab (.ref C))/\iA K t
def iB (K:Ai):Aa (An × Am)->Prop
 |[]=>NE
 |(x,v)::t=>(∃ k,Dr K Cn x=Ab (Ab (.int v k)))/\iB K t
def II:Ak (Ak Ac)->As
 |some none=>true
 |_=>false
section
variable {K:Ai}{h:Bn}{mg:ai}{tp:Ah->Ey}
theorem aW (X:K.In h)(G:h.Ns Cn mg):∀ (tab:Aa (An × Ah × Aa An)),iG K tp tab->xp tp tab->∀ (j:Ah) {x:An} {i:Ah} {Q:Aa An},tab[j]? = Ab (x,i,Q)->qw K mg x (tp i) Q
 |[],_,_,_,_,_,_,e=>by cases e
 |(x,i,Q)::t,H,B,0,_,_,_,e=>by
  cases e;obtain⟨a,l,c,k⟩:=H.1;exact RB X G a l c k B.1
 |(x,i,Q)::t,H,B,j+1,_,_,_,e=>aW X G t H.2 B.2 j e
theorem wI {β:Type}{p:An->β->Prop}{x:An}{C:β}:∀ {l:Aa (An × β)},(∀ y∈l,p y.1 y.2)->l.lookup x=Ab C->p x C
 |[],_,e=>by cases e
 |(y,b)::t,H,e=>by
  rw[Jx] at e;cases q:x == y with
  |true =>
   rw[q] at e;cases e;rw[eq_of_beq q];exact H (y,_) (.head _)
  |false =>
   rw[q] at e;exact wI (λz Q=>H z (.tail _ Q)) e
theorem pM (X:K.In h)(G:h.Ns Cn mg):∀ {l:Aa (An × Af)},iA K l->∀ y∈l,mg y.1=Ab (.ref y.2)
 |(x,C)::t,H,y,hy=>by
  rcases AT.mp hy with rfl|hy
  .exact Xn X G H.1
  .exact pM X G H.2 y hy
theorem cC (X:K.In h)(G:h.Ns Cn mg):∀ {l:Aa (An × Am)},iB K l->∀ y∈l,∃ k,mg y.1=Ab (.int y.2 k)
 |(x,C)::t,H,y,hy=>by
  rcases AT.mp hy with rfl|hy
  .obtain⟨k,e⟩:=H.1
   exact⟨k,Xn X G e⟩
  .exact cC X G H.2 y hy
theorem CZ {tab:Aa (An × Ah × Aa An)}{bl:Aa An}{oi pr:Aa (An × Af)}{J:ah}{exl:ag}{qf:Aa (An × Am)}{Q:Af}(B:xp tp tab)(hp:∀ y∈pr,y∈oi)(N:oi.lookup ("FarError" : An)=Ab Q)(X:K.In h)(G:h.Ns Cn mg)
  (s:iG K tp tab) (z:(bl.all λx=>II (Dr K Cn x))=true) (q:iA K oi) (g:iB K qf) (e1:exl.all (sH K)=true) (e2:YE K=true) (e3:MZ K exl=true) (e4:ID K J Q=true) (e5:IB K (pr.map (·.2)) Q=true) (e6:IC K (oi.map (·.2))=true):xc K mg tp tab bl oi pr J exl qf where
 src:=aW X G tab s B
 nb:=λ{x} U=>by
  have e:=Bs.mp z x (by simpa using Fx.mp U)
  refine PySem.W.mg_none_of X G ?_
  revert e
  cases Dr K Cn x with
  |none=>intro e;cases e
  |some y=>cases y with
   |none=>intro _;rfl
   |some y=>intro e;cases e
 cl:=λh=>⟨wI (p:=λx C=>mg x=Ab (.ref C)) (pM X G q) h,wI (p:=λ_ C=>Ep K (.ref C)=true) (λy Y=>Bs.mp e6 y.2 (Xo Y)) h⟩
 rz:=λh=>⟨Q,wI (p:=λx C=>mg x=Ab (.ref C)) (λy Y=>pM X G q y (hp y Y)) h,wI (p:=λ_ C=>bR K C Q=true) (λy Y=>Bs.mp e5 y.2 (Xo Y)) h⟩
 ct:=⟨Q,wI (p:=λx C=>mg x=Ab (.ref C)) (pM X G q) N,λv hv=>Bz (Bs.mp e4 v hv)⟩
 cls:=T3 e1 e2 e3
 gi:=λh=>wI (p:=λx v=>∃ k,mg x=Ab (.int v k)) (cC X G g) h
end
structure rj where
 qual:An
 params:Vi
 body:Bp
 scope:Eu
def JP (sc:Eu):Aa An:=sc.names.filterMap λy=>if y.2 == .free then Ab y.1 else none
inductive mi (h:Bn)(H:Hp)(fs:ag)(L:rj)(a:Af)(cv:Aa V):Prop
 |mk (cl:Aa (An × Af)) (pm ctv:Ac) (c:Af) (oc:Ch) (ws:Aw Ac) (t:Qc) (o:h.get? a=Ab (PySem.W.kla_obj "<lambda>" L.qual L.params L.body L.scope cl pm c ctv)) (hc:H c=Ab (.frz oc (.frz oc (.own 0)))) (hd:oc.data=.fields ws) (ht:ws[1]? = Ab (.str L.qual t))
  (inj:∀ x y d,cl.lookup x=Ab d->cl.lookup y=Ab d->x=y) (cel:∀ x d,cl.lookup x=Ab d->H d=none/\∃ v,h.IsCell d v) (has:∀ x,L.scope.names.lookup x=Ab .free->∃ d,cl.lookup x=Ab d)
  (len:cv.length=(JP L.scope).length) (val:∀ (j:Ah) x v,(JP L.scope)[j]? = Ab x->cv[j]? = Ab v->∃ d u,cl.lookup x=Ab d/\qK v u/\h.IsCell d (Ab u)) (hn:H a=none) (hf:a ∉ fs):mi h H fs L a cv
theorem mi.at {X:Cx}{aj:aa}{σ:_L.St}{H:Hp}{s:Ag}{L:rj}{a:Af}{A:Aa V}(C:mi X.s₀.heap X.H₀ X.fs L a A)(F:ji X)(I:Inv X aj σ H s):mi s.heap H (gx X.stack) L a A:=by
 obtain⟨l,r,G,c,y,g,t,o,f,w,ht,U,Q,has,N,val,T,B⟩:=C;have Y:∀ b,b ∉ X.ex:=λb=>by rw[F.1];simp
 have p:∀ b o,X.s₀.heap.get? b=Ab o->b ∉ X.fs->b ∉ gx X.stack:=λb o e n z=>(F.mem.mp z).elim (Cp (Az (Bh e) I.ok.above)) n;have M:∀ d v,X.H₀ d=none->X.s₀.heap.IsCell d v->s.heap.IsCell d v:=λd v J ⟨o,e,q⟩=>let ⟨_,z⟩:=I.base.any e J (Y d);⟨_,z,q⟩
 refine⟨l,r,G,c,y,g,t,I.base.keep a _ o T B (Y a),I.base.frzs _ _ _ f,w,ht,U,λx d e=>?_,has,N,λj x v k m=>?_,I.base.free a _ o T (Y a),p a _ o B⟩
 .obtain⟨J,v,O⟩:=Q x d e
  obtain⟨ob,i,q⟩:=id O;exact⟨I.base.free d ob i J (Y d),v,M d v J O⟩
 .obtain⟨d,u,E,h,q3⟩:=val j x v k m
  exact⟨d,u,E,h,M d _ (Q x d E).1 q3⟩
theorem rh.at {K:Ai}{H Y P:Hp}{α:ag}{a:Af}(e:Y a=H a):∀ {o:MO},rh K H P α a o->rh K Y P α a o
 |.dead,_=>trivial
 |.lst _,⟨Q,q,r⟩=>⟨Q,e.trans q,r⟩
 |.dct _,⟨Q,q,r⟩=>⟨Q,e.trans q,r⟩
 |.dcT _,⟨Q,q,r⟩=>⟨Q,e.trans q,r⟩
 |.ins _ _,⟨J,Q,q,r⟩=>⟨J,Q,e.trans q,r⟩
section
variable {X:Cx}{aj:aa}{σ : _L.St}{H P:Hp}{α : Aa Af}{s:Ag}{S:aq}{y:An}{c T:Af}
theorem Inv.pinned {a:Af}{o:Ch}{h':Bn}{J:Ah}{Y:Hp}(I:Inv X aj σ Y { s with heap:=h'.push o,toks:=J })(O:a=h'.objs.size)(hs:s.heap.objs.size<=h'.objs.size)(U:Inv X aj σ H s)(N:Y a=none)(G:∀ v,o.data≠.cell v)(Q:o.isFreed=false:=by rfl):Inv X ((a,o)::aj) σ Y { s with heap:=h'.push o,toks:=J }:=by
 refine I.pins_of λp hp=>?_;rcases AT.mp hp with rfl|hp
 .subst O
  exact⟨Bj _ Q,N,Hn (Az U.lt hs),U.nofs hs,G⟩
 .exact I.pin p (Cf _ hp)
end
structure ul (X:Cx)(L:rj)(a:Af)(cv:Aa V):Prop where
 get:mi X.s₀.heap X.H₀ X.fs L a cv
section
variable {X:Cx}{cm nx:As}{k kl m n N i:Ah}{x y:An}{p ar D_:En}{e:Bp}{es:Aa Bp}{fA:DA}{fe:DE}{L:rj}{G:Aa D->DF}{a:Af}{cv:Aa V}{g:(Aa D->DF)->Af->Aa V->DS}{Fs:FnL}{bz:Aa Ah}{ii:Vi}{cx:Bp}{am:Eu}
theorem ul.tr {E:ae}{Q:aa}(h:ul X L a cv):ul (Cx.tryIn X E Q) L a cv:=⟨h.1⟩
end
def kU:G2:=λa b S=>match lstM a S,lstM b S with
 |some Q,Ab Y=>if Q.length+Y.length<=bb then .ok (.loc S.length) (S++[.lst (Q++Y)]) else .bad
 |_,_=>.bad
section
variable {X:Cx}
theorem VG {aj:aa}{σ:_L.St}{H P:Hp}{α:ag}{S:aq}{s:Ag}{xs:Aa D}{vs:Aa V}{ao:ah}{Q:VK}(I:Inv X aj σ H s)(r:bh X.K H P α S)(t:qD X.K P α xs vs)(Y:qJ vs ao)(hz:xs.length<=bb)
  (ok:gw X P α Q (.loc S.length) (S++[.lst xs])):EP X aj σ Q (.ref s.heap.objs.size) { s with heap:=s.heap.push { cls:=.type "list",data:=.seq ao.toArray } }:=by
 refine⟨.ref s.heap.objs.size,_,I.laid (t':=s.toks) (o:=.lst vs) (λb J q=>Aj _ q) (Av _) ⟨by rw[<- t.length,<- zB];exact hz,ao,0,Y,Bj _ rfl⟩,rfl,pV r (I.hok.fresh (Av _)) t ok⟩
theorem BM:gh X (Ee .Add) kU:=by
 intro l σ H s P α S v u c k a b Q I r T B z A Y;unfold kU at Y;cases J:lstM a S with
 |none=>rw[J] at Y;exact Ao Y
 |some f =>
  cases G:lstM b S with
  |none=>rw[J,G] at Y;exact Ao Y
  |some q =>
   rw[J,G] at Y;obtain⟨C,Y⟩:=x5 (X:=X) Y;obtain⟨a,o,g,n,rfl,w,U,E,L⟩:=jX I r J z;obtain⟨b,p,O,d,rfl,j,N,M,y⟩:=jX I r G A;cases T;cases B;refine Tq E M ?_ (by rw[Bg,Bg,<- L,<- y,<- zB];exact C)
   rw[Qi];exact VG I r (w.append j) (U.append N) (by rw[Ca];exact C) Y
theorem RT:je X (Ee .Add) kU:=⟨BM⟩
end
noncomputable def oS:D->aq->Ak (Aa D)
 |.lst Q,_=>Ab Q
 |.tup Q,_=>Ab Q
 |.loc n,S=>match S[n]? with
  |some (.lst Q)=>Ab Q
  |_=>none
 |_,_=>none
def vK (U:As)(f:DE):DE:=λJ S=>(f J S).bind λd Q=>match (oS d Q).bind uM with
 |some Y=>if U then .ok (.loc Q.length) (Q++[.lst Y]) else .ok (.lst Y) Q
 |none=>.bad
section
variable {X:Cx}{aj:aa}{σ : _L.St}{H P:Hp}{α : Aa Af}{S:aq}{s:Ag}
theorem bI {K:Type}{is:K->Ac->Prop}{g:K->Am}{lt':K->K->As}{d:K}{e:K->Prop}(kd:_S.Kind X.prog X.w is g lt' d e s.heap)(ad:_S.pq X.prog X.w is g s.heap)(t:X.calm=true)(hu:X.A.units+64<Fo)(I:Inv X aj σ H s)(r:bh X.K H P α S){a:Af}{ao:ah}
  (ha:s.heap.IsList a ao.toArray\/s.heap.IsTuple a ao.toArray) (ks:Aa K) (hl:ks.length=ao.length) (hk:∀ i v,ao[i]? = Ab v->is (ks.getD i d) v) (hn:(_S.jc lt' ks).length<=1000) (hf:∀ k∈ks,e k) (c_:K->D)
  (A:∀ k v,is k v->v∈ao->∃ z,qK z v/\au X.K P α (c_ k) z) {E:ae} :
  Ap (Au X.prog X.w) X.A (call (.type "set") [.ref a]) (λu s1=>Ap (Au X.prog X.w) X.A (call (.builtin "sorted") [u]) (ug X aj σ H P α ((_S.jc lt' ks).map c_)) E s1) E s:=by
 have N:ao.toArray.size=ks.length:=by rw[Bg,hl]
 have mem:∀ k,k∈_S.jc lt' ks↔k∈ks:=λk=>_S.yF kd.ord k ks;have B:∀ i,i<ks.length->ks.getD i d∈ks:=λi C=>by simp[Jq,C]
 refine _S.iN (U:=_S.jc lt' ks) ad (I.ok.hd t) li ha (λi=>ks.getD i d) (λi v hv=>hk i v (by simpa using hv)) li (λi C=>(mem _).mpr (B i (by rw[<- N];exact C))) λl O Z m=>?_
 have seen:∀ k∈_S.vC (λi=>ks.getD i d) ao.toArray.size,k∈ks:=λk Q=>by
  obtain⟨i,C,rfl⟩:=_S.j6.mp Q;exact B i (by rw[<- N];exact C)
 have f:Inv X aj σ H { s with heap:=l,toks:=O }:=I.kept m
 refine _S.oW (s:={ s with heap:=l,toks:=O }) kd (I.ok.hd t) li m Z (λk Q=>hf k (seen k Q)) (U:=_S.jc lt' ks) li (λk Q=>(mem k).mpr (seen k Q)) λh2 T D c G y n o M x zb=>?_
 rw[N,UW kd.ord] at M;have z:∀ (G:Aa (K × Ac)),(∀ p∈G,is p.1 p.2/\p.2∈ao)->∃ Y,qJ Y (G.map (·.2))/\qD X.K P α ((G.map (·.1)).map c_) Y:=by
  intro G
  induction G with
  |nil=>exact λ_=>⟨[],.nil,.nil⟩
  |cons p G b =>
   intro h;obtain⟨Y,w,j⟩:=b λq hq=>h q (by simp[hq])
   obtain⟨v,b1,b2⟩:=A p.1 p.2 (h p (by simp)).1 (h p (by simp)).2
   exact⟨v::Y,.cons b1 w,.cons b2 j⟩
 obtain⟨Y,w,j⟩:=z G λp J=>by simpa using x p J
 rw[M] at j;have nd:([(D,HO.lst Y)].map (·.1)).Nodup:=by simp
 have I2:Inv X aj σ (gN H [(D,HO.lst Y)]) { s with heap:=h2,toks:=T }:=Inv.laidL (s:={ s with heap:=l,toks:=O }) (L:=[(D,HO.lst Y)]) (t':=T) f y (λp J=>by
  have:p=(D,HO.lst Y):=by simpa using J
  subst this;exact n) λp J=>by
  have:p=(D,HO.lst Y):=by simpa using J
  subst this;refine⟨?_,G.map (·.2),c,w,o⟩
  have:=w.length;rw[Aq] at this;rw[this,Gq]
  lia
 exact⟨D,Y,rfl,f.hok.fresh n,I2,j⟩
set_option tactic.hygienic true in
theorem FS {d:D}{xs:Aa D}{v:V}{Q:Ac}(I:Inv X aj σ H s)(r:bh X.K H P α S)(p:au X.K P α d v)(q:qK v Q)(h:oS d S=Ab xs) :
  ∃ a vs ao,Q=.ref a/\qD X.K P α xs vs/\qJ vs ao/\(s.heap.IsList a ao.toArray\/s.heap.IsTuple a ao.toArray)/\xs.length=ao.length:=by
 cases d with
 |lst J=>exact WL I r p q h
 |tup J=>exact WL I r p q h
 |loc n =>
  have U:S[n]? = Ab (.lst xs):=by
   have h:(match S[n]? with|some (.lst xs)=>Ab xs|_=>none)=Ab xs:=h
   split at h
   .rename_i e;cases h;exact e
   .cases h
  simp only[au] at p;obtain⟨a,rfl,G⟩:=p;cases (show Q=Dk a from q)
  obtain⟨vs,z,t⟩:=r.at' n a _ G U;obtain⟨ao,Y,p,N⟩:=I.list (jg.of z);exact⟨a,vs,ao,rfl,t,Y,.inl p.isList,by rw[t.length,Y.length]⟩
 |_=>cases h
end
section
variable {X:Cx}{e:Bp}{fa:DE}{p1 p2 nw nu:En}{mu:As}
set_option tactic.hygienic true in
theorem eT (hc:X.calm=true)(hu:X.A.units+64<Fo)(hg:Gl X "sorted")(hm:X.mg "sorted" = none)(z2:Gl X "set")(zb:X.mg "set" = none)(ha:PE X e (tD X fa))(he:Bl [e] X.env=(false,eval e X.env)::Bl [] X.env:=by rfl) :
  PE X (.Call (.Name "sorted" p1) [.Call (.Name "set" p2) [e] [] nu] [] nw) (tD X (vK mu fa)):=by
 intro aj s σ H Q I h;obtain⟨P,α,ak,S,r,re,af⟩:=h;refine Kk (uF I hg hm QN ?_);refine Ox ?_ rfl rfl;refine Ht ?_;refine Call_ (uF I z2 zb Y7 (Iw ?_ he rfl));rw[he];refine Ht (bo (zM ha I r re af) λvv O ⟨v,H1,P1,B,d,S1,Y,G⟩=>Lg ?_);cases hq:(oS d S1).bind uM with
 |none=>simp only[hq] at G;exact Ao G
 |some ys =>
   simp only[hq] at G;obtain⟨xs,l,U⟩:=Em.mp hq;obtain⟨a,vs,x,rfl,t1,c,A,l1⟩:=FS Y.inv Y.rel Y.rep Y.val l;have y:Ap (Au X.prog X.w) X.A (call (.type "set") [.ref a]) (λu O=>Ap (Au X.prog X.w) X.A (call (.builtin "sorted") [u]) (ug X aj σ H1 P1 B ys) X.xe O) X.xe O:=by
    unfold uM at U;cases M:wV xs with
    |some ns =>
     rw[M] at U;dsimp only at U
     split at U
     .rename_i E
      cases U;have:=g9 M;subst this;have:=uZ t1;subst this;refine bI (d:=0) (_S.EZ X.prog X.w O.heap) (_S.MK O.heap) hc hu Y.inv Y.rel A ns (by simpa using l1) (λi u J=>?_) E (λ_ _=>trivial) D.int λk u n _=>?_
      .have M:Kt x ns:=by simpa using mB c
       obtain⟨t,rfl⟩:=AaJ M i u J;exact intKind_is _ _ _ _
      .obtain⟨t,rfl⟩:=_S.wW n
       exact⟨.int k,⟨t,rfl⟩,by simp only[au]⟩
     .cases U
    |none =>
     rw[M] at U;dsimp only at U;cases ht:w9 xs with
     |none=>rw[ht] at U;cases U
     |some N =>
      rw[ht] at U;dsimp only at U
      split at U
      .rename_i E
       cases U;have C:=Fk.mp E;have:=eK ht;subst this;have f:∀ (i:Ah) (u:Ac),x[i]? = Ab u->∃ b,u=.ref b/\Tv (Ct X.prog X.w) O.heap (N.getD i []) b/\∃ vv,qK vv u/\au X.K P1 B (lw (N.getD i [])) vv:=λi u J=>by
        have L:i<x.length:=(Ce.mp J).1;have zs:i<N.length:=by rw[Aq] at l1;lia
        obtain⟨v,p,q,_⟩:=uE t1 c (j:=i) (by rw[Bg];exact L)
        have l:(N.map lw).getD i D.non=lw (N.getD i []):=by simp[Jq,zs]
        rw[l] at p;have zy:x.toArray[i]'(by rw[Bg];exact L)=u:=by
         rw[Ar L] at J;simpa using J
        rw[zy] at q;obtain⟨b,ws,us,rfl,sq,t,rv,⟨o,ho,zc,m,l⟩,_,_⟩:=uQ Y.inv Y.rel (show au X.K P1 B (.tup ((N.getD i []).map D.int)) v from p)
        cases (show u=Dk b from q)
        have:=uZ t;subst this;exact⟨b,rfl,⟨o,us.toArray,m,ho,zc,l,by simpa using cT rv⟩,.ref b,rfl,p⟩
       refine bI (d:=[]) (_S.H0 X.prog X.w O.heap) (_S.MM O.heap) hc hu Y.inv Y.rel A N (by simpa using l1) (λi u J=>?_) (Bz C.1) (λk n=>?_) lw λk u n zx=>?_
       .obtain⟨b,rfl,q,_⟩:=f i u J
        exact⟨b,rfl,q⟩
       .have:=Bs.mp C.2 k n
        intro z;subst z;cases this
       .obtain⟨i,zl,rfl⟩:=Cz.mp zx
        obtain⟨b,eb,q,w,z1,pw⟩:=f i _ (Ar zl);have:k=N.getD i []:=_S.gl.inj n ⟨b,eb,q⟩;rw[this];exact⟨w,z1,pw⟩
      .cases U
   refine bo y λu s2 h2=>Lg (bo h2 λu' s3 ⟨D,z3,e,hn,I',g⟩=>?_);subst e;cases mu with
   |true=>exact⟨.ref D,_,I',rfl,pV Y.rel hn g λv' H' P' T r' A e2 rp=>G v' H' P' T r' (Y.same.trans A) (Y.pre.trans e2) rp⟩
   |false=>exact⟨.ref D,_,I',rfl,w8 Y.rel hn g λv' H' P' T r' A e2 rp=>G v' H' P' T r' (Y.same.trans A) (Y.pre.trans e2) rp⟩
end
section
variable {X:Cx}{cm:As}{k:Ah}{e:Bp}{fa:DE}{p1 p2 nw nu:En}{mu:As}
theorem h8 (J:X.calm=true)(N:az cm k X.A)(U:Gl X "sorted")(hm:X.mg "sorted" = none)(Q:Gl X "set")(Y:X.mg "set" = none)(G:QE X e fa)(O:Bl [e] X.env=(false,eval e X.env)::Bl [] X.env:=by rfl) :
  QE X (.Call (.Name "sorted" p1) [.Call (.Name "set" p2) [e] [] nu] [] nw) (vK mu fa):=⟨eT J N.units U hm Q Y G.1 O⟩
end
end _D
section
namespace _D
open _L
mutual
def vA:D->Aa Am
 |.int n=>[1,n]
 |.tup Q=>2::zN Q
 |_=>[]
def zN:Aa D->Aa Am
 |[]=>[0]
 |x::Q=>vA x++zN Q
end
mutual
def vP:D->D->As
 |.int _,.int _=>true
 |.tup Y,.tup Q=>uY Y Q
 |_,_=>false
def uY:Aa D->Aa D->As
 |x::Y,y::Q=>vP x y&&uY Y Q
 |_,_=>true
end
def ltN (a b:D):As:=_H.lexLt (vA a) (vA b)
noncomputable def wq:Ah->D->As
 |_,.int _=>true
 |n+1,.tup Q=>Q.all (wq n)
 |_,_=>false
inductive Tr:Ah->D->Prop
 |int (n:Ah) (i:Am):Tr n (.int i)
 |tup (n:Ah) (xs:Aa D) (h:∀ x∈xs,Tr n x):Tr (n+1) (.tup xs)
theorem CY:∀ {n:Ah} {d:D},wq n d=true->Tr n d:=by
 intro n
 induction n with
 |zero=>intro d h;cases d <;> first|exact .int _ _|exact DL h
 |succ n Y =>
  intro d h;cases d with
  |int i=>exact .int _ i
  |tup Q=>exact .tup n Q λx J=>Y (Bs.mp (show Q.all (wq n)=true from h) x J)
  |_=>exact DL h
theorem pN {n:Ah}{d:D}(h:Tr n d):∃ k r,vA d=k::r/\0<k:=by
 cases h with
 |int _ i=>exact⟨1,[i],rfl,by decide⟩
 |tup n Q=>exact⟨2,zN Q,rfl,by decide⟩
theorem wO (x:D)(xs:Aa D):zN (x::xs)=vA x++zN xs:=rfl
theorem lJ:∀ {xs ys:Aa D} {n m:Ah},(∀ x∈xs,Tr n x)->(∀ y∈ys,Tr m y)->(∀ x∈xs,∀ y∈ys,vP x y=true->∀ r Q:Aa Am,_H.lexLt (vA x++r) (vA y++Q)=if jt x y=true then _H.lexLt r Q else ltN x y)->uY xs ys=true ->
  ∀ r Q:Aa Am,_H.lexLt (zN xs++r) (zN ys++Q)=if xA xs ys=true then _H.lexLt r Q else _H.lexLt (zN xs) (zN ys)
 |[],[],_,_,_,_,_,_,r,Q=>rfl
 |[],y::ys,_,_,_,U,_,_,r,Q=>by
  obtain⟨k,t,e,p⟩:=pN (U y (by simp))
  rw[Bb (by intro z;cases z),wO,e]
  show _H.lexLt (0::r) (k::_)=_H.lexLt [0] (k::_);rw[_H.bf,_H.bf,Bb om,Bb om]
 |x::xs,[],_,_,N,_,_,_,r,Q=>by
  obtain⟨k,t,e,p⟩:=pN (N x (by simp))
  rw[Bb (by intro z;cases z),wO,e]
  show _H.lexLt (k::_) (0::Q)=_H.lexLt (k::_) [0];rw[_H.bf,_H.bf,Bb om,Bb om]
 |x::xs,y::ys,_,_,N,U,G,L,r,Q=>by
  have Y:(vP x y&&uY xs ys)=true:=L;rw[Bd] at Y;have O:=lJ (λz J=>N z (by simp[J])) (λz J=>U z (by simp[J])) (λz J B C=>G z (by simp[J]) B (by simp[C])) Y.2
  rw[wO,wO,Cj,Cj,G x (by simp) y (by simp) Y.1,G x (by simp) y (by simp) Y.1,O,lA]
  cases jt x y <;> cases xA xs ys <;> simp
theorem VJ {n:Ah}{a:D}(E:Tr n a):∀ {m:Ah} {b:D},Tr m b->vP a b=true->∀ r Q:Aa Am,_H.lexLt (vA a++r) (vA b++Q)=if jt a b=true then _H.lexLt r Q else ltN a b:=by
 induction E with
 |int n i =>
  intro m b G J r Q;cases G with
  |int _ j =>
   show _H.lexLt (1::i::r) (1::j::Q)=if (i == j)=true then _ else _H.lexLt [1,i] [1,j]
   simp only[_H.bf,Du,Qh]
   split <;> rfl
  |tup _ Y=>exact DL J
 |tup n C T L =>
  intro m b G J r Q;cases G with
  |int _ j=>exact DL J
  |tup m Y B =>
   have h:=lJ T B (λx N y U O=>L x N (B y U) O) J r Q;show _H.lexLt (2::(zN C++r)) (2::(zN Y++Q))=if xA C Y=true then _ else _H.lexLt (2::zN C) (2::zN Y)
   rw[_H.bf,_H.bf,Ax rfl,Ax rfl,h]
theorem BB {xs ys:Aa D}:ltN (.tup xs) (.tup ys)=_H.lexLt (zN xs) (zN ys):=by
 show _H.lexLt (2::_) (2::_)=_;rw[_H.bf,Ax rfl]
theorem X5 {n m:Ah}{x y:D}{xs ys:Aa D}(J:Tr n x)(Q:Tr m y)(Y:vP x y=true):_H.lexLt (zN (x::xs)) (zN (y::ys))=if jt x y=true then _H.lexLt (zN xs) (zN ys) else ltN x y:=VJ J Q Y _ _
set_option tactic.hygienic true in
theorem BA (i j:Am):ltN (.int i) (.int j)=decide (i<j):=by
 show _H.lexLt [1,i] [1,j]=_;rw[_H.bf,Ax rfl,_H.bf]
 split
 .rename_i h;subst h;simp[_H.gz]
 .rfl
theorem NJ {n:Ah}{a:D}(U:Tr n a):jt a a=true:=by
 induction U with
 |int n i=>show (i == i)=true;simp
 |tup n Q _ J =>
  show xA Q Q=true;rw[yZ];simp only[TD,BEq.rfl,AaQ,Bs,Ei];intro j Y;exact J _ (by simp[Jq,Y])
theorem kK:∀ {xs ys:Aa D},uY xs ys=true->∀ {j:Ah} {x y:D},xs[j]? = Ab x->ys[j]? = Ab y->vP x y=true
 |[],_,_,j,x,y,e,_=>by simp at e
 |_::_,[],_,j,x,y,_,e=>by simp at e
 |a::xs,b::ys,h,j,x,y,J,Y=>by
  have Q:(vP a b&&uY xs ys)=true:=h;rw[Bd] at Q;cases j with
  |zero=>cases J;cases Y;exact Q.1
  |succ j=>exact kK Q.2 (j:=j) (by simpa using J) (by simpa using Y)
end _D
end
namespace _D
open _L PySem.SeqAt
variable {s:Ag}{n:Ah}
def iF (A:Bk)(s:Ag)(u v:Ac)(c:As):Prop:=∀ (Y:Be) (w:Br) (E:ae) (Q:ae),Q (.bool c) s->Ap (Au Y w) A (richCompare .Lt u v) Q E s
inductive lq (A:Bk)(s:Ag):Aa Ac->Aa Ac->As->Prop
 |nn:lq A s [] [] false
 |nc (v:Ac) (vs:ah):lq A s [] (v::vs) true
 |cn (u:Ac) (us:ah):lq A s (u::us) [] false
 |eq (u v:Ac) (us vs:ah) (b:As) (he:EqAt A s u v true) (h:lq A s us vs b):lq A s (u::us) (v::vs) b
 |ne (u v:Ac) (us vs:ah) (b:As) (he:EqAt A s u v false) (h:iF A s u v b):lq A s (u::us) (v::vs) b
section
open PySem.SeqAt
open PySem.AutoSeq1 (wpAny_loadPart')
open PySem.MeetsSeq PySem.MeetsSeq2 PySem.MeetsSeq3
theorem Q0 (l b:Af)(items Q:Aw Ac)(n f:Ah)(dd z:Ak Af)(t H:Aw (Ak Ac))(r:As) :
  Meets (Jo.«tuple.__lt__» ⟨[.ref l,.ref b],[]⟩)
   (λA R s=>s.heap.get? l=Ab { cls:=.type "tuple",dict:=dd,data:=.seq items n,slots:=t } /\ s.heap.get? b=Ab { cls:=.type "tuple",dict:=z,data:=.seq Q f,slots:=H } /\
    lq A.in1 s items.toList Q.toList r/\R (.ok (.ret (.bool r))) s):=
 .of_wp λJ w A R s h=>by
  obtain⟨q,g,d,o,os⟩:=s;obtain⟨p,c,E,h⟩:=h;have e:=Sx
  wp_walk using wpAny_loadPart' p,wpAny_loadPart' c,Io _ (λqI b k=>b.1=none/\k=⟨q,g,d,o,os⟩/\∃ (N U:ah),qI=N.zip U/\lq A.in1 ⟨q,g,d,o,os⟩ N U r/\N.length+Q.size=U.length+items.size) _
  case turn =>
   rintro⟨y,x⟩ qI b k ⟨B,rfl,N,U,O,L,Y⟩;cases L with
   |nn=>cases O
   |nc v U=>cases O
   |cn u N=>cases O
   |eq u v N U _ T I =>
    rw[Kj] at O;injection O with C G
    injection C with j E
    subst j E;refine Ad (T J w _ _ ?_)
    wp_walk
    exact⟨rfl,rfl,_,_,G,I,by simp only[Bc] at Y;lia⟩
   |ne u v N U _ T I =>
    rw[Kj] at O;injection O with C G
    injection C with j E
    subst j E;refine Ad (T J w _ _ ?_);have M:=I J w
    wp_walk using M
    exact⟨_,rfl,by simpa using h⟩
  case fin =>
   rintro⟨i,m⟩ k ⟨B,rfl,N,U,O,L,Y⟩;simp only at B;subst B;have hv:r=decide (items.size<Q.size):=by
    cases L with
    |nn=>simp only[Dd] at Y;exact(Co li).symm
    |nc v U=>simp only[Dd,Bc] at Y;exact(Dl li).symm
    |cn u N=>simp only[Dd,Bc] at Y;exact(Co li).symm
    |eq u v N U _ T I=>cases O
    |ne u v N U _ T I=>cases O
   rw[hv] at h
   wp_walk
   exact⟨_,rfl,by simpa [Om] using h⟩
  case h =>
   exact⟨rfl,rfl,items.toList,Q.toList,rfl,E,by simp;lia⟩
end
theorem VO {A:Bk}{l b:Af}{items Y:Aw Ac}{r:As}(M:s.heap.IsTuple l items)(j:s.heap.IsTuple b Y)(z:A.units<Fo)(h:lq A.in1 s items.toList Y.toList r):iF A s (.ref l) (.ref b) r:=by
 intro T w E Q H;obtain⟨⟨cls,u,data,k⟩,L,I,n,C⟩:=id M;obtain⟨⟨B,O,data2,N⟩,U,J,y,G⟩:=id j;simp only at I C J G;subst I C J G;exact Um (op:=.Lt) ⟨_,L,rfl⟩ ⟨_,U,rfl⟩ Vk Uo (Tz _ _) (Q0 l b items Y n y u O k N r)
  ⟨L,U,h,show Fu r≠Wk/\Q (.bool r) s from⟨(λx=>nomatch x),H⟩⟩ z
inductive kn (h:Bn):Ah->D->Ac->Prop
 |int (n:Ah) (i:Am) (t:Qc):kn h n (.int i) (.int i t)
 |tup (n:Ah) (a:Af) (xs:Aa D) (its:ah) (ht:h.IsTuple a its.toArray) (hl:xs.length=its.length) (hs:∀ (j:Ah) (x:D) (v:Ac),xs[j]? = Ab x->its[j]? = Ab v->kn h n x v):kn h (n+1) (.tup xs) (.ref a)
theorem kn.tr {h:Bn}{d:D}{v:Ac}(t:kn h n d v):Tr n d:=by
 induction t with
 |int n i t=>exact .int n i
 |tup n a Y J N C O U =>
  refine .tup n Y λx G=>?_;obtain⟨j,Q,e⟩:=Cz.mp G;exact U j x (J[j]' li) (by rw[Ar Q,e]) (Ar li)
theorem kn.det {h:Bn}{d:D}{v:Ac}(t:kn h n d v):∀ {m:Ah} {d':D},kn h m d' v->d=d':=by
 induction t with
 |int n i t=>intro m d' J;cases J with|int _ _ _=>rfl
 |tup n a I G E A H C =>
  intro m d' J;cases J with
  |tup m _ B Q Y L U =>
   have e:=cR E Y;have O:G=Q:=by simpa using congrArg Yh e
   subst O;have:I=B:=Os li λj N T=>C j _ (G[j]' li) (Ar N) (Ar li) (U j _ _ (Ar T) (Ar li));rw[this]
theorem kn.eq {a:D}{u:Ac}(t:kn s.heap n a u):∀ {m:Ah} {b:D} {v:Ac} {A:Bk},kn s.heap m b v->vP a b=true->A.units+n<Fo->EqAt A s u v (jt a b):=by
 induction t with
 |int n i t =>
  intro m b v A Y B y;cases Y with
  |int _ j Y=>exact EqAt.int_int i t j Y
  |tup _ _ _ _ _ _ _=>exact DL B
 |tup n a O N E L H z =>
  intro m b v A Y B y;cases Y with
  |int _ j Y=>exact DL B
  |tup m b C Q J G U =>
   refine(JM li E J L G (λj p k=>?_) λe=>?_).eq
   .have I:j<N.length:=by simpa using p
    have T:j<Q.length:=by simpa using k
    have M:O[j]? = Ab (O.getD j .non):=by simp[Jq,show j<O.length by lia]
    have w:C[j]? = Ab (C.getD j .non):=by simp[Jq,show j<C.length by lia]
    have q:N[j]? = Ab N.toArray[j]:=by simp[I]
    have o:Q[j]? = Ab Q.toArray[j]:=by simp[T]
    exact z j _ _ M q (U j _ _ w o) (kK B M w) (by show A.units+1+n<Fo;lia)
   .subst e
    have:=kn.det (.tup n a O N E L H) (.tup m a C Q J G U);injection this with this
    subst this;exact NJ (kn.tr (.tup n a O N E L H))
theorem cW {A:Bk}:∀ {xs ys:Aa D} {us vs:ah} {n m:Ah},xs.length=us.length->ys.length=vs.length->(∀ x∈xs,Tr n x)->(∀ y∈ys,Tr m y)->uY xs ys=true ->
  (∀ (j:Ah) (x y:D) (u v:Ac),xs[j]? = Ab x->ys[j]? = Ab y->us[j]? = Ab u->vs[j]? = Ab v->EqAt A s u v (jt x y)/\iF A s u v (ltN x y))->lq A s us vs (_H.lexLt (zN xs) (zN ys))
 |[],[],[],[],_,_,_,_,_,_,_,_=>.nn
 |[],y::ys,[],v::vs,_,_,_,_,_,G,_,_=>by
  obtain⟨k,t,e,p⟩:=pN (G y (by simp))
  have:_H.lexLt (zN []) (zN (y::ys))=true:=by
   rw[wO,e];show _H.lexLt [0] (k::_)=_;rw[_H.bf,Bb li];exact Dl p
  rw[this];exact .nc v vs
 |x::xs,[],u::us,[],_,_,_,_,N,_,_,_=>by
  obtain⟨k,t,e,p⟩:=pN (N x (by simp))
  have:_H.lexLt (zN (x::xs)) (zN []) = false:=by
   rw[wO,e];show _H.lexLt (k::_) [0]=_;rw[_H.bf,Bb li];exact Co li
  rw[this];exact .cn u us
 |x::xs,y::ys,u::us,v::vs,_,_,J,Y,N,G,H,h=>by
  have Q:(vP x y&&uY xs ys)=true:=H;rw[Bd] at Q;obtain⟨U,L⟩:=h 0 x y u v rfl rfl rfl rfl;rw[X5 (N x (by simp)) (G y (by simp)) Q.1]
  cases C:jt x y with
  |true =>
   rw[C] at U;exact .eq u v us vs _ U (cW (by simpa using J) (by simpa using Y) (λz O=>N z (by simp[O])) (λz O=>G z (by simp[O])) Q.2 λj a b c d B T E I=>h (j+1) a b c d (by simpa using B) (by simpa using T) (by simpa using E) (by simpa using I))
  |false =>
   rw[C] at U;exact .ne u v us vs _ U L
 |[],_,_::_,_,_,_,J,_,_,_,_,_=>by simp at J
 |_::_,_,[],_,_,_,J,_,_,_,_,_=>by simp at J
 |_,[],_,_::_,_,_,_,Y,_,_,_,_=>by simp at Y
 |_,_::_,_,[],_,_,_,Y,_,_,_,_=>by simp at Y
theorem kn.lt {a:D}{u:Ac}(t:kn s.heap n a u):∀ {m:Ah} {b:D} {v:Ac} {A:Bk},kn s.heap m b v->vP a b=true->A.units+n<Fo->iF A s u v (ltN a b):=by
 induction t with
 |int n i t =>
  intro m b v A U G f;cases U with
  |int _ j U =>
   intro C w E Q q;rw[BA] at q;exact(Qf q:Ap (Au C w) A (Dh .Lt (.int i t) (.int j U)) Q E s)
  |tup _ _ _ _ _ _ _=>exact DL G
 |tup n a e p l o k g =>
  intro m b v A U G f;cases U with
  |int _ j U=>exact DL G
  |tup m b c Y O B J =>
   have M:=kn.tr (.tup n a e p l o k);have z:=kn.tr (.tup m b c Y O B J);cases M with
   |tup _ _ M =>
    cases z with
    |tup _ _ z =>
     refine VO l O li ?_;rw[BB];refine cW (by simpa using o) (by simpa using B) M z G λj x y u v I H r d=>?_
     have N:A.in1.units+n<Fo:=by show A.units+1+n<Fo;lia
     have T:p[j]? = Ab u:=by simpa using r
     have L:Y[j]? = Ab v:=by simpa using d
     exact⟨(k j x u I T).eq (J j y v H L) (kK G I H) N,g j x u I T (J j y v H L) (kK G I H) N⟩
def neT:D->As
 |.tup (_::_)=>true
 |_=>false
def yu (xs:Aa D):As:=xs.all λa=>neT a&&wq 6 a&&xs.all λb=>vP a b
theorem R6 {xs:Aa D}(h:yu xs=true){x:D}(Y:x∈xs):neT x=true/\Tr 6 x/\∀ y∈xs,vP x y=true:=by
 have:=Bs.mp h x Y;simp only[Bd] at this;exact⟨this.1.1,CY this.1.2,λy Q=>Bs.mp this.2 y Q⟩
end _D
section
end
section
end
namespace _D
open _L
inductive um {K:Type}(w:Br)(hash:K->Am)(enc:K->D)(Kf:Ai)(P:Hp)(α : Aa Af)(ds:Aa D)(o:Ch):Prop
 |mk (es:Aw (Am × Ac)) (ep:Ah) (t:Fi) (ks:Aa K) (kv:Aa (K × Ac)) (ho:o=_S.js es ep t) (T:_S.ix t es) (led:t.led=_S.yN w) (hds:ds=ks.map enc) (hes:es.toList=kv.map λp=>(hash p.1,p.2)) (nd:(kv.map (·.1)).Nodup) (mem:∀ k,k∈kv.map (·.1)↔k∈ks) (rp:∀ p∈kv,∃ v,qK v p.2/\au Kf P α (enc p.1) v):um w hash enc Kf P α ds o
section
variable {K:Type}{w:Br}{ay:K->Am}{c_:K->D}{Kf:Ai}{P P1:Hp}{α α1:ag}{ds:Aa D}{o:Ch}
theorem um.cell (a:um w ay c_ Kf P α ds o):∀ v,o.data≠.cell v:=by
 obtain⟨Q,J,t,Y,U,rfl,_⟩:=a;intro v z;cases z
end
def sI (Y:Aa D):As:=match w9 Y with
 |some Q=>decide ((_S.jc _H.lexLt Q).length<=1000)&&Q.all λk=>!k.isEmpty
 |none=>false
end _D
section
end
section
end
namespace _D
open _L
section
variable {X:Cx}{aj:aa}{σ : _L.St}{H:Hp}{s:Ag}
theorem Inv.drop {e:Af}{φ : Bn->Prop}{Q:Hp}(I:Inv X aj σ H s)(J:H e=Ab (.ext φ))(h0:Q e=none)(h1:∀ b,b≠e->Q b=H b):Inv X aj σ Q s:=by
 have k:∀ b u,H b=Ab u->(∀ φ,u≠.ext φ) -> Q b=Ab u:=λb u q n=>by
  rw[h1 b λz=>?_];· exact q
  rw[z,J] at q;cases q;exact n _ rfl
 have Y:∀ b,H b=none->Q b=none:=λb q=>by rw[h1 b λz=>by rw[z,J] at q;cases q];exact q
 refine⟨I.ok,I.os,I.bare,⟨I.base.keep,I.base.slot,λb o q n B=>Y b (I.base.free b o q n B),I.base.there,λb U q=>k b _ (I.base.tups b U q) (λ_ z=>nomatch z),λb o u q=>k b _ (I.base.frzs b o u q) (λ_ z=>nomatch z),λb G q=>?_⟩,I.loc,I.cell,Y _ I.free,λx c q=>Y _ (I.freeC x c q),λp O=>?_,λb u q=>?_,I.len⟩
 .obtain⟨m,z⟩:=I.base.tbls b G q
  exact⟨m,k b _ z (λ_ z=>nomatch z)⟩
 .obtain⟨N,E,C,A,T⟩:=I.pin p O
  exact⟨N,Y _ E,C,A,T⟩
 .have L:b≠e:=λz=>by rw[z,h0] at q;cases q
  rw[h1 b L] at q;exact(I.hok b u q).stay (λ_ _ _ z=>z) (λc z=>k c _ z (λ_ z=>nomatch z)) λc U z=>k c _ z (λ_ z=>nomatch z)
end
end _D
section
namespace _D
open _L
mutual
def fZ:D->Am
 |.int i=>hashInt i
 |.tup Q=>Xd (Hq (yL Q))
 |_=>0
def yL:Aa D->Aa Am
 |[]=>[]
 |d::Q=>fZ d::yL Q
end
theorem m8:∀ (xs ys:Aa D),yL (xs++ys)=yL xs++yL ys
 |[],_=>rfl
 |x::xs,ys=>congrArg (fZ x::·) (m8 xs ys)
theorem RF {xs:Aa D}{ao:ah}(Y:xs.length=ao.length):∀ v∈ao,∃ (j:Ah) (x:D),xs[j]? = Ab x/\ao[j]? = Ab v:=λv hv=>by
 obtain⟨j,Q,e⟩:=Cz.mp hv;exact⟨j,_,Ar li,by rw[Ar Q,e]⟩
section
variable {prog:Be}{w:Br}{h:Bn}
theorem IsTuple.at {h:Bn}{a:Af}{xs:Aw Ac}(t:h.IsTuple a xs):∃ o m,h.get? a=Ab o/\o.cls=.type "tuple" /\ o.data=.seq xs m:=by
 obtain⟨o,e,c,m,d⟩:=t;exact⟨o,m,e,c,d⟩
theorem kn.hash {n:Ah}{d:D}{v:Ac}(t:kn h n d v):∀ {A:Bk} {E:ae} {s:Ag} {Q:Am->Ag->Prop},s.heap=h->A.units+n<Fo->(∀ J,s.toks<=J->Q (fZ d) { s with toks:=J }) -> Ap (Au prog w) A (pyHash v) Q E s:=by
 induction t with
 |int n i t =>
  intro A E s Q q c k;exact(Ct prog w).pyHash (k:=i) (v:=.int i t) (by simp[Ct,Zs]) (k _ (Gy _ _))
 |tup n a U C T f q p =>
  intro A E s Q g c k;subst g;obtain⟨o,m,M,l,u⟩:=IsTuple.at T;have O:s.TypeIs (.ref a) "tuple":=⟨o,M,l⟩;unfold pyHash;unfold pyHashByItsType;refine Ad (wpAny_cRoomFor_or (.inr li) ?_);refine Ad (Pm O Ki.lookup ?_);show Ap _ _ (if (Ab (Xg "tuple.__hash__") == Ab De)=true then _ else _) Q E s
  rw[Bb (by rw[beq_builtin_none];exact Gc)]
  refine Ad (Pm O Ki.lookup ?_);show Ap _ _ (callSpecialIfBoundUnlessNone? (.ref a) "__hash__" _ >>= _) Q E s;refine Ad (wpAny_callSpecialIfBoundUnlessNone?_slot O Ki (Eo Ki O PySem.F.entry_tuple_hash ?_ (PySem.F.args_tuple_hash_1 _)));show Ap _ _ (Je (.ref a) >>= _) _ _ s;refine Ad (wpAny_tupleItemsOf M u ?_);refine Ad ?_;rw[<- Nc];refine Io _ (λqI (b:Aw Am) I=>∃ i,qI=C.drop i/\b.toList=yL (U.take i)/\∃ J,s.toks<=J/\I={ s with toks:=J }) _ ?_ ?_ _ _ ⟨0,rfl,rfl,_,Av _,rfl⟩
  .rintro x qI b I ⟨i,Y,B,J,G,rfl⟩
   have L:i<C.length:=Nat.lt_of_not_le λz=>by rw[Ob z] at Y;cases Y
   rw[Fp L] at Y;cases Y;have j:i<U.length:=by lia
   refine Ad (p i U[i] C[i] (Ar j) (Ar L) (s:={ s with toks:=J }) rfl ?_ λN y=>?_)
   .show A.units+1+n<Fo
    lia
   .have e:(b.push (fZ U[i])).toList=yL (U.take (i+1)):=by
     rw[Ec,B,List.take_succ_eq_append_getElem j,m8];rfl
    first
     |exact Al ⟨i+1,rfl,e,N,Bq G y,rfl⟩
     |exact Ad (Al (Al ⟨i+1,rfl,e,N,Bq G y,rfl⟩))
  .rintro b I ⟨i,Y,B,J,G,rfl⟩
   have L:C.length<=i:=dL λz=>by rw[Fp z] at Y;cases Y
   rw[Es li] at B;show Ap _ _ (retInt (Hq b.toList)) _ _ _;rw[B];refine wpAny_ret_mkInt ?_;have k:=λt T=>k t T;rw[show fZ (.tup U)=Xd (Hq (yL U)) from rfl] at k
   generalize Hq (yL U)=H at k ⊢;show Ap _ _ (if (decide (-(2:Am) ^ 63<=H)&&decide (H<2 ^ 63))=true then _ else _) Q E _
   unfold Xd at k;by_cases Y:(decide (-(2:Am) ^ 63<=H)&&decide (H<2 ^ 63))=true
   .rw[Ax Y]
    rw[Ax Y] at k;exact Al (k _ (by show s.toks<=J+1;lia))
   .rw[Bb Y]
    rw[Bb Y] at k;exact Ad (Gw (Al (k _ (by show s.toks<=J+1;lia))))
theorem kn.cls {n:Ah}{d:D}{v:Ac}(t:kn h n d v):∀ {f:Ah} {A:Bk} {E:ae} {s:Ag} {Q:As->Ag->Prop},s.heap=h->n<=f->Q false s->Ap (Au prog w) A (He f v) Q E s:=by
 induction t with
 |int n i t =>
  intro f A E s Q B z k;rw[show He f (.int i t)=pure false from by cases f <;> rfl]
  exact Al k
 |tup n a p O q I B L =>
  intro f A E s Q M z k;subst M;obtain⟨g,rfl⟩:∃ g,f=g+1:=⟨f-1,by lia⟩
  obtain⟨o,m,N,H,C⟩:=IsTuple.at q;have T:s.TypeIs (.ref a) "tuple":=⟨o,N,H⟩;unfold He;refine Ad (Kc T ?_);dsimp only;refine Ad (Al ?_);simp only[Js,Bo,Ds];refine Ad (Go N C ?_);refine Ad ?_;show Ap _ _ (forIn O.toArray _ _) _ _ s;rw[<- Nc];refine Io _ (λqI r G=>r.1=none/\G=s/\∀ v∈qI,∃ (j:Ah) (x:D),p[j]? = Ab x/\O[j]? = Ab v) _ ?_ ?_ _ _ ⟨rfl,rfl,RF I⟩
  .rintro v qI r G ⟨U,rfl,Y⟩
   obtain⟨j,x,l,y⟩:=Y v Cq;refine Ad (L j x v l y rfl li ?_);simp only[Bo,Ds];exact Al ⟨rfl,rfl,λu J=>Y u (Bt _ J)⟩
  .rintro⟨e,c⟩ G ⟨U,rfl,_⟩
   simp only at U;subst U;exact Al k
def yy (xs:Aa D)(h:Bn)(k:Aa Am)(v:Ac):Prop:=∃ d,d∈xs/\kn h 6 d v/\vA d=k
variable {xs:Aa D}
theorem yy.ref (ok:yu xs=true){k:Aa Am}{v:Ac}(t:yy xs h k v):∃ a,v=.ref a:=by
 obtain⟨d,Q,t,_⟩:=t;have Y:=(R6 ok Q).1;cases t with
 |int _ _ _=>cases Y
 |tup _ a _ _ _ _ _=>exact⟨a,rfl⟩
end
end _D
end
section
end
namespace _D
open _L _H
variable {α:ag}{E:ae}{s s':Ag}{j1 j2:Ah}{K:Ai}{lo hi:Ak Bp}{x y:An}{tg:Bp}{p q1 q2 eh cf:En}{P:Hp}{Γ:Zp}
section
variable {X:Cx}
noncomputable def kT:DF:=λQ S=>match Q with
 |[.int i]=>if i.natAbs.log2<1920 then .ok (.str (toString i)) S else .bad
 |_=>.bad
theorem G6:wC X (.type "str") kT:=by
 intro G σ H s P α S O C B Q I r J N Y;unfold kT at Y
 split at Y
 .obtain⟨U,Y⟩:=x5 (X:=X) Y
  obtain⟨v,u,rfl,rfl,p,q⟩:=wD N J;exact sF G s σ H _ _ Q I J ⟨_,by rw[xG p],U,xr Y r (by simp only[au])⟩
 .exact Ao Y
noncomputable def kR:DF:=λQ S=>match Q with
 |[.str x]=>if x.length<=640 then match PySem.intText? x with
  |some n=>.ok (.int n) S
  |none=>.bad
  else .bad
 |_=>.bad
set_option tactic.hygienic true in
theorem KU:wC X (.type "int") kR:=by
 intro C σ H s P α S O B L Q I r J N Y;unfold kR at Y
 split at Y
 .obtain⟨G,Y⟩:=x5 (X:=X) Y
  split at Y
  .rename_i n U
   obtain⟨v,u,rfl,rfl,p,q⟩:=wD N J;simp only[au] at p;subst p;obtain⟨t,rfl⟩:=q;exact PySem.W.KIN.call_text U G ⟨.int n,H,I.tok _,⟨_,rfl⟩,xr Y r (by simp only[au])⟩
  .exact Ao Y
 .exact Ao Y
def sY:D->Aa D->aq->ba D:=λa Q S=>match a,Q with
 |.str x,[.str y]=>if x.length<=bb then .ok (.str (Txt.removeprefix x y)) S else .bad
 |_,_=>.bad
theorem LJ:qi X "str.removeprefix" sY:=by
 intro L σ H s P α S v M B T a A Q I r N p U J Y;unfold sY at Y
 split at Y
 .obtain⟨O,Y⟩:=x5 (X:=X) Y
  simp only[au] at p;subst p;obtain⟨t,rfl⟩:=N;obtain⟨w,u,rfl,rfl,G,q2⟩:=wD J U;simp only[au] at G;subst G;obtain⟨z,rfl⟩:=q2;exact SC.removeprefix (λC k=>⟨.str _,H,I.tok _,⟨_,rfl⟩,xr Y r (by simp only[au])⟩) (by rw[<- zB];exact O)
 .exact Ao Y
def sX:D->Aa D->aq->ba D:=λa Q S=>match a,Q with
 |.str x,[]=>.ok (.bl (Txt.isdecimal x)) S
 |_,_=>.bad
theorem LI:qi X "str.isdecimal" sX:=by
 intro O σ H s P α S v L N C a B Q I r G p U J Y;unfold sX at Y
 split at Y
 .simp only[au] at p
  subst p;obtain⟨t,rfl⟩:=G;cases J.nil_inv;cases U;exact SC.isdecimal ⟨.bl _,H,I,rfl,xr Y r (by simp only[au])⟩
 .exact Ao Y
theorem lX:∀ l:Aa (An × Qc),qJ (l.map λp=>V.str p.1) (strValues l)
 |[]=>.nil
 |(x,t)::l=>.cons ⟨t,rfl⟩ (lX l)
theorem lQ:∀ l:Aa An,qD K P α (l.map .str) (l.map .str)
 |[]=>.nil
 |x::l=>.cons (by simp only[au]) (lQ l)
def wH:D->Aa D->aq->ba D:=λa Q S=>match a,Q with
 |.str x,[.str y]=>if x.length+2<=bb/\(y.length == 0)=false then .ok (.lst ((Txt.split x y).map .str)) S else .bad
 |_,_=>.bad
open Builtin Builtin.Str in
theorem WN {prog:Be}{w:Br}{A:Bk}{E:ae}{t u:Qc}{Q:ae}(N:(y.length == 0)=false)
  (h:∀ l k,l.map (·.1)=Txt.split x y->Q (.ref s.heap.objs.size) { s with heap:=s.heap.push { cls:=.type "list",data:=.seq (strValues l).toArray },toks:=k })
  (hsz:x.length+2<=sizeLine) :
  Ap (Au prog w) A (call (.builtin "str.split") [.str x t,.str y u]) Q E s:=by
 have O:(partsBetween x (occurrences x y 0 x.length (x.length+1)) y.length).length<=sizeLine:=by
  have C:=StrLaws.occ_length_le x y 0 x.length (x.length+1);rw[length_partsBetween];fin2
 cases U:(decide (x.length<y.length)||decide (strKind x<strKind y))
 .cases G:(occurrences x y 0 x.length (x.length+1)).isEmpty
  .refine Lf Tx (Md _ _ _) Sr (Re _ _) (meets_str_split_sep x y t u U N G om O) ?_
   show wants Q E _ { s with toks:=_,heap:=s.heap.push { cls:=.type "list",data:=.seq (strsFrom s.toks (partsBetween x (occurrences x y 0 x.length (x.length+1)) y.length)).toArray } }
   rw[strsFrom_eq];exact h (numbered s.toks _) _ ((numbered_texts _ _).trans ((Bb (Ql U)).trans (Bb (Ql G))).symm)
  .exact Lf Tx (Md _ _ _) Sr (Re _ _) (meets_str_split_not_found x y t u U N G)
    (h [(x,t)] s.toks ((Bb (Ql U)).trans (Ax G)).symm)
 .exact Lf Tx (Md _ _ _) Sr (Re _ _) (meets_str_split_cannot_occur x y t u U)
   (h [(x,t)] s.toks (Ax U).symm)
set_option tactic.hygienic true in
theorem VR:qi X "str.split" wH:=by
 intro T σ H s P α S v j L A a M Q I r C p U J Y;unfold wH at Y
 split at Y
 .rename_i x y
  obtain⟨⟨G,N⟩,Y⟩:=x5 (X:=X) Y;simp only[au] at p;subst p;obtain⟨t,rfl⟩:=C;obtain⟨w,u,rfl,rfl,O,q2⟩:=wD J U;simp only[au] at O;subst O;obtain⟨c,rfl⟩:=q2;rw[zB] at G;have z:=split_weight x y (by have:=N;simp at this;fin2)
  refine WN N (λl k e=>?_) G;have t':qD X.K P α ((Txt.split x y).map .str) (l.map λp=>V.str p.1):=by
   rw[<- e,Fg];have:=lQ (K:=X.K) (P:=P) (α:=α) (l.map (·.1))
   rw[Fg,Fg] at this;exact this
  refine⟨.ref s.heap.objs.size,_,I.laid (t':=k) (o:=.lst (l.map λp=>V.str p.1)) (λb g q=>Aj _ q) (Av _) ⟨?_,strValues l,0,lX l,Bj _ rfl⟩,rfl,w8 r (I.hok.fresh (Av _)) t' Y⟩;have B:=congrArg Ie e;rw[Aq] at B ⊢;fin2
 .exact Ao Y
noncomputable def jA:Aa D->Ak (Aa An)
 |[]=>Ab []
 |.str x::Q=>(jA Q).map (x::·)
 |_=>none
theorem t7:∀ {Q:Aa D} {ys:Aa An},jA Q=Ab ys->Q=ys.map .str
 |[],ys,h=>by cases h;rfl
 |.str x::Q,ys,h=>by
  simp only[jA,Gf] at h;obtain⟨J,Y,rfl⟩:=h;rw[Dt,<- t7 Y]
 |.non::_,_,h|.bl _::_,_,h|.int _::_,_,h|.ty _::_,_,h|.obj _::_,_,h|.tup _::_,_,h|.lst _::_,_,h|.dct0::_,_,h|.loc _::_,_,h|.exn _::_,_,h|.fd _ _::_,_,h|.clo _ _ _::_,_,h|.exl _ _ _::_,_,h=>by cases h
theorem WQ (ys:Aa An):jA (ys.map .str)=Ab ys:=by
 induction ys with
 |nil=>rfl
 |cons y ys Q=>rw[Dt,jA,Q];rfl
theorem lV:∀ {ys:Aa An} {vs:Aa V} {us:ah},qD K P α (ys.map .str) vs->qJ vs us->StrsAre us ys
 |[],vs,us,r,q=>by cases r.nil_inv;cases q;exact .nil
 |y::ys,vs,us,r,q=>by
  obtain⟨w,Y,rfl,p,t⟩:=r.cons_inv;simp only[au] at p;subst p;cases q with
  |cons q1 q2 =>
   obtain⟨Q,rfl⟩:=q1;exact .cons y Q (lV t q2)
def vT:D->Aa D->aq->ba D:=λa Y S=>match a,Y with
 |.str x,[d]=>match (lstM d S).bind jA with
  |some Q=>if (Q.map (·.length)).sum+Q.length*x.length<=bb then .ok (.str (Txt.join x Q)) S else .bad
  |none=>.bad
 |_,_=>.bad
set_option tactic.hygienic true in
theorem BC:qi X "str.join" vT:=by
 intro g σ H s P α S v m q c a f Q I r C p N J Y;unfold vT at Y
 split at Y
 .rename_i x d
  cases G:(lstM d S).bind jA with
  |none=>rw[G] at Y;exact Ao Y
  |some ys =>
   rw[G] at Y;obtain⟨l,Y⟩:=x5 (X:=X) Y;obtain⟨i,z,L⟩:=Em.mp G;have O:=t7 L;subst O;simp only[au] at p;subst p;obtain⟨t,rfl⟩:=C;obtain⟨w,u,rfl,rfl,M,q2⟩:=wD J N;obtain⟨b,o,B,n,rfl,A,U,T,e⟩:=jX I r z M;cases q2;exact PyProof.Rows.join_list (D:=b) (items:=B.toArray) (ys:=ys) ⟨_,T,rfl,n,rfl⟩ (by simpa using lV A U) (by have:=zB;unfold PySem.sizeLine at this;fin2)
    λj k=>⟨.str _,H,I.tok _,⟨_,rfl⟩,xr Y r (by simp only[au])⟩
 .exact Ao Y
def bV:G2:=λa b S=>match a,b with
 |.str x,.int k=>if x.length<=bb then match gg x.cps.toList k with
  |some c=>.ok (.str ⟨#[c]⟩) S
  |none=>.bad
  else .bad
 |_,_=>.bad
set_option tactic.hygienic true in
theorem EY:xm X bV:=by
 intro J U A σ H s P α S v u M N a b Q I r B C G w Y O;unfold bV at Y
 split at Y
 .obtain⟨T,Y⟩:=x5 (X:=X) Y
  split at Y
  .rename_i c L
   simp only[au] at G;subst G;exact L4 J U A s σ H _ u M N Q I B C ⟨_,_,c,rfl,xG w,by rw[<- zB];exact T,L,xr Y r (by simp only[au])⟩ O
  .exact Ao Y
 .exact Ao Y
noncomputable def tw (x y:An):As:=!(Nj y x 0 y.length 1).isEmpty
def bU (Q:As):G2:=λa b S=>match a,b with
 |.str x,.str y=>.ok (.bl (if Q then !tw x y else tw x y)) S
 |_,_=>.bad
theorem XO:gh X (Dh .NotIn) (bU true):=gh.of rQ λH P α S x y a b Q r J U Y=>by
 unfold bU at Y
 split at Y
 .simp only[au] at J U
  exact⟨_,_,J,U,xr Y r (by simp only[au] <;> rfl)⟩
 .exact Ao Y
def p9 (d:D)(lo hi:Ak Am)(S:aq):ba D:=match d with
 |.str x=>if x.length<=bb then .ok (.str (Txt.slice x lo hi)) S else .bad
 |_=>.bad
def OA (X:Cx):V->Ak Am->Ak Am->Hp->VK->Prop:=λx lo hi H Q=>∃ P α S d,bh X.K H P α S/\au X.K P α d x/\qT X P α (p9 d lo hi S) Q
theorem aE {v:Ac}{lo:Ak Am}(p:Pz v lo):∃ l:Ak (Am × Qc),v=partValue l/\l.map (·.1)=lo:=by
 cases p with
 |none=>exact⟨none,rfl,rfl⟩
 |int i t=>exact⟨Ab (i,t),rfl,rfl⟩
theorem CS:q_ X (OA X):=by
 intro T s σ H x v A w lo hi M Q I B G pl U h;obtain⟨P,α,S,d,r,p,Y⟩:=h;cases d with
 |str z =>
  obtain⟨C,Y⟩:=x5 (X:=X) Y;simp only[au] at p;subst p;obtain⟨t,rfl⟩:=B;obtain⟨l,rfl,rfl⟩:=aE pl;obtain⟨u,rfl,rfl⟩:=aE U;obtain⟨o,N,O,J⟩:=G;refine⟨"str",_,F.slot_str_getitem.lookup,Md _ _ _,Uc (l:=l) (u:=u) (st:=none) ⟨o,N,O,J⟩ rfl
   (post_val_or_str ⟨Bq (Txt.slice_le z _ _) (by rw[<- zB];exact C),λL k=>⟨.str _,H,I.tok _,⟨_,rfl⟩,xr Y r (by simp only[au];rfl)⟩⟩)⟩
 |_=>exact Ao Y
def yY (fe:DE)(J G:DO):DE:=λQ S=>(fe Q S).bind λd N=>(J Q N).bind λlo Y=>(G Q Y).bind λhi U=>p9 d lo hi U
theorem Z8 {e:Bp}{fe:DE}{p2 i:En}{I L:DO}(b:PE X e (tD X fe))(hl:PO X lo (s_ X I))(hu:PO X hi (s_ X L)):PE X (.Subscript e (.Slice lo hi none p2) i) (tD X (yY fe I L)):=
 mz (rR CS b hl hu) λσ H Q ⟨P,α,G,S,r,o,af⟩=>by
  refine⟨P,α,G,S,r,o,?_⟩;have Y:qG X P α ((fe G S).bind λd T=>(I G T).bind λlo N=>(L G N).bind λhi C=>p9 d lo hi C) (gw X P α Q):=af;cases q:fe G S with
  |bad=>rw[q] at Y;exact Y
  |ex c x m=>rw[q] at Y;exact Y
  |ok d T =>
   rw[q] at Y;intro v H1 A O r1 z j rp;refine⟨A,O,G,T,r1,o.mono z j,?_⟩;have U:qG X A O ((I G T).bind λlo N=>(L G N).bind λhi C=>p9 d lo hi C) (gw X A O Q):=qT.base z j Y;cases q2:I G T with
   |bad=>rw[q2] at U;exact U
   |ex c x m=>rw[q2] at U;exact U
   |ok l N =>
    rw[q2] at U;intro H2 M B a k w;refine⟨M,B,G,N,a,(o.mono z j).mono k w,?_⟩;have J:qG X M B ((L G N).bind λhi C=>p9 d l hi C) (gw X M B Q):=qT.base k w U;cases g:L G N with
    |bad=>rw[g] at J;exact J
    |ex c x m=>rw[g] at J;exact J
    |ok u C =>
     rw[g] at J;intro H3 P3 f h t n;exact⟨P3,f,C,d,h,au.mono (k.trans t) (w.trans n) _ _ rp,qT.base t n J⟩
def zm (x:An):It:=⟨λi _=>i<x.cps.size,λi H v Q=>Q=H/\∃ c,x.cps[i]? = Ab c/\v=.str ⟨#[c]⟩,λi _=>x.cps.size<=i⟩
theorem UZ {P:Be}{w:Br}(it:Af)(x:An)(t:Qc):lj P w K tg (zm x) [it] it (λi h=>h.IsStrIter it "str_ascii_iterator" x t i) where
 mem:=by simp
 obj:=λi h st b Q=>by
  have e:b=it:=by simpa using Q
  subst e;obtain⟨o,e,c,d⟩:=st;exact⟨o,e,λv z=>by rw[d] at z;cases z⟩
 keep:=λi h U st k=>let ⟨o,e,r⟩:=st;⟨o,k it (by simp) o e,r⟩
 item:=by
  intro X C j L M i l s σ H E I J st N;subst C j L;obtain⟨T,B,a,G,A,O⟩:=J it (by simp)
  have W:=Walks.strAscii (prog:=X.prog) (w:=X.w) (I.ok.hd M) it x t;refine W.item i s _ _ N st λv U q hv Y kk=>?_;obtain⟨c,u,hx,rfl⟩:=hv;have g:Inv X l σ H { s with heap:=U,toks:=q }:=I.turned (λb o Q e=>kk b o (by simpa using Q) e) T B G A O
  obtain⟨o,e,f,d⟩:=id Y;exact⟨_,rfl,dG (s:={ s with heap:=U,toks:=q }) (n:="str_ascii_iterator") e f d (by decide) ⟨.str ⟨#[c]⟩,H,g,⟨u,rfl⟩,⟨rfl,c,hx,rfl⟩,Y,λb Q=>(J b Q).1⟩⟩
 done:=by
  intro X C j L M i l s σ H E I J st N;subst C j L;obtain⟨T,B,a,G,A,O⟩:=J it (by simp)
  exact wpAny_pyNext_ascii_end (I.ok.hd M) st (Oe N) λU m=>⟨rfl,I.turned (t':=s.toks) (λb o Q e=>m b o Q e) T B G A O⟩
 self:=λ_ _ _ _ _ st h=>wpAny_pyIter_striter_ascii st h
def kE (x:An):Aa D:=x.cps.toList.map λc=>.str ⟨#[c]⟩
theorem PQ:su K (zm x) P α (kE x) where
 go:=λi H Y Q S hi r e _=>by show i<x.cps.size;simpa [kE] using hi
 yld:=λi H v G Y Q S hi r e U y=>by
  obtain⟨rfl,c,J,rfl⟩:=y;exact⟨Y,.str ⟨#[c]⟩,by simp only[kE,Ea,Ba,J];rfl,r,qF.refl _,by simp only[au]⟩
 stop:=λi H Y Q S hi r e _=>by show x.cps.size<=i;simpa [kE] using hi
def WM:D->Ak (Aa D)
 |.str x=>if x.cps.all (· < 128) then Ab (kE x) else none
 |_=>none
def uC (f:DE):DI:=λQ S=>(f Q S).bind λd Y=>yA (WM d) Y
set_option tactic.hygienic true in
theorem YR {e:Bp}{O:DE}(N:PE X e (tD X O)):PI X tg e (sd X (uC O)):=by
 intro w s σ H R I h;obtain⟨P,α,M,S,r,A,B⟩:=h;refine bo (zM N I r A B) λk J ⟨v,T,C,U,d,z,Q,G⟩=>?_;obtain⟨j,Y,q⟩:=v7 G;have q:=q.base Q.same Q.pre;cases d with
 |str x =>
  simp only[WM] at Y
  split at Y
  .rename_i N
   cases Y;have p:=Q.rep;simp only[au] at p;subst p;obtain⟨t,rfl⟩:=Q.val;have I:=Q.inv;refine wpAny_pyIter_ascii N ?_;refine⟨J.heap.objs.size,[J.heap.objs.size],_,_,T,rfl,I.kept (t':=J.toks) λb o e=>Aj _ e,UZ _ x t,⟨_,Bj _ rfl,rfl,rfl⟩,λb L=>?_,q _ _ C U Q.rel (qF.refl _) (Bu _) PQ⟩;have e:b=J.heap.objs.size:=by simpa using L
   subst e;exact I.fpOk (Av _) (I.hok.fresh (Av _))
  .cases Y
 |_=>cases Y
end
section
variable {M:Kq}
theorem lR {t:Jl Fin}{Y:Aa Frame}{e:End}(h:Runs M Γ p t Y s e s'):s.toks<=s'.toks:=by
 induction h with
 |done=>exact Av _
 |raise=>exact Av _
 |yield=>exact Av _
 |fresh _ J=>exact Zo J
 |call _ _ Q i2=>exact Bq Q i2
 |resumeFresh _ _ _ _ Q i2=>exact Bq Q i2
 |resumeSuspended _ _ _ _ Q i2=>exact Bq Q i2
 |segRet _ _ Q i2=>exact Bq Q i2
 |segGen _ _ Q i2=>exact Bq Q i2
 |segSuspGen _ _ _ _ Q i2=>exact Bq Q i2
 |_=>assumption
theorem mW {t:Jl Fin}{Y:Aa Frame}{e:End}{g Q:Ah}{x y:Xt}(h:Runs M Γ p t Y (s.setGen g x) e s'):s.toks<=(s'.setGen Q y).toks:=lR (s:=s.setGen g x) (s':=s') h
theorem Q7 {g:Ah}{r:Resume}{J:GenResult}(h:Wakes M Γ p g r s J s'):s.toks<=s'.toks:=by
 unfold Wakes at h
 split at h
 .exact h.elim
 .split at h
  .obtain⟨Q,Y,U,_,_,rfl⟩:=h
   exact mW U
  .obtain⟨_,rfl⟩:=h;exact Av _
  .obtain⟨_,rfl⟩:=h;exact Av _
 .obtain⟨Q,Y,U,_,_,rfl⟩:=h
  exact mW U
 .obtain⟨_,rfl⟩:=h;exact Av _
 .obtain⟨_,rfl⟩:=h;exact Av _
theorem i4 {α:Type}{n:Ah}:∀ (t:Jl α) {Q:α->En->Ag->Prop} {E:Ac->En->Ag->Prop} {p:En} {s:Ag},n<=s.toks->Sem.wp M Γ t Q E p s->Sem.wp M Γ t (λa B s'=>Q a B s'/\n<=s'.toks) E p s:=by
 intro t
 induction t with
 |pure a=>intro Q E p s Y h;exact⟨h,Y⟩
 |raise e=>intro Q E p s Y h;exact h
 |unsupported w=>intro Q E p s Y h;exact h
 |finish e=>intro Q E p s Y h;exact h
 |rule L k J=>intro Q E p s Y h;exact J () Y h
 |«at» q k J=>intro Q E p s Y h;exact J () Y h
 |load a O k J=>intro Q E p s Y h;obtain⟨o,U,G⟩:=h;exact⟨o,U,J o Y G⟩
 |update a O f k J=>intro Q E p s Y h;exact⟨h.1,J () Y h.2⟩
 |alloc o k J=>intro Q E p s Y h;exact J _ Y h
 |loadIfAlive a k J=>intro Q E p s Y h;exact J _ Y h
 |point l k J=>intro Q E p s Y h;exact J _ Y h
 |register a k J=>intro Q E p s Y h;exact h
 |fresh k J=>intro Q E p s Y h;exact J _ (Nat.le_succ_of_le Y) h
 |ask k J=>intro Q E p s Y h;exact J _ Y h
 |choose C m k J=>intro Q E p s Y h;exact⟨h.1,J _ Y h.2⟩
 |os q l k J=>intro Q E p s Y h;exact J _ Y h
 |call c I g l k J=>intro Q E p s Y h;obtain⟨r,s',U,G⟩:=h;exact⟨r,s',U,J r (Bq Y (lR U)) G⟩
 |handled T k J=>intro Q E p s Y h;exact J _ Y h
 |newGen c k J=>intro Q E p s Y h;exact J _ Y h
 |genState g k J=>intro Q E p s Y h;obtain⟨st,U,G⟩:=h;exact⟨st,U,J _ Y G⟩
 |resume g r l k J=>intro Q E p s Y h;obtain⟨N,s',U,G⟩:=h;exact⟨N,s',U,J N (Bq Y (Q7 U)) G⟩
 |yield v g l k J=>intro Q E p s Y h;exact h
 |stack k J=>intro Q E p s Y h;exact J _ Y h
 |fork c k J=>intro Q E p s Y h;exact h
 |thread k J=>intro Q E p s Y h;exact J _ Y h
 |_=>intro Q E p s Y h;exact h
theorem QC {α:Type}{A:Bk}{t:Jl α}{Q:α->Ag->Prop}{n:Ah}(J:n<=s.toks)(h:Ap M A t Q E s):Ap M A t (λa s'=>Q a s'/\n<=s'.toks) E s:=λΓ p Y=>i4 t J (h Γ p Y)
end
section
variable {X:Cx}{a b e:Bp}{es:Aa Bp}{ar p1:En}{fa fb:DE}{g:DA}
def ME (X:Cx)(e:Bp):Prop:=∀ (A:Bk) (Q:ae) (E:ae) (s:Ag),Ap (Au X.prog X.w) A (eval e X.env) Q E s->Ap (Au X.prog X.w) A (eval e X.env) (λu s'=>Q u s'/\1<=s'.toks) E s
theorem Y8 {j:Ah}{op:Aa4}:ME X (.BinOp (.Constant (.str x) j p1) op b ar):=by
 intro A Q E s h Γ p Y;have J:=h Γ p Y;rw[arm_eval_BinOp,Sem.wp_bind'] at J ⊢;exact i4 (n:=1) _ (s:={ s with toks:=s.toks+1 }) (Ps 1 _) J
def p7 (y z:An)(Y:DE):DE:=λQ S=>(Y Q S).bind λd J=>match d with
 |.str x=>if x.length+(x.length+1)*z.length<=bb then .ok (.str (Txt.replace x y z)) J else .bad
 |_=>.bad
theorem TR {o:Bp}{L:DE}{z:An}(T:PE X o (tD X L))(O:(y == z)=false)
  (J:La o "replace" X.env (eval o X.env)=eval o X.env) (U:(eh.endLine == cf.line)=true)
  {aj:aa} {s:Ag} {σ : _L.St} {H:Hp} {Q:VK} (M:1<=s.toks) (I:Inv X aj σ H s) (h:tD X (p7 y z L) σ H Q) :
  Ap (Au X.prog X.w) X.A (eval (.Call (.Attribute o "replace" eh) [.Constant (.str y) j1 q1,.Constant (.str z) j2 q2] [] cf) X.env) (EP X aj σ Q) X.xe s:=by
 obtain⟨P,α,c,S,r,q,w⟩:=h;refine Ut J rfl U rfl (bo (QC M (zM T I r q w)) λn C ⟨⟨v,j,l,A,d,m,G,Y⟩,N⟩=>?_);cases d with
 |str x =>
  obtain⟨B,Y⟩:=x5 (X:=X) Y;have p:=G.rep;simp only[au] at p;subst p;obtain⟨t,rfl⟩:=G.val;refine⟨"str",_,F.plainAttrs_str,F.slot_str_replace,F.type_str_replace,Md _ _ _,(λ_ e=>nomatch e),?_⟩;refine Od rfl (Pc ?_);show Ap _ _ (spliced [(false,eval (.Constant (.str y) j1 q1) X.env),(false,eval (.Constant (.str z) j2 q2) X.env)]) _ _ _;refine Ht (Qv (Ht (Qv (Lg ?_))));exact SC.replace (u:=C.toks) (v:=C.toks+1) (Hn N) (Nat.succ_ne_zero _) (Cp (Ka _)) O (by have:=zB;unfold bb at B;exact B) λf k=>⟨.str _,j,G.inv.tok _,⟨_,rfl⟩,xr (qT.base G.same G.pre Y) G.rel (by simp only[au])⟩
 |_=>exact Ao Y
theorem T7 {γ:Type}{f:DE}{g:D->aq->ba γ}{Ok:γ->aq->Prop}{aj:aa}{σ:_L.St}{H:Hp}{ak:qE}{S:aq}{m:Jl Ac}
  (M:∀ Q:VK,tD X f σ H Q->Ap (Au X.prog X.w) X.A m (EP X aj σ Q) X.xe s) (r:bh X.K H P α S) (I:z9 X.K P α σ ak) (U:qG X P α ((f ak S).bind g) Ok) :
  Ap (Au X.prog X.w) X.A m (λu B=>uh X aj σ ak P α u B g Ok) X.xe s:=by
 refine bo (M (λv O=>∃ J Y d G,bh X.K O J Y G/\z9 X.K J Y σ ak/\au X.K J Y d v/\qF P J/\α<+:Y/\qG X P α (g d G) Ok) ⟨P,α,ak,S,r,I,?_⟩) λu B ⟨v,O,z,w,J,Y,d,G,q1,q2,n,A,l,k⟩=>⟨v,O,J,Y,d,G,⟨z,w,q1,q2,n,A,l⟩,k⟩;cases q:f ak S with
 |bad=>rw[q] at U;exact U
 |ex c x L=>rw[q] at U;exact U
 |ok d L =>
  rw[q] at U;exact λv i t N j C T o=>⟨t,N,d,L,j,I.mono C T,o,C,T,U⟩
theorem TB {o:Bp}{B:DE}{z:An}(m:ME X e)(k:PE X e (tD X fa))(l:PE X o (tD X B))(M:(y == z)=false)
  (G:La o "replace" X.env (eval o X.env)=eval o X.env) (N:(eh.endLine == cf.line)=true)
  (hs:Bl [e,.Call (.Attribute o "replace" eh) [.Constant (.str y) j1 q1,.Constant (.str z) j2 q2] [] cf] X.env=(false,eval e X.env)::Bl [.Call (.Attribute o "replace" eh) [.Constant (.str y) j1 q1,.Constant (.str z) j2 q2] [] cf] X.env:=by rfl) :
  PA X [e,.Call (.Attribute o "replace" eh) [.Constant (.str y) j1 q1,.Constant (.str z) j2 q2] [] cf] (jy X (qA fa (qA (p7 y z B) qC))):=by
 intro ar aj s σ H Q I h;obtain⟨P,α,T,S,r,i,t⟩:=h;rw[hs];show Ap _ _ (spliced ((false,eval e X.env)::(false,eval _ X.env)::[])) _ _ s;refine Ht (bo (m _ _ _ _ (zM k I r i t)) λu s1 ⟨⟨x,H1,L,J,d,C,U,Y⟩,v⟩=>?_);have Y:qG X L J (((p7 y z B T C).bind λx C=>ba.ok [x] C).bind λxs O=>.ok (d::xs) O) (xj X L J Q):=jJ.base U.same U.pre Y;have w:qG X L J ((p7 y z B T C).bind λx O=>ba.ok [d,x] O) (xj X L J Q):=by
  cases q:p7 y z B T C with
  |bad=>rw[q] at Y;exact Y
  |ex c x S'=>rw[q] at Y;exact Y
  |ok d' O=>rw[q] at Y;exact Y
 refine Ht (bo (T7 (λQ' q=>TR l M G N v U.inv q) U.rel U.env w) λu2 s2 ⟨f,j,P2,n,d2,O,G2,A⟩=>Lg ?_);exact⟨[x,f],j,G2.inv,.cons U.val (.cons G2.val .nil),A _ _ _ _ G2.rel G2.same G2.pre (.cons (au.mono G2.same G2.pre _ _ U.rep) (.cons G2.rep .nil))⟩
end
def fY:G2:=λd k S=>match d,k with
 |.str x,.int k=>if k≠0/\x.length<=bb then .ok (.str (Txt.sliceBy x none none (k,0))) S else .bad
 |_,_=>.bad
def p8 (fe Q:DE):DE:=d2 fY fe Q
section
variable {X:Cx}{a b e ek o:Bp}{es:Aa Bp}{fa fb fe fk fo:DE}{fA:DA}{p2 ar p1:En}
theorem YN (w:PE X e (tD X fe))(m:PE X ek (tD X fk)):PE X (.Subscript e (.Slice none none (Ab ek) p2) ar) (tD X (p8 fe fk)):=by
 intro j s σ H Q I h;obtain⟨P,α,A,S,r,i,g⟩:=h;have O:qG X P α ((fe A S).bind λd M=>(fk A M).bind λk B=>fY d k B) (gw X P α Q):=g;refine WP (bo (zM w I r i O) λv s1 ⟨x,H1,P1,z,d,M,U,C⟩=>?_);refine Zx ?_;rw[Sa];refine Al (Al ?_);rw[WF];refine bo (zM m U.inv U.rel U.env (qT.base U.same U.pre C)) λvk G ⟨y,L,P2,n,k,B,G2,Y⟩=>?_;have Y:=qT.base G2.same G2.pre Y;cases d with
 |str x =>
  cases k with
  |int k =>
   obtain⟨J,Y⟩:=x5 (X:=X) Y;have p:=U.rep;simp only[au] at p;subst p;obtain⟨t,rfl⟩:=U.val;have T:=G2.rep;simp only[au] at T;subst T;obtain⟨N,rfl⟩:=G2.val;have f:Inv X j σ L { G with heap:=G.heap.push { cls:=.type "slice",data:=.fields #[.none,.none,.int k N] } }:=G2.inv.kept (t':=G.toks) λb ob q=>Aj _ q
   refine Aa2 (ops:=[.ref G.heap.objs.size,.str x t]) (s:={ G with heap:=G.heap.push { cls:=.type "slice",data:=.fields #[.none,.none,.int k N] } }) (Md _ _ _) PySem.F.slot_str_getitem.lookup ?_ (by with_unfolding_all rfl)
   exact Uc (l:=none) (u:=none) (st:=Ab (k,N)) ⟨_,Bj _ rfl,rfl,rfl⟩ (by simpa using J.1)
    (post_val_or_str ⟨Bq (Txt.sliceBy_le x none none (k,N) J.1) (by rw[<- zB];exact J.2),λt' c=>⟨.str _,L,f.tok _,⟨_,rfl⟩,xr Y G2.rel (by simp only[au];rfl)⟩⟩)
  |_=>exact Ao Y
 |_=>exact Ao Y
theorem E1:fr X (.type "str") kT:=⟨G6⟩
theorem RV:fr X (.type "int") kR:=⟨KU⟩
theorem KM:qu X "str.removeprefix" sY:=⟨LJ⟩
theorem KH:qu X "str.isdecimal" sX:=⟨LI⟩
theorem i8:qu X "str.split" wH:=⟨VR⟩
theorem Y1:qu X "str.join" vT:=⟨BC⟩
theorem AC:yb X bV:=⟨EY⟩
theorem J3:je X (Dh .NotIn) (bU true):=⟨XO⟩
theorem W2 {Q Y:DO}(G:QE X e fe)(U:QO X lo Q)(J:QO X hi Y):QE X (.Subscript e (.Slice lo hi none p2) ar) (yY fe Q Y):=⟨Z8 G.1 U.1 J.1⟩
theorem UA (Y:QE X e fe)(Q:QE X ek fk):QE X (.Subscript e (.Slice none none (Ab ek) p2) ar) (p8 fe fk):=⟨YN Y.1 Q.1⟩
theorem UC (Q:QE X e fa):QI X tg e (uC fa):=⟨YR Q.1⟩
theorem SB {z:An}{j j1 j2:Ah}{op:Aa4}{q1 q2:En}(U:QE X (.BinOp (.Constant (.str x) j p1) op b ar) fa)(G:QE X o fo)(J:(y == z)=false)
  (Q:La o "replace" X.env (eval o X.env)=eval o X.env:=by rfl) (Y:(eh.endLine == cf.line)=true:=by rfl)
  (hs:Bl [.BinOp (.Constant (.str x) j p1) op b ar,.Call (.Attribute o "replace" eh) [.Constant (.str y) j1 q1,.Constant (.str z) j2 q2] [] cf] X.env=(false,eval (.BinOp (.Constant (.str x) j p1) op b ar) X.env)::Bl [.Call (.Attribute o "replace" eh) [.Constant (.str y) j1 q1,.Constant (.str z) j2 q2] [] cf] X.env:=by rfl) :
  QA X [.BinOp (.Constant (.str x) j p1) op b ar,.Call (.Attribute o "replace" eh) [.Constant (.str y) j1 q1,.Constant (.str z) j2 q2] [] cf] (qA fa (qA (p7 y z fo) qC)):=
 ⟨TB Y8 U.1 G.1 J Q Y hs⟩
end
end _D
namespace _D
variable {ds:Aa D}{v:Ac}{n p:Ah}{lo hi:Ak Am}{F:DF}{gs:pj}{S1 S':aq}{bj:qE}
def Ok {β:Type}(r:ba β)(Q:β->aq->Prop):Prop:=∃ d S,r=.ok d S/\Q d S
theorem qL {β:Type}{r:ba β}{Q:β->aq->Prop}{d:β}{S:aq}(h:r=.ok d S)(q:Q d S):Ok r Q:=⟨d,S,h,q⟩
theorem bY {fe:DE}{ak:qE}{S:aq}{av:Aa D}{x:D}(h:fe ak S=.ok x S1)(Q:av.length<bb):zC fe ak S av=.ok (ak,av++[x]) S1:=by
 unfold zC;rw[h];simp[ba.bind,Q]
theorem p6 {bz:Aa (Ak Ah)}{fi:oz}{g:DG}{t:DT}{k:DK}{ak:qE}{S:aq}{o:Ak (Ah × MO)}{items:Aa D}(h:fi ak S=.ok (o,items) S1)(e:ja o g t k items (xQ bz ak) S1 [] = .ok (bj,ds) S'):qZ false bz fi g t k ak S=.ok (.lst ds) S':=by
 unfold qZ;rw[h];simp only[ba.bind,e,tu];rfl
theorem WI {g:DS}{S:aq}{d:D}{ak:qE}(hs:wL n ds=ak)(h:g ak S=.rt d S'):qQ n g ds S=.ok d S':=by
 subst hs;unfold qQ;rw[h];rfl
theorem cI {α β:Type}(Q:α->As)(val:α->β)(l:Aa α) : (l.flatMap λd=>if Q d then [val d] else []) = (l.filter Q).map val:=by
 induction l with
 |nil=>rfl
 |cons d l Y =>
  rw[Lo,Y];cases h:Q d <;> simp[h]
theorem wy {α:Type}{c_:α->D}{o:Ak (Ah × MO)}{g:DG}{t:DT}{k:DK}(Y:α->Aa D)(C:qE->aq->Prop)(N:∀ ak S,C ak S->mq o S) :
  ∀ (xs:Aa α) (ak:qE) (S:aq) (av:Aa D),C ak S->av.length+(xs.flatMap Y).length<=bb ->
  (∀ x∈xs,∀ ak S av,C ak S->av.length+(Y x).length<=bb->∃ Q S1 b U,g (c_ x) ak S=.ok Q S1/\t Q S1=.ok b U/\((b=false/\Y x=[]/\C Q U)\/(b=true/\∃ J O,k Q U av=.ok (J,av++Y x) O/\C J O))) ->
  ∃ bj S',ja o g t k (xs.map c_) ak S av=.ok (bj,av++xs.flatMap Y) S'/\C bj S'
 |[],ak,S,av,h,T,_=>⟨ak,S,by simp[ja,yC.mpr (N _ _ h)],h⟩
 |x::xs,ak,S,av,h,T,step=>by
  rw[Lo,Ca] at T;obtain⟨Q,S1,b,U,L,E,r⟩:=step x (Cq ..) ak S av h om;have G:=yC.mpr (N _ _ h);rcases r with⟨rfl,H,A⟩|⟨rfl,J,O,M,I⟩
  .obtain⟨bj,S',e,q⟩:=wy Y C N xs Q U av A om λd B=>step d (Bt _ B)
   refine⟨bj,S',?_,q⟩;simp only[Dt,ja,G,Du,L,E,ba.bind,Bo,Ds,Lo,H,Jn];exact e
  .obtain⟨bj,S',e,q⟩:=wy Y C N xs J O (av++Y x) I (by rw[Ca];fin2) λd B=>step d (Bt _ B)
   refine⟨bj,S',?_,q⟩;simp only[Dt,ja,G,Du,L,E,ba.bind,M,Lo];rw[e,Cj]
section
variable {α β:Type}{c_:α->D}{I_:β->D}{bz:Aa (Ak Ah)}{fi:oz}{g:DG}{t:DT}{fe:DE}{ak:qE}{S S0:aq}{o:Ak (Ah × MO)}{xs:Aa α}
theorem ES (J:mq o S)(Y:α->As)(val:α->D)(C:qE->Prop)(h0:C ak)(U:xs.length<=bb)
  (step:∀ x∈xs,∀ ak,C ak->∃ Q,g (c_ x) ak S=.ok Q S/\C Q/\t Q S=.ok (Y x) S/\(Y x=true->fe Q S=.ok (val x) S)) :
  ∃ bj,ja o g t (zC fe) (xs.map c_) ak S [] = .ok (bj,(xs.filter Y).map val) S:=by
 have B:(xs.flatMap λd=>if Y d then [val d] else []).length<=bb:=by
  rw[cI,Aq];exact Bq (Vx _ _) U
 obtain⟨bj,S',e,_,q⟩:=wy (c_:=c_) (o:=o) (g:=g) (t:=t) (k:=zC fe) (λd=>if Y d then [val d] else []) (λak S'=>C ak/\S'=S) (λ_ _ h=>h.2▸J) xs ak S [] ⟨h0,rfl⟩ (by simpa using B) (λd O ak S' H E U=>by
  obtain⟨I,rfl⟩:=E;obtain⟨Q,T,N,L,k⟩:=step d O ak I;refine⟨Q,S',Y d,S',T,L,?_⟩;cases G:Y d with
  |false=>exact .inl ⟨rfl,by simp,N,rfl⟩
  |true =>
   refine .inr ⟨rfl,Q,S',?_,N,rfl⟩;simp only[Du];exact bY (k G) (by simp only[G,Du,Lh] at U;fin2))
 subst q;refine⟨bj,?_⟩;rw[e,Jn,cI]
theorem G7 (h:fi ak S=.ok (o,xs.map c_) S)(J:mq o S)(Y:α->As)(val:α->D)(C:qE->Prop)(h0:C (xQ bz ak))(U:xs.length<=bb)
  (step:∀ x∈xs,∀ ak,C ak->∃ Q,g (c_ x) ak S=.ok Q S/\C Q/\t Q S=.ok (Y x) S/\(Y x=true->fe Q S=.ok (val x) S)) :
  qZ false bz fi g t (zC fe) ak S=.ok (.lst ((xs.filter Y).map val)) S:=by
 obtain⟨bj,e⟩:=ES J Y val C h0 U step;exact p6 h e
end
theorem JH {Q:DE}{ak:qE}{S:aq}{a:D}(h1:Q ak S=.ok a S1):qP 1 F (qA Q qC) ak S=F [a] S1:=by
 simp only[qP,qA,qC,h1,ba.bind,Bc,Dd,Du]
theorem T9 {Q:DE}{ak:qE}{S:aq}{a:D}(h1:Q ak S=.ok a S1):qA Q qC ak S=.ok [a] S1:=by
 simp only[qA,qC,h1,ba.bind]
theorem pJ {ak:qE}{i:Ah}{d:D}{S:aq}(h:ak[i]? = Ab (Ab d)):qB i ak S=.ok d S:=by simp only[qB,h]
theorem QM {α:Type}(p:α->As)(l:Aa α) : xC (l.map λx=>D.bl (p x))=Ab (l.map p):=by
 induction l with
 |nil=>rfl
 |cons x l Q =>
  show (xC (l.map λx=>D.bl (p x))).map (p x::·)=_
  rw[Q];rfl
section
variable {β γ:Type}{ak:qE}{S:aq}
theorem qU {r:ba β}{k:β->aq->ba γ}{Q:γ->aq->Prop}(h:Ok r λd S1=>Ok (k d S1) Q):Ok (r.bind k) Q:=by
 obtain⟨d,S1,rfl,h⟩:=h;exact h
theorem zT {r:ba β}{d:β}(h:Ok r λd' S'=>d'=d/\S'=S):r=.ok d S:=by
 obtain⟨_,_,e,rfl,rfl⟩:=h;exact e
theorem zJ {r:ba β}{Q Y:β->aq->Prop}(h:Ok r Q)(k:∀ d S,Q d S->Y d S):Ok r Y:=by
 obtain⟨d,S,e,q⟩:=h;exact⟨d,S,e,k d S q⟩
variable {Q:D->aq->Prop}{f g:DE}{fa:DA}{o:G2}{i j:Ah}
theorem o_c {d:D}(h:Q d S):Ok (dC d ak S) Q:=⟨_,_,rfl,h⟩
theorem o_v {d:D}(e:ak[i]? = Ab (Ab d))(h:Q d S):Ok (qB i ak S) Q:=⟨_,_,pJ e,h⟩
theorem o_2 (h:Ok (f ak S) λa S1=>Ok (g ak S1) λb Y=>Ok (o a b Y) Q):Ok (d2 o f g ak S) Q:=qU (zJ h λ_ _=>qU)
theorem o_1 {u:D->aq->ba D}(h:Ok (f ak S) λa S1=>Ok (u a S1) Q):Ok (d1 u f ak S) Q:=qU h
theorem mL {Q:Aa D->aq->Prop}(h:Q [] S):Ok (qC ak S) Q:=⟨_,_,rfl,h⟩
theorem uI {Q:Aa D->aq->Prop}(h:Ok (f ak S) λa S1=>Ok (fa ak S1) λas Y=>Q (a::as) Y):Ok (qA f fa ak S) Q:=qU (zJ h λ_ _ k=>qU (zJ k λ_ _ q=>⟨_,_,rfl,q⟩))
theorem qAH (h:Ok (fa ak S) λas S1=>as.length<=bb/\Q (.tup as) S1):Ok (xI fa ak S) Q:=qU (zJ h λ_ _ k=>⟨_,_,Ax k.1,k.2⟩)
theorem HJ (h:Ok (fa ak S) λas S1=>as.length<=bb/\Q (.lst as) S1):Ok (zL fa ak S) Q:=qU (zJ h λ_ _ k=>⟨_,_,Ax k.1,k.2⟩)
theorem OT (h:Ok (fa ak S) λas S1=>as.length<=bb/\Q (.loc S1.length) (S1++[.lst as])):Ok (dD fa ak S) Q:=qU (zJ h λ_ _ k=>⟨_,_,Ax k.1,k.2⟩)
theorem OQ (h:Q .dct0 S):Ok (kM ak S) Q:=⟨_,_,rfl,h⟩
theorem XG (h:Ok (fa ak S) λas S1=>as.length=n/\Ok (F as S1) Q):Ok (qP n F fa ak S) Q:=qU (zJ h λ_ _ k=>by rw[Ax k.1];exact k.2)
theorem qAD {as:Aa D}(h:Ok (F as S) Q):Ok (lz F as S) Q:=by
 obtain⟨d,S1,e,q⟩:=h;exact⟨d,S1,D3 e,q⟩
theorem qAN (h:Ok (fa ak S) λas S1=>Ok (F as S1) Q):Ok (qH F fa ak S) Q:=qU h
theorem OY {a b:Am}(h:Q (.int (a+b)) S):Ok (qV (.int a) (.int b) S) Q:=⟨_,_,rfl,h⟩
theorem uH {a b:Aa D}(l:a.length+b.length<=bb)(h:Q (.tup (a++b)) S):Ok (qV (.tup a) (.tup b) S) Q:=⟨_,_,Ax l,h⟩
theorem xN {a b:Aa D}(l:a.length+b.length<=bb)(h:Q (.lst (a++b)) S):Ok (qV (.lst a) (.lst b) S) Q:=⟨_,_,Ax l,h⟩
theorem qAF {a b:Am}(h:Q (.int (a-b)) S):Ok (jH (.int a) (.int b) S) Q:=⟨_,_,rfl,h⟩
theorem qAC {a:Am}(h:Q (.int (-a)) S):Ok (kY (.int a) S) Q:=⟨_,_,rfl,h⟩
theorem qAB {a b:Am}(l : -(2 ^ 64)<a/\a<2 ^ 64)(h:Q (.int (a*b)) S):Ok (wU (.int a) (.int b) S) Q:=by
 refine⟨_,_,?_,h⟩;unfold wU i2;rw[sE];unfold sD;simp only[l,and_self,Kb,Bool.true_or,Du]
theorem qAA {a b:Am}(l:0<b)(h:Q (.int (a % b)) S):Ok (yK (.int a) (.int b) S) Q:=by
 refine⟨_,_,?_,h⟩;unfold yK i2;simp[l]
theorem OZ {a b:Am}(l:0<b/\b<1073741824)(h:Q (.int (a/b)) S):Ok (vQ (.int a) (.int b) S) Q:=by
 refine⟨_,_,?_,h⟩;unfold vQ i2 MU;simp[l]
theorem qAU {a b:Am}(h:Q (.bl (decide (a<b))) S):Ok (vm (.int a) (.int b) S) Q:=⟨_,_,rfl,h⟩
theorem qAT {a b:Am}(h:Q (.bl (decide (b<a))) S):Ok (uq (.int a) (.int b) S) Q:=⟨_,_,rfl,h⟩
theorem qAR {a b:Am}(h:Q (.bl (decide (b<=a))) S):Ok (wz (.int a) (.int b) S) Q:=⟨_,_,rfl,h⟩
theorem IS {a b:Am}(h:Q (.bl (decide (a=b))) S):Ok (j_ (.int a) (.int b) S) Q:=⟨_,_,by kernel_rfl!,h⟩
theorem qAV {a b:Am}(h:Q (.bl (!decide (a=b))) S):Ok (k_ (.int a) (.int b) S) Q:=⟨_,_,by kernel_rfl!,h⟩
theorem K3 {a:Aa D}{k:Am}{d:D}(e:_L.gg a k=Ab d)(h:Q d S):Ok (gu (.tup a) (.int k) S) Q:=⟨d,S,by show _D.yA (_L.gg a k) S=_;rw[e];rfl,h⟩
theorem mK {a:Aa D}{k:Am}{d:D}(e:_L.gg a k=Ab d)(h:Q d S):Ok (gu (.lst a) (.int k) S) Q:=⟨d,S,by show _D.yA (_L.gg a k) S=_;rw[e];rfl,h⟩
theorem OS {a:Aa D}(h:Q (.int a.length) S):Ok (xJ [.tup a] S) Q:=⟨_,_,rfl,h⟩
theorem OR {a:Aa D}(h:Q (.int a.length) S):Ok (xJ [.lst a] S) Q:=⟨_,_,rfl,h⟩
theorem OW {a:Aa D}(h:Q (.tup a) S):Ok (yI [.lst a] S) Q:=⟨_,_,rfl,h⟩
theorem OU {a:Aa D}(h:Q (.lst a) S):Ok (pQ [.tup a] S) Q:=⟨_,_,rfl,h⟩
theorem pX (h:Ok (f ak S) λd S1=>∃ b,d=.bl b/\(b=true->Ok (g ak S1) Q)/\(b=false->Q (.bl false) S1)):Ok (uB f g ak S) Q:=qU (zJ h λd S1 ⟨b,e,Y,J⟩=>by
 subst e;cases b with
 |true=>exact Y rfl
 |false=>exact⟨_,_,rfl,J rfl⟩)
theorem qAZ {Y J:DO}(h:Ok (f ak S) λd S1=>Ok (Y ak S1) λlo U=>Ok (J ak U) λhi G=>Ok (sk d lo hi G) Q):Ok (ka f Y J ak S) Q:=qU (zJ h λ_ _ k=>qU (zJ k λ_ _=>qU))
theorem qAE {a:Aa D}(h:Q (.tup (zX a lo hi)) S):Ok (sk (.tup a) lo hi S) Q:=⟨_,_,rfl,h⟩
theorem K4 {a:Aa D}(h:Q (.lst (zX a lo hi)) S):Ok (sk (.lst a) lo hi S) Q:=⟨_,_,rfl,h⟩
theorem qAO {Q:Ak Am->aq->Prop}(h:Q none S):Ok (zH ak S) Q:=⟨_,_,rfl,h⟩
theorem qAP {Q:Ak Am->aq->Prop}(h:Ok (f ak S) λd S1=>∃ k,d=.int k/\Q (Ab k) S1):Ok (z0 f ak S) Q:=qU (zJ h λ_ _ ⟨_,e,q⟩=>by subst e;exact⟨_,_,rfl,q⟩)
theorem IR {T:Eg}{m:D->Aa D->aq->ba D}(h:Ok (f ak S) λa S1=>mn a S1=Ab T/\Ok (fa ak S1) λas Y=>Ok (m a as Y) Q):Ok (ls T m f fa ak S) Q:=qU (zJ h λ_ _ k=>by rw[k.1,Ax (by simp)];exact qU k.2)
theorem XE {a b:D}{xs ys:Aa D}(e1:lstM a S=Ab xs)(e2:lstM b S=Ab ys)(l:xs.length+ys.length<=bb)(h:Q (.loc S.length) (S++[.lst (xs++ys)])):Ok (kU a b S) Q:=⟨_,_,by unfold kU;rw[e1,e2];exact Ax l,h⟩
theorem LO {a b:D}{xs ys:Aa D}(e1:lstM a S=Ab xs)(e2:lstM b S=Ab ys)(l:xs.length+ys.length<=bb)(h:Q (.lst (xs++ys)) S):Ok (pR a b S) Q:=⟨_,_,by unfold pR;rw[e1,e2];exact Ax l,h⟩
theorem JZ {xs:Aa D}{d:D}(e:S[i]? = Ab (.lst xs))(l:xs.length<bb)(h:Q .non (S.set i (.lst (xs++[d])))):Ok (wR (.loc i) [d] S) Q:=by
 refine⟨_,_,?_,h⟩;show (match S[i]? with|some (.lst xs)=>(if xs.length<bb then ba.ok D.non (S.set i (.lst (xs++[d]))) else .bad)|_=>.bad)=_
 rw[e];exact Ax l
theorem pD {t:DT}(h:Ok (t ak S) λb S1=>(b=true->Ok (f ak S1) Q)/\(b=false->Ok (g ak S1) Q)):Ok (p_ t f g ak S) Q:=qU (zJ h λb S1 k=>by
 cases b with
 |true=>exact k.1 rfl
 |false=>exact k.2 rfl)
variable {Q:As->aq->Prop}{t u:DT}
theorem IV (h:Ok (f ak S) λd S1=>∃ b,xR d S1=Ab b/\Q b S1):Ok (cj f ak S) Q:=qU (zJ h λd S1 ⟨b,e,k⟩=>by
 rw[e];exact⟨_,_,rfl,k⟩)
theorem LR (h:Ok (t ak S) λb S1=>Q (!b) S1):Ok (xD t ak S) Q:=qU (zJ h λ_ _ k=>⟨_,_,rfl,k⟩)
theorem qAI (h:Q true S):Ok (zY ak S) Q:=⟨_,_,rfl,h⟩
theorem w6 (h:Ok (t ak S) λb S1=>(b=true->Q true S1)/\(b=false->Ok (u ak S1) Q)):Ok (wG t u ak S) Q:=qU (zJ h λb S1 k=>by
 cases b with
 |true=>exact⟨_,_,rfl,k.1 rfl⟩
 |false=>exact k.2 rfl)
theorem XF (h:Ok (t ak S) λb S1=>(b=true->Ok (u ak S1) Q)/\(b=false->Q false S1)):Ok (vB t u ak S) Q:=qU (zJ h λb S1 k=>by
 cases b with
 |true=>exact k.1 rfl
 |false=>exact⟨_,_,rfl,k.2 rfl⟩)
theorem tI {xs:Aa D}{a:Ah}(h:a<xs.length):_L.gg xs (a:Am)=Ab xs[a]:=by
 have e:_L.mw xs.length (a:Am)=Ab a:=by simp[_L.mw];lia
 simp[_L.gg,e,h]
theorem tH (S:aq)(m:MO):(S++[m])[S.length]? = Ab m:=by simp
theorem UR (S:aq)(m m':MO):(S++[m]).set S.length m'=S++[m']:=by simp
theorem A0 {xs:Aa D}(h:S[j]? = Ab (.lst xs)):mn (.loc j) S=Ab "list":=by
 show (match S[j]? with|some (.lst _)=>Ab "list" | some (.dct _)=>Ab "dict" | _=>none)=_
 rw[h]
theorem H8 {xs:Aa D}(h:S[j]? = Ab (.lst xs)):lstM (.loc j) S=Ab xs:=by
 show (match S[j]? with|some (.lst xs)=>Ab xs|_=>none)=_
 rw[h]
theorem dM {Q:D->aq->Prop}{a:Aa D}{k:Ah}(h:k<a.length)(q:∀ d∈a,Q d S):Ok (gu (.lst a) (.int (k:Am)) S) Q:=mK (tI h) (q _ (Jy h))
theorem BH {Q:Aa D->aq->Prop}(h:Ok (f ak S) λd S1=>∃ ds,x8 d=Ab ds/\Q ds S1):Ok (vJ f ak S) Q:=qU (zJ h λd S1 ⟨ds,e,k⟩=>⟨ds,S1,by rw[e];rfl,k⟩)
theorem oH {Q:Aa D->aq->Prop}(h:Ok (fa ak S) λas S1=>∃ ds,pG as=Ab ds/\Q ds S1):Ok (y9 fa ak S) Q:=qU (zJ h λd S1 ⟨ds,e,k⟩=>⟨ds,S1,by rw[e];rfl,k⟩)
theorem oP (n:Ah)(h:n<=1000000):pG [.int (n:Am)]=Ab ((Cg n).map λ(i:Ah)=>D.int (i:Am)):=by
 unfold pG;have : -(2 ^ 62)<=(n:Am)/\(n:Am)<2 ^ 62:=⟨by lia,by lia⟩
 refine(Ax this).trans ?_;unfold wK;rw[Fd]
 congr 2
 funext i
 rw[Int.zero_add]
theorem OV {Q:Aa D->aq->Prop}(h:Ok (f ak S) λd S1=>∃ k:Am,d=.int k/\0<=k/\k<=1000000/\Q ((Cg k.toNat).map λ(i:Ah)=>D.int (i:Am)) S1):Ok (y9 (qA f qC) ak S) Q:=oH (uI (zJ h λ_ _ ⟨k,e,Y,J,q⟩=>mL ⟨_,by
 have:=oP k.toNat li;rw[Xp Y] at this;rw[e,this],q⟩))
theorem j7 {Q:D->aq->Prop}{xs:Aa D}{k:Am}{d:D}(e:S[i]? = Ab (.lst xs))(Y:_L.gg xs k=Ab d)(h:Q d S):Ok (gu (.loc i) (.int k) S) Q:=by
 refine⟨d,S,?_,h⟩;show (match S[i]? with|some (.lst xs)=>_D.yA (_L.gg xs k) S|_=>.bad)=_
 rw[e];show _D.yA (_L.gg xs k) S=_;rw[Y];rfl
theorem XM {Q:Pa->aq->Prop}{xs:Aa D}{d:D}{n:Am}(e:S[i]? = Ab (.lst xs))(Y:_L.mw xs.length n=Ab j)(h:Q () (S.set i (.lst (xs.set j d)))):Ok (vD (.loc i) (.int n) d S) Q:=by
 refine⟨_,_,?_,h⟩;simp[vD,tU,e,Y]
theorem tX {xs:Aa D}(h:ak[i]? = Ab (Ab (.tup xs))):ju (qB i) ak S=.ok (none,xs) S:=by
 unfold ju;rw[pJ h];rfl
theorem VD {xs:Aa D}(h:ak[i]? = Ab (Ab (.lst xs))):ju (qB i) ak S=.ok (none,xs) S:=by
 unfold ju;rw[pJ h];rfl
theorem IL (h:n<=1000000):xE (y9 (qA (dC (.int (n:Am))) qC)) ak S=.ok (none,(Cg n).map λ(i:Ah)=>D.int (i:Am)) S:=zT (qU (oH (uI (o_c (mL ⟨_,oP n h,_,_,rfl,rfl,rfl⟩)))))
theorem sW {α:Type}(f:α->β):∀ l:Aa α,l.flatMap (λx=>[f x])=l.map f
 |[]=>rfl
 |x::l=>by rw[Lo,sW f l];rfl
theorem x9 {α:Type}{c_:α->D}{o:Ak (Ah × MO)}{bz:Aa (Ak Ah)}{fi:oz}{tg:DG}{fe:DE}{Q:D->aq->Prop}(xs:Aa α)(val:α->D)(C:qE->aq->Prop)(hi:fi ak S=.ok (o,xs.map c_) S1)(h0:C (xQ bz ak) S1)(U:xs.length<=bb)(N:∀ ak S,C ak S->mq o S)
  (step:∀ x∈xs,∀ ak S,C ak S->Ok (tg (c_ x) ak S) λY S1=>Ok (t Y S1) λb J=>b=true/\Ok (fe Y J) λd G=>d=val x/\C Y G) (q:∀ bj S',C bj S'->Q (.lst (xs.map val)) S'):Ok (qZ false bz fi tg t (zC fe) ak S) Q:=by
 have O:=sW val xs;obtain⟨bj,S',e,c⟩:=wy (c_:=c_) (o:=o) (g:=tg) (t:=t) (k:=zC fe) (λx=>[val x]) C N xs (xQ bz ak) S1 [] h0 (by rw[O,Aq];simpa using U) (λx B ak S A T U=>by
  obtain⟨Y,S1,L,b,J,E,rfl,d,G,I,rfl,H⟩:=step x B ak S T;exact⟨Y,S1,true,J,L,E,.inr ⟨rfl,Y,G,bY I (by simp at U;lia),H⟩⟩)
 rw[O,Jn] at e;exact⟨_,_,p6 hi e,q bj S' c⟩
theorem NV {α:Type}{c_:α->D}{o:Ak (Ah × MO)}{tg:DG}{fe:DE}(R:D->Prop)(C:qE->aq->Prop)(J:∀ ak S,C ak S->mq o S) :
  ∀ (xs:Aa α) (ak:qE) (S:aq) (av:Aa D),C ak S->av.length+xs.length<=bb->(∀ x∈xs,∀ ak S,C ak S->Ok (tg (c_ x) ak S) λY S1=>Ok (t Y S1) λb G=>b=true/\Ok (fe Y G) λd U=>R d/\C Y U) ->
  ∃ bj S' ds,ja o tg t (zC fe) (xs.map c_) ak S av=.ok (bj,av++ds) S'/\C bj S'/\ds.length=xs.length/\∀ d∈ds,R d
 |[],ak,S,av,h,_,_=>⟨ak,S,[],by simp[ja,yC.mpr (J _ _ h)],h,rfl,λ_ h=>by cases h⟩
 |x::xs,ak,S,av,h,E,step=>by
  obtain⟨Y,S1,O,b,G,L,rfl,d,U,T,N,H⟩:=step x (Cq ..) ak S h;rw[Bc] at E;obtain⟨bj,S',ds,e,c,l,B⟩:=NV R C J xs Y U (av++[d]) H (by rw[Ca];show _+1+_<=bb;lia) λy I=>step y (Bt _ I)
  refine⟨bj,S',d::ds,?_,c,by rw[Bc,Bc,l],λz hz=>?_⟩
  .simp only[Dt,ja,yC.mpr (J _ _ h),Du,O,L,ba.bind,bY T (show av.length<bb by lia)]
   rw[e,Cj];rfl
  .rcases AT.mp hz with rfl|hz
   .exact N
   .exact B z hz
theorem BF {α:Type}{c_:α->D}{o:Ak (Ah × MO)}{bz:Aa (Ak Ah)}{fi:oz}{tg:DG}{fe:DE}{Q:D->aq->Prop}(xs:Aa α)(R:D->Prop)(C:qE->aq->Prop)(hi:fi ak S=.ok (o,xs.map c_) S1)(h0:C (xQ bz ak) S1)(N:xs.length<=bb)(J:∀ ak S,C ak S->mq o S)
  (step:∀ x∈xs,∀ ak S,C ak S->Ok (tg (c_ x) ak S) λY S1=>Ok (t Y S1) λb U=>b=true/\Ok (fe Y U) λd O=>R d/\C Y O) (q:∀ ds bj S',ds.length=xs.length->(∀ d∈ds,R d)->C bj S'->Q (.lst ds) S'):Ok (qZ false bz fi tg t (zC fe) ak S) Q:=by
 obtain⟨bj,S',ds,e,c,l,G⟩:=NV (c_:=c_) (o:=o) (tg:=tg) (t:=t) (fe:=fe) R C J xs (xQ bz ak) S1 [] h0 (by simpa using N) step
 exact⟨_,_,p6 hi e,q ds bj S' l G c⟩
theorem pW {α:Type}{Q:D->aq->Prop}{l:Aa α}{p:α->As}(h:Q (.bl (l.all p)) S):Ok (jG false [.lst (l.map λx=>.bl (p x))] S) Q:=by
 refine⟨_,_,?_,h⟩;show (match (x8 (.lst (l.map λx=>D.bl (p x)))).bind xC with|some Y=>ba.ok (D.bl (Y.all id)) S|none=>.bad)=_
 rw[show (x8 (.lst (l.map λx=>D.bl (p x)))).bind xC=Ab (l.map p) from QM p l]
 simp only[Lu];rfl
theorem qAY {Q:qE->aq->Prop}{h:G3}{d:D}(k:Ok (f ak S) λa S1=>Ok (g ak S1) λb Y=>Ok (h a b d Y) λ_ J=>Q ak J):Ok (vj f g h d ak S) Q:=qU (zJ k λ_ _ k=>qU (zJ k λ_ _ k=>qU (zJ k λ_ _ q=>⟨_,_,rfl,q⟩)))
variable {Q:qE->aq->Prop}
theorem IT {d:D}(h:Q (ak.set i (Ab d)) S):Ok (br i d ak S) Q:=⟨_,_,rfl,h⟩
theorem IU {xs:Aa D}(h:xs.length=n/\Ok (gs xs ak S) Q):Ok (m_ n gs (.tup xs) ak S) Q:=by
 obtain⟨d,S1,e,q⟩:=h.2;exact⟨d,S1,by show (if xs.length=n then gs xs ak S else .bad)=_;rw[Ax h.1];exact e,q⟩
theorem qAS (h:Q ak S):Ok (y7 [] ak S) Q:=⟨_,_,rfl,h⟩
theorem qAQ {t:DG}{x:D}{xs:Aa D}(h:Ok (t x ak S) λY S1=>Ok (gs xs Y S1) Q):Ok (zW t gs (x::xs) ak S) Q:=qU h
def Wo (P:jh->Prop)(o:jh):Prop:=P o
def oR (g:DS)(P:jh->Prop):jh->Prop
 |.nx ak S=>P (g ak S)
 |o=>P o
def cD (b:As)(f g:DS):DS:=match b with
 |true=>f
 |false=>g
def iT (Q:D->aq->Prop):jh->Prop
 |.rt d S=>Q d S
 |.nx _ S=>Q .non S
 |_=>Fb
def oD {α:Type}(I:Aa α -> qE->aq->Prop)(xs:Aa α)(P:jh->Prop):jh->Prop
 |.nx ak S=>I xs ak S
 |.ct ak S=>I xs ak S
 |.bk ak S=>P (.nx ak S)
 |o=>P o
variable {P:jh->Prop}{sf sg:DS}{fi:DI}{tg:DG}{d:D}
theorem Q6 (h:Wo (oR sg P) (sf ak S)):Wo P (qO sf sg ak S):=by
 unfold qO;unfold Wo at h ⊢;cases e:sf ak S <;> rw[e] at h <;> exact h
theorem Q5 (R:qE->aq->Prop)(h:∀ Y:jh->Prop,(∀ ak S,R ak S->Wo Y (.nx ak S))->Wo Y (sf ak S))(k:∀ ak S,R ak S->Wo P (sg ak S)):Wo P (qO sf sg ak S):=Q6 (h _ k)
theorem RO (h:Wo P (sg ak S)):Wo (oR sg P) (.nx ak S):=h
theorem qAc (h:Wo P (.rt d S)):Wo (oR sg P) (.rt d S):=h
theorem RN (h:Wo P (.nx ak S)):Wo P (zI ak S):=h
theorem gO {r:ba β}{k:β->aq->jh}(h:Ok r λd S1=>Wo P (k d S1)):Wo P (r.toS ak k):=by
 obtain⟨d,S1,rfl,h⟩:=h;exact h
theorem qAJ (h:Ok (f ak S) λd S1=>Ok (tg d ak S1) λbj Y=>Wo P (.nx bj Y)):Wo P (zA f tg ak S):=gO (zJ h λ_ _=>gO)
theorem OX (h:Ok (f ak S) λ_ S1=>Wo P (.nx ak S1)):Wo P (vY f ak S):=gO h
theorem qAL (h:Ok (f ak S) λd S1=>Wo P (.rt d S1)):Wo P (qW f ak S):=gO h
theorem qAK (h:Ok (fa ak S) λds S1=>∃ a b,ds=[a,b]/\Wo P (.nx ((ak.set i (Ab a)).set j (Ab b)) S1)):Wo P (pH i j fa ak S):=gO (zJ h λ_ _ ⟨_,_,e,q⟩=>by subst e;exact q)
theorem qAb (h:Ok (t ak S) λb S1=>Wo P (cD b sf sg ak S1)):Wo P (gk t sf sg ak S):=gO (zJ h λb S1 q=>by cases b <;> exact q)
theorem w_t (h:Wo P (sf ak S)):Wo P (cD true sf sg ak S):=h
theorem w_f (h:Wo P (sg ak S)):Wo P (cD false sf sg ak S):=h
theorem A6 {b:As}(h:Wo P (cD b sg sf ak S)):Wo P (cD (!b) sf sg ak S):=by cases b <;> exact h
theorem wA {p:Prop}[Gg p](h1:p->Wo P (sf ak S))(h2:¬ p->Wo P (sg ak S)):Wo P (cD (decide p) sf sg ak S):=by
 by_cases h:p
 .rw[Dl h];exact h1 h
 .rw[Co h];exact h2 h
theorem A5 (h:Ok (fi ak S) λds S1=>Wo P (vU tg sf ds ak S1)):Wo P (gL fi tg sf ak S):=gO h
theorem uR {α:Type}{c_:α->D}(I:Aa α -> qE->aq->Prop)(turn:∀ x xs ak S,I (x::xs) ak S->Ok (tg (c_ x) ak S) λU S1=>Wo (oD I xs P) (sf U S1))(J:∀ ak S,I [] ak S->Wo P (.nx ak S)) :
  ∀ {xs:Aa α} {ak:qE} {S:aq},I xs ak S->Wo P (vU tg sf (xs.map c_) ak S)
 |[],ak,S,h=>J ak S h
 |x::xs,ak,S,h=>by
  obtain⟨U,S1,C,Y⟩:=turn x xs ak S h;rw[Dt,vU];unfold Wo at Y ⊢;simp only[C,ba.toS];cases N:sf U S1 with
  |nx G O=>rw[N] at Y;exact uR I turn J Y
  |ct G O=>rw[N] at Y;exact uR I turn J Y
  |bk G O=>rw[N] at Y;exact Y
  |rt d2 O=>rw[N] at Y;exact Y
  |ex L B G O=>rw[N] at Y;exact Y
  |bad=>rw[N] at Y;exact Y
theorem M3 (I:Aa D->qE->aq->Prop)(turn:∀ x xs ak S,I (x::xs) ak S->Ok (tg x ak S) λJ S1=>Wo (oD I xs P) (sf J S1))(Y:∀ ak S,I [] ak S->Wo P (.nx ak S)){xs:Aa D}{ak:qE}{S:aq}(h:I xs ak S):Wo P (vU tg sf xs ak S):=by
 have:=uR (c_:=id) I turn Y h
 rwa [Lp] at this
theorem WH {x:D}(hs:wL n ds=ak)(h:sf ak S=.ex v x bj S'):qQ n sf ds S=.ex v x S':=by
 subst hs;unfold qQ;rw[h];rfl
theorem ET {x:D}(h:t ak S=.ok true S1)(k:sf ak S1=.ex v x bj S'):gk t sf sg ak S=.ex v x bj S':=by
 simp only[gk,h,ba.toS,Du];exact k
theorem rX (v:Ac)(x:An)(ak:qE)(S:aq):yT v (qA (dC (.str x)) qC) ak S=.ex v .non ak S:=by
 unfold yT;rw[T9 (show dC (.str x) ak S=.ok (.str x) S from rfl)]
 show (if ([D.str x]:Aa D).length<=bb then jh.ex v D.non ak S else jh.bad)=_
 exact Ax (By rfl)
def H_ (v:Ac)(x:D)(S0:aq):jh->Prop:=λo=>∃ bj,o=.ex v x bj S0
theorem nN {x:D}(hs:wL n ds=ak)(h:Wo (H_ v x S') (sf ak S)):qQ n sf ds S=.ex v x S':=by
 obtain⟨bj,e⟩:=h;exact WH hs e
theorem aZ {x:An}(h:P (.ex v .non ak S)):Wo P (yT v (qA (dC (.str x)) qC) ak S):=by
 unfold Wo;rw[rX];exact h
theorem M2 {x:D}(e:f ak S=.ex v x S')(h:P (.ex v x ak S')):Wo P (vY f ak S):=by
 unfold Wo vY;rw[e];exact h
theorem t9 {α:Type}{I:Aa α -> qE->aq->Prop}{xs:Aa α}(h:I xs ak S):Wo (oD I xs P) (.nx ak S):=h
theorem A4 {Q:D->aq->Prop}(h:Q d S):Wo (iT Q) (.rt d S):=h
theorem zE {Q:D->aq->Prop}(hs:wL n ds=ak)(h:Wo (iT Q) (sf ak S)):Ok (qQ n sf ds S) Q:=by
 subst hs;unfold qQ;unfold Wo at h;cases e:sf (wL n ds) S <;> rw[e] at h <;> first|exact⟨_,_,rfl,h⟩|exact Ao h
end
abbrev Pt:=Am × Am
noncomputable def bu (p:Pt):D:=.tup [.int p.1,.int p.2]
def gD (l:Aa Pt):D:=.tup (l.map bu)
def kP (p:Pt):Aa Am:=[p.1,p.2]
def pK (k:Aa Am):Pt:=(k.getD 0 0,k.getD 1 0)
theorem jY (Q:Aa Pt):Q.map bu=(Q.map kP).map lw:=by
 rw[Fg];rfl
def C_ (p q:Pt):As:=_H.lexLt [p.1,p.2] [q.1,q.2]
abbrev Up (l:Aa Pt):Prop:=l.Pairwise λp q=>C_ p q=true
def uN (Q:Aa Pt):Aa Pt:=(_S.jc _H.lexLt (Q.map kP)).map pK
theorem c6 {ks:Aa (Aa Am)}{J:Aa Pt}(h:∀ k∈ks,k∈J.map kP):ks.map lw=(ks.map pK).map bu/\(ks.map pK).map kP=ks:=by
 have e:∀ k∈ks,kP (pK k)=k:=λk Y=>by
  obtain⟨p,_,rfl⟩:=Dj.mp (h k Y);rfl
 have Q:(ks.map pK).map kP=ks:=by
  rw[Fg]
  conv=>rhs;rw[<- Lp ks]
  exact Ml e
 exact⟨by rw[jY,Q],Q⟩
theorem eG (Q:Aa Pt):∀ k∈_S.jc _H.lexLt (Q.map kP),k∈Q.map kP:=λk Y=>(_S.yF _S.pF k _).mp Y
theorem eF (Q:Aa Pt)(p:Pt):p∈uN Q↔p∈Q:=by
 unfold uN;constructor
 .intro h
  obtain⟨k,Y,rfl⟩:=Dj.mp h;obtain⟨q,J,rfl⟩:=Dj.mp (eG Q k Y);exact J
 .intro h
  exact Dj.mpr ⟨kP p,(_S.yF _S.pF _ _).mpr (Dj.mpr ⟨p,h,rfl⟩),rfl⟩
theorem aX (Q:Aa Pt):Up (uN Q):=by
 have h:=_S.kG _S.pF (Q.map kP);rw[<- (c6 (eG Q)).2,Ib] at h;exact h
theorem sZ {K:Type}(lt':K->K->As)(x:K):∀ l:Aa K,(_S.uD lt' x l).length<=l.length+1
 |[]=>by simp[_S.uD]
 |y::l=>by
  have:=sZ lt' x l;unfold _S.uD
  split
  .simp
  .split <;> simp <;> fin2
theorem nQ {K:Type}(lt':K->K->As):∀ l:Aa K,(_S.jc lt' l).length<=l.length
 |[]=>by simp[_S.jc]
 |x::l=>by
  have Y:=sZ lt' x (_S.jc lt' l);have Q:=nQ lt' l;rw[_S.jc,Bc];fin2
theorem UV (Q:Aa Pt):(uN Q).length<=Q.length:=by
 unfold uN;rw[Aq];exact Bq (nQ _ _) (by simp)
theorem h9 (Q:Aa Pt)(J:Q.length<=1000):uM (Q.map bu)=Ab ((uN Q).map bu):=by
 unfold uM uN;rw[<- (c6 (eG Q)).1];cases Q with
 |nil=>rfl
 |cons p Q =>
  have U:wV ((p::Q).map bu)=none:=rfl;rw[U,jY,jC];have Y:(((p::Q).map kP).all λk=>!k.isEmpty)=true:=by
   rw[Lu,Bs];intro q _;rfl
  have G:(_S.jc _H.lexLt ((p::Q).map kP)).length<=1000:=Bq (nQ _ _) (by rw[Aq];exact J)
  exact Ax (by rw[Y,Dl G];rfl)
theorem qAW {Q:D->aq->Prop}{p:Pt}{S:aq}(h:Q (.int p.1) S):Ok (gu (bu p) (.int 0) S) Q:=⟨_,_,rfl,h⟩
theorem qAX {Q:D->aq->Prop}{p:Pt}{S:aq}(h:Q (.int p.2) S):Ok (gu (bu p) (.int 1) S) Q:=⟨_,_,rfl,h⟩
theorem qAG {Q:qE->aq->Prop}{ak:qE}{S:aq}{p:Pt}(h:Ok (gs [.int p.1,.int p.2] ak S) Q):Ok (m_ 2 gs (bu p) ak S) Q:=IU ⟨rfl,h⟩
theorem XS (Q:Aa Pt):pl xT (.lst (Q.map bu))=true:=by
 show ((Q.map bu).all (pl 29))=true;rw[Lu];exact Bs.mpr λp _=>rfl
theorem ZE:∀ (a b:Aa Pt),xA (a.map bu) (b.map bu)=decide (a=b)
 |[],[]=>rfl
 |[],_::_=>by simp[xA]
 |_::_,[]=>by simp[xA]
 |x::a,y::b=>by
  show ((x.1 == y.1&&(x.2 == y.2&&true))&&xA (a.map bu) (b.map bu))=_;rw[ZE a b,Aa9];simp[Prod.ext_iff,and_assoc]
theorem HG {Q:D->aq->Prop}{a b:Aa Pt}{S:aq}(h:Q (.bl (decide (a=b))) S):Ok (j_ (.lst (a.map bu)) (.lst (b.map bu)) S) Q:=by
 refine⟨_,_,?_,h⟩;unfold j_;rw[XS,XS];show ba.ok (D.bl (xA (a.map bu) (b.map bu))) S=_;rw[ZE]
theorem LS {Q:D->aq->Prop}{f:DE}{ak:qE}{S:aq}(h:Ok (f ak S) λd S1=>∃ Y:Aa Pt,oS d S1=Ab (Y.map bu)/\Y.length<=1000/\Q (.lst ((uN Y).map bu)) S1):Ok (vK false f ak S) Q:=qU (zJ h λd S1 ⟨Y,e,l,q⟩=>⟨_,_,by rw[e,wS,h9 Y l];rfl,q⟩)
def ku (B:Am)(q:Pt):Prop:=-B<=q.1/\q.1<=B /\ -B<=q.2/\q.2<=B
instance (B:Am)(q:Pt):Gg (ku B q):=by unfold ku;exact inferInstance
structure xk (M:Ah)(l:Aa Pt):Prop where
 ne:l≠[]
 len:l.length<=M
 up:Up l
 box:∀ q∈l,ku 1000 q
def xX (S:aq)(p:Ah):Prop:=∃ v f:Am,S[p]? = Ab (.lst [.int v,.int f])
theorem BX {S:aq}(h:xX S p)(e:S<+:S'):xX S' p:=by
 obtain⟨Y,J,Q⟩:=h;obtain⟨r,rfl⟩:=e;exact⟨Y,J,by rw[Ci (Ce.mp Q).1];exact Q⟩
structure Kp (p:Ah)(S S':aq):Prop where
 pen:xX S' p
 len:S.length<=S'.length
 same:∀ m,m<S.length->m≠p->S'[m]? = S[m]?
theorem Kp.trans {S Q:aq}(a:Kp p S S1)(b:Kp p S1 Q):Kp p S Q:=⟨b.pen,Bq a.len b.len,λm Y J=>(b.same m (Az Y a.len) J).trans (a.same m Y J)⟩
theorem DR {S:aq}(h:xX S p):p<S.length:=by
 obtain⟨v,f,e⟩:=h;exact(Ce.mp e).1
theorem Kp.pre {S:aq}(h:xX S p)(e:S<+:S'):Kp p S S':=⟨BX h e,e.length_le,λm Q _=>(List.prefix_iff_getElem?.mp e m Q).trans (Ar Q).symm⟩
theorem Kp.set {j:Ah}{S:aq}(h:Kp p S S')(Y:S.length<=j)(m:MO)(hp:p≠j):Kp p S (S'.set j m):=by
 obtain⟨v,f,e⟩:=h.pen;exact⟨⟨v,f,by rw[Er (Fm hp)];exact e⟩,by rw[Aa3];exact h.len,λi hi Q=>by rw[Er om];exact h.same i hi Q⟩
end _D
local macro_rules|`(tactic|array_get_dec)=>`(tactic| first | (with_reducible first | apply _D.Q6 | apply _D.RO | apply _D.qAJ | apply _D.o_2 | apply _D.o_c | apply _D.uI | apply _D.mL | apply _D.OY | apply _D.qAF | apply _D.qAH | apply _D.HJ | apply _D.XG | apply _D.qAN | apply _D.qAD | apply _D.IV | apply _D.LR | apply _D.qAb | apply _D.w_t | apply _D.w_f | apply _D.A6 | apply _D.RN | apply _D.OX | apply _D.qAL | apply _D.qAc | apply _D.qAK | apply _D.A5 | apply _D.qAU | apply _D.qAT | apply _D.qAR | apply _D.IS | apply _D.qAV | apply _D.o_1 | apply _D.qAC | apply _D.OS | apply _D.OR | apply _D.OW | apply _D.OU | apply _D.OT | apply _D.qAZ | apply _D.qAE | apply _D.K4 | apply _D.qAO | apply _D.qAP | apply _D.IR | apply _D.IU | apply _D.qAQ | apply _D.qAS | apply _D.qAI | apply _D.OQ | apply _D.qAW | apply _D.qAX | apply _D.qAG | apply _D.qAY | apply _D.BH | apply _D.OV) | ((with_reducible apply _D.o_v); exact rfl) | ((with_reducible apply _D.IT); dsimp only [List.set_cons_succ, List.set_cons_zero]) | ((with_reducible (first | apply _D.qAB | apply _D.qAA | apply _D.OZ)); fin2) | ((with_reducible apply And.intro); (first | exact rfl | exact Nat.le_of_ble_eq_true rfl)) | ((with_reducible apply Exists.intro); (with_reducible apply And.intro); exact rfl) | ((with_reducible apply Exists.intro); (with_reducible apply Exists.intro); (with_reducible apply And.intro); exact rfl; dsimp only [List.set_cons_succ, List.set_cons_zero]) | ((with_reducible apply Exists.intro); (with_reducible apply Exists.intro); (with_reducible apply Exists.intro); (with_reducible apply And.intro); exact rfl; dsimp only [List.set_cons_succ, List.set_cons_zero]))
local macro_rules|`(tactic|rfl')=>`(tactic| repeat array_get_dec)
namespace _D
variable {xs:Aa D}{d:D}{Q:D->aq->Prop}{S:aq}
def Pn (d:D):Prop:=∃ p,qq d=Ab p
theorem A_:∀ {Y:Aa PyData},fG xs=Ab Y->∀ x∈xs,Pn x:=by
 induction xs with
 |nil=>intro Y _ x hx;cases hx
 |cons d C J =>
  intro Y h x hx;simp only[fG] at h;obtain⟨p,N,U⟩:=Em.mp h;obtain⟨O,G,_⟩:=Gf.mp U;rcases AT.mp hx with rfl|hx
  .exact⟨p,N⟩
  .exact J G x hx
theorem mQ (h:Pn (.tup xs)):∀ x∈xs,Pn x:=by
 obtain⟨p,h⟩:=h;simp only[qq] at h;obtain⟨J,Y,_⟩:=Gf.mp h;exact A_ Y
theorem rT:∀ {xs:Aa D},(∀ x∈xs,Pn x)->∃ l,fG xs=Ab l
 |[],_=>⟨[],rfl⟩
 |x::xs,h=>by
  obtain⟨l,e⟩:=rT (xs:=xs) λy Y=>h y (Bt _ Y);obtain⟨q,J⟩:=h x (Cq ..);refine⟨q::l,?_⟩;show (qq x).bind (λx=>(fG xs).map (x::·))=_
  rw[e,J];rfl
theorem yR (h:∀ x∈xs,Pn x):Pn (.tup xs):=by
 obtain⟨l,e⟩:=rT h;exact⟨.tuple l,by simp only[qq,e,Pl]⟩
theorem O0 (h:∀ x∈xs,Pn x):Pn (.lst xs):=by
 obtain⟨l,e⟩:=rT h;exact⟨.list l,by simp only[qq,e,Pl]⟩
theorem oM (q:Pt):Pn (bu q):=⟨.tuple [.int q.1,.int q.2],rfl⟩
theorem DW (l:Aa Pt):Pn (gD l):=yR λx Y=>by
 obtain⟨q,_,rfl⟩:=Dj.mp Y;exact oM q
noncomputable def inR (a b:Am):D->As
 |.int i=>decide (a<=i/\i<=b)
 |_=>false
def yw:D->As
 |.int _=>true
 |_=>false
def gl:D->As
 |.tup _=>true
 |_=>false
theorem dH (h:Pn d)(S:aq):zO [d,.ty "tuple"] S=.ok (.bl (gl d)) S:=by
 obtain⟨p,h⟩:=h;cases d <;> first|kernel_rfl!|simp[qq] at h
theorem pY {U J Y:DE}{ak:qE}{a b c:Am}(h1:U ak S=.ok (.int a) S)(h2:J ak S=.ok (.int b) S)(h3:Y ak S=.ok (.int c) S)(q:Q (.bl (decide (a<=b/\b<=c))) S):Ok (w4 og og U J Y ak S) Q:=by
 refine⟨_,_,?_,q⟩;unfold w4;rw[h1,ba.bind_ok,h2,ba.bind_ok];show (match xR (.bl (decide (a<=b))) S with|some true=>(Y ak S).bind λw G=>og (.int b) w G|some false=>ba.ok (.bl (decide (a<=b))) S|none=>.bad)=_
 by_cases h:a<=b
 .rw[Dl h]
  show (Y ak S).bind _=_;rw[h3];simp only[h,true_and];rfl
 .rw[Co h,Co λz=>h z.1]
  rfl
abbrev kz:D->As:=inR (-1000) 1000
def x3:D->As
 |.tup [a,b]=>kz a&&kz b
 |_=>false
theorem PM (q:Pt):x3 (bu q)=decide (ku 1000 q):=by
 show (decide (-1000<=q.1/\q.1<=1000)&&decide (-1000<=q.2/\q.2<=1000))=_;rw[<- Bool.decide_and];exact wT.mpr ⟨λh=>⟨h.1.1,h.1.2,h.2.1,h.2.2⟩,λh=>⟨⟨h.1,h.2.1⟩,h.2.2.1,h.2.2.2⟩⟩
theorem ZP (h:xs.length=2):x3 (.tup xs)=xs.all kz:=by
 match xs,h with
 |[a,b],_=>simp[x3]
theorem ZQ (h:xs.length≠2):x3 (.tup xs)=false:=by
 match xs,h with
 |[],_=>rfl
 |[_],_=>rfl
 |[_,_],h=>exact absurd rfl h
 |_::_::_::_,_=>rfl
theorem ZR (h:gl d=false):x3 d=false:=by
 cases d <;> first|rfl|cases h
def mj (ks:Aa (Aa Am)):As:=(ks.zip (ks.drop 1)).all λp=>_H.lexLt p.1 p.2
def xU:D->As
 |.tup xs=>decide (1<=xs.length/\xs.length<=40)&&xs.all x3&&(match w9 xs with|some Y=>mj Y|none=>false)
 |_=>false
theorem cO {a b:Am}(h:inR a b d=true):∃ i,d=.int i/\a<=i/\i<=b:=by
 cases d <;> first|exact⟨_,rfl,Bz h⟩|cases h
theorem r0 (h:x3 d=true):∃ q,d=bu q/\ku 1000 q:=by
 unfold x3 at h
 split at h
 .rw[Bd] at h
  obtain⟨x,rfl,J⟩:=cO h.1;obtain⟨y,rfl,Y⟩:=cO h.2;exact⟨(x,y),rfl,J.1,J.2,Y.1,Y.2⟩
 .cases h
theorem kD:∀ {xs:Aa D},xs.all x3=true->∃ Y:Aa Pt,xs=Y.map bu/\∀ q∈Y,ku 1000 q
 |[],_=>⟨[],rfl,λ_ h=>by cases h⟩
 |d::G,h=>by
  rw[Me,Bd] at h;obtain⟨Y,rfl,J⟩:=kD h.2;obtain⟨q,rfl,U⟩:=r0 h.1;refine⟨q::Y,rfl,λz hz=>?_⟩;rcases AT.mp hz with rfl|hz
  .exact U
  .exact J z hz
theorem HB (a b:Aa Am)(S:aq):tS (lw a) (lw b) S=.ok (.bl (_H.lexLt a b)) S:=by
 unfold tS lw;simp only[lF]
theorem eL:∀ (ks:Aa (Aa Am)),mj ks=true↔ks.Pairwise (λa b=>_H.lexLt a b=true)
 |[]=>by simp[mj]
 |[a]=>by simp[mj]
 |a::b::r=>by
  have U:=eL (b::r);have e:mj (a::b::r)=(_H.lexLt a b&&mj (b::r)):=by simp[mj]
  rw[e,Bd,U,Fl (a:=a)];constructor
  .rintro⟨J,Y⟩
   refine⟨λx hx=>?_,Y⟩;rcases AT.mp hx with rfl|hx
   .exact J
   .exact _S.pF.tr J ((Fl.mp Y).1 x hx)
  .rintro⟨J,Y⟩
   exact⟨J b (by simp),Y⟩
theorem E5 (ks Y:Aa (Aa Am)):yV (ks.map lw) (Y.map lw)=(ks.zip Y).map λp=>D.tup [lw p.1,lw p.2]:=by
 unfold yV
 induction ks generalizing Y with
 |nil=>rfl
 |cons k ks J =>
  cases Y with
  |nil=>rfl
  |cons m Y=>exact congrArg (_::·) (J Y)
theorem cQ (h:gl d=false):xU d=false:=by
 cases d <;> first|rfl|cases h
theorem VC {M:Ah}(O:M<=40){l:Aa Pt}(h:xk M l):xU (gD l)=true:=by
 show (decide (1<=(l.map bu).length/\(l.map bu).length<=40)&&(l.map bu).all x3&&(match w9 (l.map bu) with|some Y=>mj Y|none=>false))=true
 have N:1<=(l.map bu).length/\(l.map bu).length<=40:=by
  rw[Aq];exact⟨Im.mpr h.ne,by have:=h.len;lia⟩
 have U:(l.map bu).all x3=true:=by
  rw[Lu];exact Bs.mpr λq J=>(PM q).trans (Dl (h.box q J))
 have G:mj (l.map kP)=true:=by
  rw[eL,Ib];exact h.up
 rw[Dl N,U,jY,jC];exact G
def zi (d:D):Prop:=Pn d/\xU d=false
theorem E8 (xs:Aa D):zX xs (Ab 1) none=xs.drop 1:=by
 unfold zX;have J:_H.bx xs.length 0 (Ab 1)=min 1 xs.length:=rfl;have Y:_H.bx xs.length xs.length none=xs.length:=rfl;rw[J,Y];cases xs with
 |nil=>rfl
 |cons x r=>simp
theorem QU (xs:Aa D)(n:Ah)(h:n<=xs.length):zX xs (Ab (n:Am)) none=xs.drop n:=by
 unfold zX;have J:_H.bx xs.length xs.length none=xs.length:=rfl;have Y:_H.bx xs.length 0 (Ab (n:Am))=min n xs.length:=by
  show (if (n:Am)<0 then ((n:Am)+(xs.length:Am)).toNat else min (n:Am).toNat xs.length)=_
  rw[Bb li,Fd]
 rw[J,Y,Vc h];exact Es (by rw[Ez];exact Av _)
theorem QX (xs:Aa D)(n:Ah)(h:n<=xs.length):zX xs none (Ab (n:Am))=xs.take n:=by
 unfold zX;have J:_H.bx xs.length 0 none=0:=rfl;have Y:_H.bx xs.length xs.length (Ab (n:Am))=min n xs.length:=by
  show (if (n:Am)<0 then ((n:Am)+(xs.length:Am)).toNat else min (n:Am).toNat xs.length)=_
  rw[Bb li,Fd]
 rw[J,Y,Vc h];rfl
theorem oX (n:Ah):_H.gy n (-1)=n:=by
 unfold _H.gy _H.fu _H.o_ Gi Gj;simp
 split <;> lia
theorem WO {k:Am}{x:D}(h:x∈_H.dh xs k):x∈xs:=by
 unfold _H.dh at h;obtain⟨m,_,e⟩:=IN.mp h;exact Cb e
theorem XI {a:Aa D}{k:Ah}(l:a.length*k<=bb/\k<1000)(h:Q (.lst (Di k a).flatten) S):Ok (kX (.lst a) (.int (k:Am)) S) Q:=by
 refine⟨_,_,?_,h⟩;unfold kX;have c:0<=(k:Am)/\(k:Am)<2 ^ 62/\a.length*(k:Am).toNat<=bb:=⟨by lia,by lia,by rw[Fd];exact l.1⟩
 refine(Ax c).trans ?_;rw[Fd]
theorem LU {a:Aa D}(l:a.length<=1000)(h:Q (.tup (_H.dh a (-1))) S):Ok (dF (.tup a) (.int (-1)) S) Q:=⟨_,_,Ax ⟨by lia,by lia,by rw[oX];unfold bb;lia⟩,h⟩
end _D
namespace _K
open _L _D
noncomputable def top (i:Ah):Ey:=Pu.main.body.getD i (.Pass ⟨0,0,0,0⟩)
structure Cl where
 (FarError NoPoint NoLot NoNumber NoCircle NoMarks NoFars NoText NoLine NoDeed Alike TooMany:Af)
noncomputable def zZ (c:Cl):Aa Af:=[c.NoPoint,c.NoLot,c.NoNumber,c.NoCircle,c.NoMarks,c.NoFars,c.NoText,c.NoLine,c.NoDeed,c.Alike,c.TooMany]
noncomputable def jT (c:Cl):Aa Ac:=[.ref c.NoPoint,.ref c.NoLot,.ref c.NoNumber,.ref c.NoCircle,.ref c.NoMarks,.ref c.NoFars,.ref c.NoText,.ref c.NoLine,.ref c.NoDeed]
noncomputable abbrev oi (c:Cl):Aa (An × Af):=[("FarError",c.FarError),("NoPoint",c.NoPoint),("NoLot",c.NoLot),("NoNumber",c.NoNumber),("NoCircle",c.NoCircle),("NoMarks",c.NoMarks),("NoFars",c.NoFars),("NoText",c.NoText),("NoLine",c.NoLine),("NoDeed",c.NoDeed),("Alike",c.Alike),("TooMany",c.TooMany)]
noncomputable abbrev pr (c:Cl):Aa (An × Af):=[("NoPoint",c.NoPoint),("NoLot",c.NoLot),("NoNumber",c.NoNumber),("NoCircle",c.NoCircle),("NoMarks",c.NoMarks),("NoFars",c.NoFars),("NoText",c.NoText),("NoLine",c.NoLine),("NoDeed",c.NoDeed)]
noncomputable abbrev qf:Aa (An × Am):=[("LEAST_NUMBER",-1000),("MOST_NUMBER",1000),("MOST_POINTS",40),("MOST_FIGURES",30)]
noncomputable abbrev bl:Aa An:=["ValueError","all","bool","int","isinstance","len","list","range","set","sorted","str","tuple","zip"]
noncomputable abbrev tab:Aa (An × Ah × Aa An):=[(("is_whole" : An),(14:Ah),[("thing" : An)]),(("is_within" : An),(15:Ah),[("thing" : An),("least" : An),("most" : An)]),(("is_rising" : An),(16:Ah),[("some" : An)]),(("is_point" : An),(21:Ah),[("thing" : An)]),(("is_lot" : An),(22:Ah),[("thing" : An)]),(("need_lot" : An),(23:Ah),[("thing" : An)]),(("number_in" : An),(26:Ah),[("word" : An)]),(("point_in" : An),(27:Ah),[("word" : An)]),(("shown" : An),(28:Ah),[("lot" : An)]),(("read" : An),(29:Ah),[("text" : An)]),(("_law_cell" : An),(31:Ah),[("_law_script" : An),("_law_k" : An)]),(("_law_pen" : An),(32:Ah),[("_law_cell_here" : An)]),(("_law_draw" : An),(33:Ah),[("_law_pen_here" : An),("_law_many" : An)]),(("_law_whole" : An),(34:Ah),[("_law_thing" : An)]),(("_law_same" : An),(35:Ah),[("_law_found" : An),("_law_due" : An)]),(("_law_kind_of" : An),(36:Ah),[("_law_e" : An)]),(("_law_point" : An),(37:Ah),[("_law_pen_here" : An),("_law_wide" : An)]),(("_law_lot" : An),(38:Ah),[("_law_pen_here" : An),("_law_most" : An)]),(("_law_is_point" : An),(39:Ah),[("_law_thing" : An)]),(("_law_is_lot" : An),(40:Ah),[("_law_thing" : An)]),(("_law_no_point" : An),(41:Ah),[("_law_pen_here" : An),("_law_point_here" : An)]),(("_law_no_lot" : An),(42:Ah),[("_law_pen_here" : An),("_law_lot_here" : An)]),(("_law_text" : An),(43:Ah),[("_law_lot_here" : An)]),(("_law_number" : An),(44:Ah),[("_law_word" : An)]),(("_law_point_in" : An),(45:Ah),[("_law_word" : An)]),(("_law_read" : An),(46:Ah),[("_law_text_here" : An)]),(("_law_bent_text" : An),(47:Ah),[("_law_pen_here" : An),("_law_text_here" : An)]),(("_law_came" : An),(48:Ah),[("_law_way" : An),("_law_thing" : An)]),(("_law_right" : An),(49:Ah),[("_law_text_here" : An)]),(("law" : An),(50:Ah),[("_law_script" : An)])]
abbrev Txt (K:Ai)(Q:ai)(c:Cl):Prop:=xc K Q top tab bl (oi c) (pr c) (jT c) (zZ c) qf
abbrev LD:Aa An:=[]
abbrev vc (a:DE):=qA a qC
abbrev vd (a b:DE):=qA a (vc b)
abbrev vf (a b c:DE):=qA a (vd b c)
abbrev vg (a b c d:DE):=qA a (vf b c d)
abbrev ic (i:Int):DE:=dC (.int i)
abbrev kg:DS:=qW (uB (qH zO (vd (qB 0) (dC (.ty "int")))) (iR (qH zO (vd (qB 0) (dC (.ty "bool"))))))
@[irreducible] def fx:DF:=sh (qQ 1 kg)
theorem gS:fx=qQ 1 kg:=by delta fx;exact zP _
abbrev jm:DS:=qW (uB (qP 1 fx (vc (qB 0))) (w4 og og (qB 1) (qB 0) (qB 2)))
@[irreducible] def e_:DF:=sh (qQ 3 jm)
theorem jR:e_=qQ 3 jm:=by delta e_;exact zP _
abbrev jn:DS:=qW (qH (jG false) (vc (qZ false [none,none] (xE (tL (vd (qB 0) (ka (qB 0) (z0 (ic 1)) zH)))) (m_ 2 (zW (br 0) (zW (br 1) y7))) zY (zC (d2 tS (qB 0) (qB 1))))))
@[irreducible] def ff:DF:=sh (qQ 1 jn)
theorem jQ:ff=qQ 1 jn:=by delta ff;exact zP _
abbrev kh:DS:=qO (gk (wG (xD (cj (qH zO (vd (qB 0) (dC (.ty "tuple")))))) (cj (d2 k_ (qH xJ (vc (qB 0))) (ic 2)))) (qW (dC (.bl false))) zI) (qW (qH (jG false) (vc (qZ false [none] (ju (qB 0)) (br 0) zY (zC (qP 3 (lz e_) (vf (qB 0) (dC (.int (-1000))) (ic 1000))))))))
@[irreducible] def d_:DF:=sh (qQ 1 kh)
theorem gR:d_=qQ 1 kh:=by delta d_;exact zP _
abbrev mf:DS:=qO (gk (wG (xD (cj (qH zO (vd (qB 0) (dC (.ty "tuple")))))) (xD (cj (w4 og og (ic 1) (qH xJ (vc (qB 0))) (ic 40))))) (qW (dC (.bl false))) zI) (qW (uB (qH (jG false) (vc (qZ false [none] (ju (qB 0)) (br 0) zY (zC (qP 1 (lz d_) (vc (qB 0))))))) (qP 1 ff (vc (qB 0)))))
@[irreducible] def gq:DF:=sh (qQ 1 mf)
theorem bB:gq=qQ 1 mf:=by delta gq;exact zP _
abbrev kf (c:Cl):DS:=gk (xD (cj (qP 1 gq (vc (qB 0))))) (yT (.ref c.NoLot) (vc (dC (.str "a lot is needed")))) zI
@[irreducible] def dz (c:Cl):DF:=sh (qQ 1 (kf c))
theorem vO (c:Cl):dz c=qQ 1 (kf c):=by delta dz;exact zP _
abbrev jl:DS:=qO (zA (ls "str" sY (qB 0) (vc (dC (.str "-")))) (br 1)) (qO (gk (wG (cj (d2 uq (qH xJ (vc (qB 1))) (ic 30))) (xD (cj (iQ "str" sX (qB 1))))) (qW (dC .non)) zI) (qO (zA (qH kR (vc (qB 0))) (br 2)) (qW (p_ (cj (d2 j_ (qH kT (vc (qB 2))) (qB 0))) (qB 2) (dC .non)))))
@[irreducible] def ez:DF:=sh (qQ 3 jl)
theorem jS:ez=qQ 3 jl:=by delta ez;exact zP _
abbrev ke:DS:=qO (zA (qH yI (vc (qZ false [none] (ju (ls "str" wH (qB 0) (vc (dC (.str ","))))) (br 0) zY (zC (qP 1 (lz ez) (vc (qB 0))))))) (br 1)) (qW (p_ (cj (qP 1 d_ (vc (qB 1)))) (qB 1) (dC .non)))
@[irreducible] def fw:DF:=sh (qQ 2 ke)
theorem gT:fw=qQ 2 ke:=by delta fw;exact zP _
abbrev ng (c:Cl):DS:=qO (vY (qP 1 (dz c) (vc (qB 0)))) (qW (ls "str" vT (dC (.str " ")) (vc (qZ false [none,none] (ju (qB 0)) (m_ 2 (zW (br 0) (zW (br 1) y7))) zY (zC (dB [d1 kW (qB 0),dC (.str ","),d1 kW (qB 1)]))))))
@[irreducible] def gv (c:Cl):DF:=sh (qQ 1 (ng c))
theorem kI (c:Cl):gv c=qQ 1 (ng c):=by delta gv;exact zP _
abbrev mx (c:Cl):DS:=qO (gk (xD (cj (qH zO (vd (qB 0) (dC (.ty "str")))))) (yT (.ref c.NoText) (vc (dC (.str "a text is needed")))) zI) (qO (zA (qH yI (vc (qZ false [none] (ju (ls "str" wH (qB 0) (vc (dC (.str " "))))) (br 0) zY (zC (qP 1 (lz fw) (vc (qB 0))))))) (br 1)) (qO (gk (xD (cj (qP 1 gq (vc (qB 1))))) (yT (.ref c.NoText) (vc (dC (.str "the text writes no lot")))) zI) (qW (qB 1))))
@[irreducible] def gp (c:Cl):DF:=sh (qQ 2 (mx c))
theorem uW (c:Cl):gp c=qQ 2 (mx c):=by delta gp;exact zP _
abbrev jr:DS:=qO (gk (cj (d2 vm (qB 1) (qH xJ (vc (qB 0))))) (qW (d2 gu (qB 0) (qB 1))) zI) (qW (ic 0))
@[irreducible] def dj:DF:=sh (qQ 2 jr)
theorem jL:dj=qQ 2 jr:=by delta dj;exact zP _
abbrev ki:DS:=qW (dD (vd (qB 0) (qH iW (vc (d2 wz (qB 0) (d2 iZ (ic 10) (ic 18)))))))
@[irreducible] def fy:DF:=sh (qQ 1 ki)
theorem gQ:fy=qQ 1 ki:=by delta fy;exact zP _
abbrev jq:DS:=qO (gk (cj (d2 j_ (d2 gu (qB 0) (ic 1)) (ic 1))) (qO (zA (d2 yK (d2 gu (qB 0) (ic 0)) (qB 1)) (br 2)) (qO (zA (d2 vQ (d2 gu (qB 0) (ic 0)) (qB 1)) (vj (qB 0) (ic 0) vD)) (qW (qB 2)))) zI) (qO (zA (d2 yK (d2 qV (d2 wU (d2 yK (d2 gu (qB 0) (ic 0)) (ic 2147483629)) (ic 48271)) (ic 11)) (ic 2147483629)) (vj (qB 0) (ic 0) vD)) (qW (d2 yK (d2 vQ (d2 yK (d2 qV (d2 wU (d2 gu (qB 0) (ic 0)) (d2 gu (qB 0) (ic 0))) (d2 wU (ic 40692) (d2 gu (qB 0) (ic 0)))) (ic 2147483647)) (ic 8)) (qB 1))))
@[irreducible] def a_:DF:=sh (qQ 3 jq)
theorem jM:a_=qQ 3 jq:=by delta a_;exact zP _
abbrev ir:DS:=qW (uB (qH zO (vd (qB 0) (dC (.ty "int")))) (iR (qH zO (vd (qB 0) (dC (.ty "bool"))))))
@[irreducible] def dn:DF:=sh (qQ 1 ir)
theorem uV:dn=qQ 1 ir:=by delta dn;exact zP _
abbrev cw (bv:DF):DS:=qO (gk (cj (d2 uo (qB 1) (dC .non))) (qW (d2 uo (qB 0) (dC .non))) zI) (qO (gk (wG (cj (qH zO (vd (qB 1) (dC (.ty "tuple"))))) (cj (qH zO (vd (qB 1) (dC (.ty "list")))))) (qO (gk (wG (cj (d2 k_ (qH zO (vd (qB 0) (dC (.ty "tuple")))) (qH zO (vd (qB 1) (dC (.ty "tuple")))))) (cj (d2 k_ (qH zO (vd (qB 0) (dC (.ty "list")))) (qH zO (vd (qB 1) (dC (.ty "list"))))))) (qW (dC (.bl false))) zI) (qO (gk (cj (d2 k_ (qH xJ (vc (qB 0))) (qH xJ (vc (qB 1))))) (qW (dC (.bl false))) zI) (qO (gL (tL (vd (qB 0) (qB 1))) (m_ 2 (zW (br 2) (zW (br 3) y7))) (gk (xD (cj (qP 2 bv (vd (qB 2) (qB 3))))) (qW (dC (.bl false))) zI)) (qW (dC (.bl true)))))) zI) (qO (gk (cj (qH zO (vd (qB 1) (dC (.ty "str"))))) (qW (uB (qH zO (vd (qB 0) (dC (.ty "str")))) (d2 j_ (qB 0) (qB 1)))) zI) (qW (uB (d2 j_ (qH zO (vd (qB 0) (dC (.ty "bool")))) (qH zO (vd (qB 1) (dC (.ty "bool"))))) (uB (qH zO (vd (qB 0) (dC (.ty "int")))) (d2 j_ (qB 0) (qB 1)))))))
def mX:Ah->DF
 |0=>λ_ _=>.bad
 |n+1=>qQ 4 (cw (mX n))
@[irreducible] def bv:DF:=sh (mX 4)
theorem jO:bv=mX 4:=by delta bv;exact zP _
abbrev gn (c:Cl):DS:=qO (zA (zL (vg (qH (zR (zZ c)) (vd (qB 0) (dC (.obj c.NoPoint)))) (qH (zR (zZ c)) (vd (qB 0) (dC (.obj c.NoLot)))) (qH (zR (zZ c)) (vd (qB 0) (dC (.obj c.NoNumber)))) (qH (zR (zZ c)) (vd (qB 0) (dC (.obj c.NoCircle)))))) (br 1)) (qO (zA (d2 qV (qB 1) (zL (vg (qH (zR (zZ c)) (vd (qB 0) (dC (.obj c.NoMarks)))) (qH (zR (zZ c)) (vd (qB 0) (dC (.obj c.NoFars)))) (qH (zR (zZ c)) (vd (qB 0) (dC (.obj c.NoText)))) (qH (zR (zZ c)) (vd (qB 0) (dC (.obj c.NoLine))))))) (br 1)) (qO (zA (d2 qV (qB 1) (zL (vf (qH (zR (zZ c)) (vd (qB 0) (dC (.obj c.NoDeed)))) (qH (zR (zZ c)) (vd (qB 0) (dC (.obj c.Alike)))) (qH (zR (zZ c)) (vd (qB 0) (dC (.obj c.TooMany))))))) (br 1)) (qO (gk (wG (xD (cj (qH (zR (zZ c)) (vd (qB 0) (dC (.ty "ValueError")))))) (cj (d2 k_ (ls "list" fW (qB 1) (vc (dC (.bl true)))) (ic 1)))) (qW (dC (.str "other"))) zI) (qO (gk (cj (qH (zR (zZ c)) (vd (qB 0) (dC (.obj c.Alike))))) (qW (zL (qA (dC (.str "alike")) (vg p5 p5 p5 p5)))) zI) (qO (gk (cj (qH (zR (zZ c)) (vd (qB 0) (dC (.obj c.TooMany))))) (qW (zL (vf (dC (.str "many")) p5 p5))) zI) (qO (zA (zL (qA (dC (.str "point")) (qA (dC (.str "lot")) (qA (dC (.str "number")) (qA (dC (.str "circle")) (qA (dC (.str "marks")) (vg (dC (.str "fars")) (dC (.str "text")) (dC (.str "line")) (dC (.str "deed"))))))))) (br 2)) (qW (d2 gu (qB 2) (ls "list" fX (qB 1) (vc (dC (.bl true))))))))))))
@[irreducible] def bq (c:Cl):DF:=sh (qQ 3 (gn c))
theorem wY (c:Cl):bq c=qQ 3 (gn c):=by delta bq;exact zP _
abbrev iw:DS:=qW (xI (vd (d2 jH (qP 2 a_ (vd (qB 0) (d2 qV (d2 wU (ic 2) (qB 1)) (ic 1)))) (qB 1)) (d2 jH (qP 2 a_ (vd (qB 0) (d2 qV (d2 wU (ic 2) (qB 1)) (ic 1)))) (qB 1))))
@[irreducible] def cz:DF:=sh (qQ 2 iw)
theorem uT:cz=qQ 2 iw:=by delta cz;exact zP _
abbrev kj:DS:=qO (pH 2 3 (vd (qP 2 a_ (vd (qB 0) (ic 7))) (d2 qV (ic 1) (qP 2 a_ (vd (qB 0) (qB 1)))))) (qO (zA (xI (vd (d2 gu (zL (qA (ic 1) (vg (ic 2) (ic 4) (ic 12) (ic 1000)))) (qP 2 a_ (vd (qB 0) (ic 5)))) (qP 2 cz (vd (qB 0) (ic 400))))) (m_ 2 (zW (br 4) (zW (br 5) y7)))) (qO (zA (d2 qV (ic 1) (qP 2 a_ (vd (qB 0) (ic 9)))) (br 6)) (qO (zA (qZ false [none,Ab 0,Ab 4] (xE (y9 (vc (qB 3)))) (br 0) zY (zC (qP 2 (lz cz) (vd (qB 1) (qB 2))))) (br 7)) (qO (gk (cj (d2 j_ (qB 2) (ic 0))) (zA (qZ false [none,Ab 5] (xE (y9 (vc (qB 3)))) (br 0) zY (zC (xI (vd (d2 qV (d2 gu (qB 1) (ic 0)) (d2 yK (qB 0) (ic 4))) (d2 qV (d2 gu (qB 1) (ic 1)) (d2 vQ (qB 0) (ic 4))))))) (br 7)) zI) (qO (gk (cj (d2 j_ (qB 2) (ic 1))) (zA (qZ false [none,Ab 5,Ab 6] (xE (y9 (vc (qB 3)))) (br 0) zY (zC (xI (vd (d2 qV (d2 gu (qB 1) (ic 0)) (d2 wU (qB 2) (qB 0))) (d2 jH (d2 gu (qB 1) (ic 1)) (qB 0)))))) (br 7)) zI) (qO (gk (cj (d2 j_ (qB 2) (ic 2))) (qO (zA (ka (qB 7) zH (z0 (d2 qV (ic 1) (d2 vQ (qB 3) (ic 4))))) (br 8)) (qO (zA (d2 qV (d2 qV (qB 8) (qZ false [none,none] (ju (qB 8)) (m_ 2 (zW (br 0) (zW (br 1) y7))) zY (zC (xI (vd (d2 jH (ic 0) (qB 1)) (qB 0)))))) (qZ false [none,none] (ju (qB 8)) (m_ 2 (zW (br 0) (zW (br 1) y7))) zY (zC (xI (vd (d2 jH (ic 0) (qB 0)) (d2 jH (ic 0) (qB 1))))))) (br 7)) (zA (d2 qV (qB 7) (qZ false [none,none] (ju (qB 8)) (m_ 2 (zW (br 0) (zW (br 1) y7))) zY (zC (xI (vd (qB 1) (d2 jH (ic 0) (qB 0))))))) (br 7)))) zI) (qW (qH yI (vc (vK false (ka (qB 7) zH (z0 (qB 3)))))))))))))
@[irreducible] def fz:DF:=sh (qQ 9 kj)
theorem gP:fz=qQ 9 kj:=by delta fz;exact zP _
abbrev gc:DS:=qO (gk (wG (xD (cj (qH zO (vd (qB 0) (dC (.ty "tuple")))))) (cj (d2 k_ (qH xJ (vc (qB 0))) (ic 2)))) (qW (dC (.bl false))) zI) (qW (qH (jG false) (vc (qZ false [none] (ju (qB 0)) (br 0) zY (zC (uB (qP 1 (lz dn) (vc (qB 0))) (w4 og og (d1 kY (ic 1000)) (qB 0) (ic 1000))))))))
@[irreducible] def bw:DF:=sh (qQ 1 gc)
theorem vF:bw=qQ 1 gc:=by delta bw;exact zP _
abbrev ig:DS:=qO (gk (wG (xD (cj (qH zO (vd (qB 0) (dC (.ty "tuple")))))) (wG (xD (cj (w4 og og (ic 1) (qH xJ (vc (qB 0))) (ic 40)))) (xD (cj (qH (jG false) (vc (qZ false [none] (ju (qB 0)) (br 0) zY (zC (qP 1 (lz bw) (vc (qB 0))))))))))) (qW (dC (.bl false))) zI) (qW (d2 j_ (qH pQ (vc (qB 0))) (vK false (qB 0))))
@[irreducible] def cg:DF:=sh (qQ 1 ig)
theorem u4:cg=qQ 1 ig:=by delta cg;exact zP _
abbrev gb:DS:=qO (pH 2 3 (vd (qP 2 a_ (vd (qB 0) (ic 12))) (qP 2 a_ (vd (qB 0) (ic 2))))) (qO (zA (d2 gu (zL (qA (ic 1001) (qA (d1 kY (ic 1001)) (qA (dC (.bl true)) (qA (dC (.bl false)) (qA (dC .non) (qA (dC (.str "0")) (vg (xI (vc (ic 0))) (d2 iZ (ic 10) (ic 29)) (zL (vc (ic 0))) kM)))))))) (qP 2 a_ (vd (qB 0) (ic 10)))) (br 4)) (qO (zA (d2 qV (d2 qV (ka (qB 1) zH (z0 (qB 3))) (xI (vc (qB 4)))) (ka (qB 1) (z0 (d2 qV (qB 3) (ic 1))) zH)) (br 5)) (qO (zA (zL (qA (qB 5) (qA (qB 5) (qA (qB 5) (qA (qB 5) (qA (ka (qB 1) zH (z0 (ic 1))) (qA (d2 qV (qB 1) (xI (vc (ic 0)))) (vg (qH pQ (vc (qB 1))) (dC .non) (ic 7) (dC (.str "0,0")))))))))) (br 6)) (qW (d2 gu (d2 qV (qB 6) (zL (vd kM (xI (vc (qB 1)))))) (qB 2))))))
@[irreducible] def cq:DF:=sh (qQ 7 gb)
theorem vG:cq=qQ 7 gb:=by delta cq;exact zP _
abbrev h_:DS:=qO (pH 2 3 (vd (qP 2 a_ (vd (qB 0) (ic 14))) (qP 2 a_ (vd (qB 0) (qH xJ (vc (qB 1))))))) (qO (zA (d2 qV (d2 qV (ka (qB 1) zH (z0 (qB 3))) (xI (vc (qP 2 cq (vd (qB 0) (d2 gu (qB 1) (qB 3))))))) (ka (qB 1) (z0 (d2 qV (qB 3) (ic 1))) zH)) (br 4)) (qO (zA (zL (qA (qB 4) (qA (qB 4) (qA (qH pQ (vc (qB 1))) (qA (iS (qB 1) (d1 kY (ic 1))) (qA (d2 qV (qB 1) (ka (qB 1) (z0 (d1 kY (ic 1))) zH)) (qA (d2 qV (ka (qB 1) zH (z0 (d2 qV (qB 3) (ic 1)))) (ka (qB 1) (z0 (qB 3)) zH)) (qA (xI qC) (vg (dC .non) (ic 7) (dC (.str "0,0")) kM))))))))) (br 5)) (qO (zA (qH yI (vc (qZ false [none] (xE (y9 (vc (ic 41)))) (br 0) zY (zC (xI (vd (d2 vQ (qB 0) (ic 8)) (d2 yK (qB 0) (ic 8)))))))) (br 6)) (qO (zA (d2 gu (d2 qV (qB 5) (zL (vf (xI (vc (qB 1))) (qB 6) (d2 gu (qB 1) (ic 0))))) (qB 2)) (br 7)) (qW (p_ (cj (qP 1 cg (vc (qB 7)))) (xI qC) (qB 7)))))))
@[irreducible] def df:DF:=sh (qQ 8 h_)
theorem u7:df=qQ 8 h_:=by delta df;exact zP _
abbrev jo:DS:=qW (ls "str" vT (dC (.str " ")) (vc (qZ false [none,none] (ju (qB 0)) (m_ 2 (zW (br 0) (zW (br 1) y7))) zY (zC (d2 qV (d2 qV (qH kT (vc (qB 0))) (dC (.str ","))) (qH kT (vc (qB 1))))))))
@[irreducible] def di:DF:=sh (qQ 1 jo)
theorem jP:di=qQ 1 jo:=by delta di;exact zP _
abbrev g_:DS:=qO (zA (p_ (cj (d2 j_ (yY (qB 0) zH (z0 (ic 1))) (dC (.str "-")))) (yY (qB 0) (z0 (ic 1)) zH) (qB 0)) (br 1)) (qO (gk (wG (cj (d2 j_ (qB 1) (dC (.str "")))) (wG (cj (d2 uq (qH xJ (vc (qB 1))) (ic 30))) (cj (d2 k_ (qZ false [none] (xE (uC (qB 1))) (br 0) (vB (cj (d2 (bU true) (qB 0) (dC (.str "0123456789")))) zY) (zC (qB 0))) (zL qC))))) (qW (dC .non)) zI) (qO (gk (vB (cj (d2 j_ (d2 bV (qB 1) (ic 0)) (dC (.str "0")))) (cj (d2 k_ (qB 0) (dC (.str "0"))))) (qW (dC .non)) zI) (qW (qH kR (vc (qB 0))))))
@[irreducible] def de:DF:=sh (qQ 2 g_)
theorem u9:de=qQ 2 g_:=by delta de;exact zP _
abbrev f_:DS:=qO (zA (qH yI (vc (qZ false [none] (ju (ls "str" wH (qB 0) (vc (dC (.str ","))))) (br 0) zY (zC (qP 1 (lz de) (vc (qB 0))))))) (br 1)) (qW (p_ (cj (qP 1 bw (vc (qB 1)))) (qB 1) (dC .non)))
@[irreducible] def cp:DF:=sh (qQ 2 f_)
theorem vH:cp=qQ 2 f_:=by delta cp;exact zP _
abbrev jp:DS:=qO (zA (qH yI (vc (qZ false [none] (ju (ls "str" wH (qB 0) (vc (dC (.str " "))))) (br 0) zY (zC (qP 1 (lz cp) (vc (qB 0))))))) (br 1)) (qW (p_ (cj (qP 1 cg (vc (qB 1)))) (qB 1) (dC .non)))
@[irreducible] def fg:DF:=sh (qQ 2 jp)
theorem jN:fg=qQ 2 jp:=by delta fg;exact zP _
abbrev fq:DS:=qO (pH 2 3 (vd (qP 2 a_ (vd (qB 0) (ic 12))) (qP 2 a_ (vd (qB 0) (d2 qV (qH xJ (vc (qB 1))) (ic 1)))))) (qO (zA (d2 bV (dC (.str "0123456789 ,-+.\nx_:;")) (qP 2 a_ (vd (qB 0) (ic 20)))) (br 4)) (qO (zA (ls "str" wH (qB 1) (vc (dC (.str " ")))) (br 5)) (qO (zA (qP 2 a_ (vd (qB 0) (qH xJ (vc (qB 5))))) (br 6)) (qO (zA (d2 gu (qB 5) (qB 6)) (br 7)) (qO (zA (d2 kX (zL (vc (d2 qV (d2 qV (yY (qB 1) zH (z0 (qB 3))) (qB 4)) (yY (qB 1) (z0 (qB 3)) zH)))) (ic 3)) (br 8)) (qO (zA (d2 qV (qB 8) (d2 kX (zL (vc (d2 qV (d2 qV (yY (qB 1) zH (z0 (qB 3))) (qB 4)) (yY (qB 1) (z0 (d2 qV (qB 3) (ic 1))) zH)))) (ic 2))) (br 8)) (qO (zA (d2 kU (qB 8) (zL (vg (d2 qV (yY (qB 1) zH (z0 (qB 3))) (yY (qB 1) (z0 (d2 qV (qB 3) (ic 1))) zH)) (d2 qV (qB 1) (dC (.str " "))) (d2 qV (dC (.str " ")) (qB 1)) (p7 " " "  " (qB 1))))) (br 8)) (qO (gL (vJ (zL (vf (zL (vd (qB 7) (qB 7))) (zL (vc (p8 (qB 7) (d1 kY (ic 1))))) (d2 qV (ka (qB 5) (z0 (d2 qV (qB 6) (ic 1))) (z0 (d2 qV (qB 6) (ic 2)))) (zL (vc (qB 7))))))) (br 9) (vY (ls "list" wR (qB 8) (vc (ls "str" vT (dC (.str " ")) (vc (d2 qV (d2 qV (ka (qB 5) zH (z0 (qB 6))) (qB 9)) (ka (qB 5) (z0 (d2 qV (qB 6) (ic 1))) zH)))))))) (qW (yY (d2 gu (qB 8) (qB 2)) zH (z0 (ic 600))))))))))))
@[irreducible] def cb:DF:=sh (qQ 10 fq)
theorem yW:cb=qQ 10 fq:=by delta cb;exact zP _
abbrev er (c:Cl):DS:=fJ 3 2 (jT c) (qW (bS [(1,(gv c)),(1,(gp c))] (qB 0) (vc (qB 1)))) (qW (qP 1 (bq c) (vc (qB 2))))
@[irreducible] def bp (c:Cl):DF:=sh (qQ 3 (er c))
theorem yX (c:Cl):bp c=qQ 3 (er c):=by delta bp;exact zP _
abbrev iu (c:Cl):DS:=qO (zA (qP 1 fg (vc (qB 0))) (br 1)) (qW (qP 2 bv (vd (qP 2 (bp c) (vd (ic 1) (qB 0))) (p_ (cj (d2 uo (qB 1) (dC .non))) (dC (.str "text")) (qB 1)))))
@[irreducible] def b_ (c:Cl):DF:=sh (qQ 2 (iu c))
theorem uU (c:Cl):b_ c=qQ 2 (iu c):=by delta b_;exact zP _
abbrev pe (c:Cl):DS:=qO (zA (zL (qA (dC (.str "")) (qA (dC (.str " ")) (qA (dC (.str "0,0")) (qA (dC (.str "0,-0")) (qA (dC (.str "-0,0")) (qA (dC (.str "00,0")) (qA (dC (.str "0,0 0,0")) (qA (dC (.str "0,1 0,0")) (vg (dC (.str "0,0  0,1")) (dC (.str "1000,-1000")) (dC (.str "1001,0")) (dC (.str "0")))))))))))) (br 1)) (qO (zA (d2 qV (qB 1) (zL (qA (dC (.str "0,0\n")) (qA (dC (.str "+1,0")) (qA (dC (.str "1_0,0")) (qA (dC (.str "1.0,0")) (qA (dC (.str "0, 0")) (qA (dC (.str "-,0")) (qA (dC (.str ",")) (vg (dC (.str "0,")) (dC (.str "--1,0")) (dC (.str "0,0,0")) (dC (.str "none")))))))))))) (br 1)) (qO (zA (d2 kU (qB 1) (zL (qA (dC (.str "a,0")) (vg (dC (.str "0,e")) (dC (.str "1e1,0")) (dC (.str "0,0~")) (dC (.str "(0,0)")))))) (br 1)) (qO (vY (ls "list" wR (qB 1) (vc (dC (.str "-1000,0 0,0 1000,0"))))) (qO (zA (d2 pR (qB 1) (qZ false [none] (ju (xI (vd (ic 40) (ic 41)))) (br 0) zY (zC (qP 1 (lz di) (vc (qZ false [none] (xE (y9 (vc (qB 0)))) (br 0) zY (zC (xI (vd (d2 vQ (qB 0) (ic 8)) (d2 yK (qB 0) (ic 8))))))))))) (br 1)) (qO (gk (xD (cj (qH (jG false) (vc (qZ false [none] (ju (qB 1)) (br 0) zY (zC (qP 1 (lz (b_ c)) (vc (qB 0))))))))) (qW (dC (.bl false))) zI) (qO (gL (vJ (d2 qV (zL (vc (qP 2 dj (vd (qB 0) (ic 0))))) (ka (qB 0) (z0 (ic 1)) (z0 (ic 6))))) (br 3) (qO (zA (qP 1 fy (vc (qB 3))) (br 4)) (qO (zA (qP 2 fz (vd (qB 4) (ic 40))) (br 5)) (qO (zA (qP 1 di (vc (qB 5))) (br 2)) (qO (gk (wG (xD (cj (qP 2 bv (vd (qP 2 (bp c) (vd (ic 0) (qB 5))) (qB 2))))) (xD (cj (qP 1 (b_ c) (vc (qB 2)))))) (qW (dC (.bl false))) zI) (qO (gL (y9 (vc (ic 8))) (br 6) (gk (xD (cj (qP 1 (b_ c) (vc (qP 2 cb (vd (qB 4) (qB 2))))))) (qW (dC (.bl false))) zI)) (qO (gL (vJ (zL (qA (dC .non) (qA (ic 7) (qA (dC (.bl true)) (vg (zL (vc (dC (.str "0,0")))) (xI (vc (dC (.str "0,0")))) kM (qB 5))))))) (br 7) (gk (cj (d2 k_ (qP 2 (bp c) (vd (ic 1) (qB 7))) (dC (.str "text")))) (qW (dC (.bl false))) zI)) (gk (cj (d2 k_ (qP 2 (bp c) (vd (ic 0) (qP 2 df (vd (qB 4) (qB 5))))) (dC (.str "lot")))) (qW (dC (.bl false))) zI)))))))) (qW (dC (.bl true)))))))))
end _K
namespace _K
open _D
variable {cl:ag}{m i:Ah}{lo hi:Ak Am}{w:An}{f:DE}{Q:D->aq->Prop}{S:aq}{ak:qE}
theorem FO {d:D}(h:Pn d)(S:aq):fx [d] S=.ok (.bl (yw d)) S:=by
 rw[gS];obtain⟨p,h⟩:=h;cases d <;> first|kernel_rfl!|simp[qq] at h
theorem UJ {d:D}(h:Pn d)(a b:Am)(S:aq):e_ [d,.int a,.int b] S=.ok (.bl (inR a b d)) S:=by
 rw[jR];refine zT (zE (ak:=[Ab d,Ab (.int a),Ab (.int b)]) rfl ?_);rfl';refine pX ?_;rfl';refine qL (FO h S) ⟨_,rfl,λe=>?_,λe=>?_⟩
 .cases d with
  |int i=>exact pY rfl rfl rfl ⟨rfl,rfl⟩
  |_=>cases e
 .cases d <;> first|exact⟨rfl,rfl⟩|cases e
theorem mT {d:D}(h:Pn d)(S:aq):d_ [d] S=.ok (.bl (x3 d)) S:=by
 rw[gR];refine zT (zE (ak:=[Ab d]) rfl ?_);rfl';refine w6 ?_;rfl';refine qL (dH h S) ?_;rfl';refine⟨λe=>?_,λe=>?_⟩
 .rfl'
  exact⟨by rw[ZR (by simpa using e)],rfl⟩
 .cases d with
  |tup U =>
   rfl';refine wA (λe=>?_) λe=>?_
   .rfl'
    refine x9 (c_:=id) (o:=none) U (λx=>.bl (kz x)) (λak Y=>Y=S/\∃ a,ak=[a]) ((tX rfl).trans (by rw[Lp])) ⟨rfl,none,rfl⟩ (by unfold bb;lia) (λ_ _ _=>trivial) (λx N ak Y ⟨J,a,G⟩=>?_) λak Y ⟨J,_⟩=>?_
    .subst J G
     rfl';exact qL (UJ (mQ h x N) _ _ _) ⟨rfl,rfl,_,rfl⟩
    .subst J
     rfl';exact pW ⟨by rw[ZP li],rfl⟩
   .rfl'
    exact⟨by rw[ZQ li],rfl⟩
  |_=>cases e
theorem UI (Y:Aa Pt)(O:Y.length<=1000)(S:aq):ff [gD Y] S=.ok (.bl (mj (Y.map kP))) S:=by
 rw[jQ];refine zT (zE (ak:=[Ab (.tup (Y.map bu))]) rfl ?_);rfl';have G:xE (tL (qA (qB 0) (qA (ka (qB 0) (z0 (dC (.int 1))) zH) qC))) [Ab (.tup (Y.map bu))] S=.ok (none,(((Y.map kP).zip ((Y.map kP).drop 1)).map λp=>D.tup [lw p.1,lw p.2])) S:=by
  show ba.ok (none,yV (Y.map bu) (zX (Y.map bu) (Ab 1) none)) S=_;rw[E8,jY,<- Xq,E5]
 refine x9 _ (λp=>.bl (_H.lexLt p.1 p.2)) (λak J=>J=S/\∃ a b,ak=[a,b]) G ⟨rfl,none,none,rfl⟩ ?_ (λ_ _ _=>trivial) (λx C ak J ⟨U,a,b,N⟩=>?_) λak J ⟨U,_⟩=>?_
 .rw[Vb,Aq]
  unfold bb
  lia
 .subst U N
  rfl';exact qL (HB _ _ _) ⟨rfl,rfl,_,_,rfl⟩
 .subst U
  rfl';exact pW ⟨rfl,rfl⟩
theorem fH {d:D}(h:Pn d)(S:aq):gq [d] S=.ok (.bl (xU d)) S:=by
 rw[bB];refine zT (zE (ak:=[Ab d]) rfl ?_);rfl';refine w6 ?_;rfl';refine qL (dH h S) ?_;rfl';refine⟨λe=>?_,λe=>?_⟩
 .rfl'
  exact⟨by rw[cQ (by simpa using e)],rfl⟩
 .cases d with
  |tup Y =>
   rfl';refine pY (b:=(Y.length:Am)) rfl rfl rfl ?_;rfl';refine wA (λz=>?_) λz=>?_
   .have C:1<=Y.length/\Y.length<=40:=by lia
    rfl';refine pX ?_;rfl';refine x9 (c_:=id) (o:=none) Y (λx=>.bl (x3 x)) (λak O=>O=S/\∃ a,ak=[a]) ((tX rfl).trans (by rw[Lp])) ⟨rfl,none,rfl⟩ (by unfold bb;lia) (λ_ _ _=>trivial) (λx B ak O ⟨N,a,L⟩=>?_) λak O ⟨N,_⟩=>?_
    .subst N L
     rfl';exact qL (mT (mQ h x B) _) ⟨rfl,rfl,_,rfl⟩
    .subst N
     rfl';refine pW ⟨_,rfl,λG=>?_,λG=>?_⟩
     .obtain⟨J,rfl,_⟩:=kD G
      rw[Aq] at C;rfl';refine qL (UI J li _) ⟨?_,rfl⟩;show _=D.bl (decide (1<=(J.map bu).length/\(J.map bu).length<=40)&&(J.map bu).all x3&&(match w9 (J.map bu) with|some U=>mj U|none=>false))
      rw[G,Aq,Dl C,jY,jC];rfl
     .refine⟨?_,rfl⟩
      show _=D.bl (decide (1<=Y.length/\Y.length<=40)&&Y.all x3&&(match w9 Y with|some U=>mj U|none=>false))
      rw[G,Ls,Hx]
   .rfl'
    refine⟨?_,rfl⟩;show _=D.bl (decide (1<=Y.length/\Y.length<=40)&&Y.all x3&&(match w9 Y with|some U=>mj U|none=>false))
    rw[Co li,Hx,Hx]
  |_=>cases e
theorem eY (c:Cl){d:D}(S:aq)(h:Pn d)(k:xU d=true):dz c [d] S=.ok .non S:=by
 rw[vO];refine zT (zE (ak:=[Ab d]) rfl ?_);rfl';refine qL (fH h S) ?_;rw[k];rfl';exact⟨rfl,rfl⟩
theorem eX (c:Cl){d:D}(S:aq)(h:Pn d)(k:xU d=false):dz c [d] S=.ex (.ref c.NoLot) .non S:=by
 rw[vO];refine WH (ak:=[Ab d]) (bj:=[Ab d]) rfl ?_;exact ET (zT (LR (IV (XG (uI (o_v rfl (mL ⟨rfl,qL ((fH h S).trans (by rw[k])) ⟨_,rfl,rfl,rfl⟩⟩))))))) (rX _ _ _ _)
theorem xO {p:Ah}{m:Am}(h:xX S p)(hm:0<m/\m<1073741824)(q:∀ (r:Ah) N,Kp p S N->(r:Am)<m->Q (.int r) N):Ok (a_ [.loc p,.int m] S) Q:=by
 have J:∀ r v f:Am,0<=r->r<m->Q (.int r) (S.set p (.lst [.int v,.int f])):=λr v f B T=>by
  obtain⟨r,rfl⟩:=Ud B;obtain⟨I,E,e⟩:=h;have Y:=(Ce.mp e).1;exact q r _ ⟨⟨v,f,by simp[Y]⟩,by simp,λi hi O=>Er (Fm O)⟩ T
 obtain⟨v,f,e⟩:=h;have Y:=(Ce.mp e).1;rw[jM];refine zE (ak:=[Ab (.loc p),Ab (.int m),none]) rfl ?_;rfl';refine j7 e (d:=.int f) rfl ?_;rfl';refine wA (λz=>?_) λz=>?_
 .rfl'
  refine j7 e (d:=.int v) rfl ?_;rfl';refine j7 e (d:=.int v) rfl ?_;rfl';refine XM e rfl ?_;rfl';exact J _ _ _ (Mt _ om) (Kn _ hm.1)
 .rfl'
  refine j7 e (d:=.int v) rfl ?_;have hv:=Mt v (show (2147483629:Am)≠0 by fin2)
  have C:=Kn v (show (0:Am)<2147483629 by fin2)
  rfl';have L:=Mt (v % 2147483629*48271+11) (show (2147483629:Am)≠0 by fin2)
  have U:=Kn (v % 2147483629*48271+11) (show (0:Am)<2147483629 by fin2)
  generalize (v % 2147483629*48271+11) % 2147483629=w at L U;refine XM e rfl ?_;have G:(S.set p (MO.lst [.int w,.int f]))[p]? = Ab (.lst [.int w,.int f]):=by simp[Y]
  rfl';refine j7 G (d:=.int w) rfl ?_;rfl';refine j7 G (d:=.int w) rfl ?_;rfl';refine j7 G (d:=.int w) rfl ?_;rfl';exact J _ _ _ (Mt _ om) (Kn _ hm.1)
theorem HL {x:Am}(q:∀ p Y,xX Y p->Q (.loc p) Y):Ok (fy [.int x] S) Q:=by
 rw[gQ];refine zE (ak:=[Ab (.int x)]) rfl ?_;rfl';refine qL (d:=.int 1000000000000000000) rfl ?_;rfl';refine qL (d:=.int (xa (decide (1000000000000000000<=x)))) rfl ?_;rfl';exact q _ _ ⟨_,_,tH _ _⟩
theorem FL (Y:Aa Am)(O:Y.length<=63)(k:Am){Q:Aa D->aq->Prop}{ak:qE}{S:aq}(h0:ak[0]? = Ab (Ab (.lst (Y.map D.int))))(q:∀ J:Aa Am,Q (J.map D.int) S):Ok (vJ (d2 qV (zL (qA (qP 2 dj (qA (qB 0) (qA (dC (.int 0)) qC))) qC)) (ka (qB 0) (z0 (dC (.int 1))) (z0 (dC (.int k))))) ak S) Q:=by
 have N:∃ x:Am,dj [.lst (Y.map D.int),.int 0] S=.ok (.int x) S:=by
  rw[jL];cases Y with
  |nil=>exact⟨0,zT (zE (ak:=[Ab (.lst []),Ab (.int 0)]) rfl (by rfl';exact⟨rfl,rfl⟩))⟩
  |cons n Y =>
   refine⟨n,zT (zE (ak:=[Ab (.lst ((n::Y).map D.int)),Ab (.int 0)]) rfl ?_)⟩;rfl';refine wA (λ_=>?_) λe=>absurd (by rw[Aq,Bc];fin2) e
   rfl';exact mK (tI (a:=0) (by simp)) ⟨rfl,rfl⟩
 obtain⟨x,U⟩:=N;refine BH (o_2 (HJ (uI (XG (uI (o_v h0 ?_))))));rfl';refine qL U ?_;rfl';refine o_v h0 ?_;rfl';have G:zX (Y.map D.int) (Ab 1) (Ab k)=((Y.drop (_H.bx (Y.map D.int).length 0 (Ab 1))).take (_H.bx (Y.map D.int).length (Y.map D.int).length (Ab k)-_H.bx (Y.map D.int).length 0 (Ab 1))).map D.int:=by
  unfold zX;rw[Ss,Xq]
 rw[G];refine xN ?_ ⟨_,rfl,q (x::_)⟩;rw[Aq,Dn,Ez];show 1+_<=bb;unfold bb;fin2
theorem HC (nd:cl.Nodup){i j:Ah}{a b:Af}(G:cl[i]? = Ab a)(J:cl[j]? = Ab b)(h:i≠j):(a == b)=false:=by
 rw[Jv];rintro rfl;obtain⟨O,U⟩:=Ce.mp G;obtain⟨N,Y⟩:=Ce.mp J;exact h ((Ti nd).mp (U.trans Y.symm))
theorem K0 {C B:Af}(Y:C∈cl)(J:B∈cl)(q:Q (.bl (C == B)) S):Ok (zR cl [.exn (.ref C),.obj B] S) Q:=by
 refine⟨_,_,?_,q⟩;show (if (cl.contains C&&cl.contains B)=true then ba.ok (D.bl (C == B)) S else .bad)=_
 rw[Fx.mpr Y,Fx.mpr J];rfl
theorem K1 {C:Af}(Y:C∈cl)(q:Q (.bl true) S):Ok (zR cl [.exn (.ref C),.ty "ValueError"] S) Q:=by
 refine⟨_,_,?_,q⟩;show (if (cl.contains C&&(("ValueError" : Eg) == "ValueError"))=true then ba.ok (D.bl true) S else .bad)=_
 rw[Fx.mpr Y];rfl
theorem JW (nd:cl.Nodup){i j:Ah}{a b:Af}(J:cl[i]? = Ab a)(Y:cl[j]? = Ab b):decide (i=j)=(a == b):=by
 by_cases h:i=j
 .subst h
  cases J.symm.trans Y;rw[Dl rfl,EQ]
 .rw[Co h,HC nd J Y h]
theorem o9 (c:Cl)(nd:(zZ c).Nodup)(S:aq):bq c [.exn (.ref c.NoLot)] S=.ok (.str "lot") S:=by
 have s:∀ {Q:D->aq->Prop} (j:Ah) {B:Af},(zZ c)[j]? = Ab B->Q (.bl (decide (1=j))) S->Ok (zR (zZ c) [.exn (.ref c.NoLot),.obj B] S) Q:=λj B h q=>K0 (Cb (i:=1) rfl) (Cb h) (JW nd (i:=1) rfl h▸q);have v:∀ {Q:D->aq->Prop},Q (.bl true) S->Ok (zR (zZ c) [.exn (.ref c.NoLot),.ty "ValueError"] S) Q:=λq=>K1 (C:=c.NoLot) (Cb (i:=1) rfl) q;rw[wY];refine zT (zE (ak:=[Ab (.exn (.ref c.NoLot)),none,none]) rfl ?_);rfl';refine s 0 rfl ?_;rfl';refine s 1 rfl ?_;rfl';refine s 2 rfl ?_;rfl';refine s 3 rfl ?_;rfl';refine s 4 rfl ?_;rfl';refine s 5 rfl ?_;rfl';refine s 6 rfl ?_;rfl';refine s 7 rfl ?_;rfl';refine xN (By rfl) ?_;rfl';refine s 8 rfl ?_;rfl';refine s 9 rfl ?_;rfl';refine s 10 rfl ?_;rfl';refine xN (By rfl) ?_;rfl';refine w6 ?_;rfl';refine v ?_;rfl';refine⟨(λe=>by cases e),λ_=>?_⟩
 rfl';refine qL (d:=.int 1) (S:=S) (by kernel_rfl!) ?_
 rfl';refine wA (λ_=>?_) λe=>absurd rfl e;rfl';refine s 9 rfl ?_;rfl';refine wA (λe=>absurd e (by decide)) λ_=>?_
 rfl';refine s 10 rfl ?_;rfl';refine wA (λe=>absurd e (by decide)) λ_=>?_
 rfl';refine qL (d:=.int 1) (S:=S) (by kernel_rfl!) ?_
 exact mK (d:=.str "lot") rfl ⟨rfl,rfl⟩
theorem eU (c:Cl)(nd:(zZ c).Nodup)(S:aq):bq c [.exn (.ref c.NoText)] S=.ok (.str "text") S:=by
 have s:∀ {Q:D->aq->Prop} (j:Ah) {B:Af},(zZ c)[j]? = Ab B->Q (.bl (decide (6=j))) S->Ok (zR (zZ c) [.exn (.ref c.NoText),.obj B] S) Q:=λj B h q=>K0 (Cb (i:=6) rfl) (Cb h) (JW nd (i:=6) rfl h▸q);have v:∀ {Q:D->aq->Prop},Q (.bl true) S->Ok (zR (zZ c) [.exn (.ref c.NoText),.ty "ValueError"] S) Q:=λq=>K1 (C:=c.NoText) (Cb (i:=6) rfl) q;rw[wY];refine zT (zE (ak:=[Ab (.exn (.ref c.NoText)),none,none]) rfl ?_);rfl';refine s 0 rfl ?_;rfl';refine s 1 rfl ?_;rfl';refine s 2 rfl ?_;rfl';refine s 3 rfl ?_;rfl';refine s 4 rfl ?_;rfl';refine s 5 rfl ?_;rfl';refine s 6 rfl ?_;rfl';refine s 7 rfl ?_;rfl';refine xN (By rfl) ?_;rfl';refine s 8 rfl ?_;rfl';refine s 9 rfl ?_;rfl';refine s 10 rfl ?_;rfl';refine xN (By rfl) ?_;rfl';refine w6 ?_;rfl';refine v ?_;rfl';refine⟨(λe=>by cases e),λ_=>?_⟩
 rfl';refine qL (d:=.int 1) (S:=S) (by kernel_rfl!) ?_
 rfl';refine wA (λ_=>?_) λe=>absurd rfl e;rfl';refine s 9 rfl ?_;rfl';refine wA (λe=>absurd e (by decide)) λ_=>?_
 rfl';refine s 10 rfl ?_;rfl';refine wA (λe=>absurd e (by decide)) λ_=>?_
 rfl';refine qL (d:=.int 6) (S:=S) (by kernel_rfl!) ?_
 exact mK (d:=.str "text") rfl ⟨rfl,rfl⟩
theorem NK (x:An)(S:aq):j_ (.str x) (.str x) S=.ok (.bl true) S:=by
 unfold j_;rw[show (pl xT (.str x))=true from rfl]
 show ba.ok (D.bl (x == x)) S=_;rw[EQ]
def sq (b:As)(Y:Aa D):D:=match b with
 |true=>.tup Y
 |false=>.lst Y
theorem J9 (Y:Aa D):yV Y Y=Y.map λx=>D.tup [x,x]:=by
 induction Y with
 |nil=>rfl
 |cons w Y J=>exact congrArg (D.tup [w,w]::·) J
theorem eC (F:DF)(b:As)(Y:Aa D)(S:aq)(hw:Y.length<=bb)(L:∀ x∈Y,F [x,x] S=.ok (.bl true) S):qQ 4 (cw F) [sq b Y,sq b Y] S=.ok (.bl true) S:=by
 have U:zO [sq b Y,.ty "list"] S=.ok (.bl (!b)) S:=by cases b <;> kernel_rfl!
 have G:zO [sq b Y,.ty "tuple"] S=.ok (.bl b) S:=by cases b <;> kernel_rfl!
 have l:xJ [sq b Y] S=.ok (.int Y.length) S:=by cases b <;> rfl
 have n:∀ x:As,k_ (.bl x) (.bl x) S=.ok (.bl false) S:=λx=>by cases x <;> rfl
 have B:Ok (tL (qA (qB 0) (qA (qB 1) qC)) [Ab (sq b Y),Ab (sq b Y),none,none] S) λC J=>C=Y.map (λx=>D.tup [x,x])/\J=S:=by
  rw[<- J9];cases b <;> exact⟨_,_,rfl,rfl,rfl⟩
 refine zT (zE (ak:=[Ab (sq b Y),Ab (sq b Y),none,none]) rfl ?_);rfl';refine qL (d:=.bl false) (S:=S) (by cases b <;> rfl) ?_
 rfl';refine zJ (Q:=λd J=>d=true/\J=S) (w6 ?_) ?_
 .rfl';refine qL G ?_
  rfl';refine⟨λe=>⟨rfl,rfl⟩,λe=>?_⟩;rfl';refine qL U ?_;rfl';rw[e];exact⟨rfl,rfl⟩
 rintro _ S ⟨rfl,rfl⟩;rfl';refine w6 ?_;rfl';refine qL G ?_;rfl';refine qL G ?_;rfl';refine qL (n _) ?_;rfl';refine⟨(λe=>by cases e),λ_=>?_⟩
 rfl';refine qL U ?_;rfl';refine qL U ?_;rfl';refine qL (n _) ?_;rfl';refine qL l ?_;rfl';refine qL l ?_;rfl';refine wA (λ_=>?_) λe=>absurd rfl e;rfl';refine zJ B ?_;rintro _ S ⟨rfl,rfl⟩;refine uR (λO ak J=>(∀ x∈O,x∈Y)/\J=S/\∃ a c,ak=[Ab (sq b Y),Ab (sq b Y),a,c]) ?_ ?_ ⟨λ_ h=>h,rfl,_,_,rfl⟩
 .rintro x O _ S ⟨N,rfl,a,c,rfl⟩
  rfl';refine qL (L x (N x (.head _))) ?_;rfl';exact t9 ⟨λy T=>N y (.tail _ T),rfl,_,_,rfl⟩
 .rintro _ S ⟨_,rfl,a,c,rfl⟩
  rfl';exact⟨rfl,rfl⟩
theorem aM (F:DF){d:D}(S:aq)(h1:uo d .non S=.ok (.bl false) S)(h2:zO [d,.ty "tuple"] S=.ok (.bl false) S)(Y:zO [d,.ty "list"] S=.ok (.bl false) S)(h3:zO [d,.ty "str"] S=.ok (.bl false) S){b:As}(J:zO [d,.ty "bool"] S=.ok (.bl b) S)(G:zO [d,.ty "int"] S=.ok (.bl true) S)(U:j_ d d S=.ok (.bl true) S):qQ 4 (cw F) [d,d] S=.ok (.bl true) S:=by
 refine zT (zE (ak:=[Ab d,Ab d,none,none]) rfl ?_);rfl';refine qL h1 ?_;rfl';refine w6 ?_;rfl';refine qL h2 ?_;rfl';refine⟨(λe=>by cases e),λ_=>?_⟩
 rfl';refine qL Y ?_;rfl';refine qL h3 ?_;rfl';refine pX ?_;rfl';refine qL J ?_;rfl';refine qL J ?_;rfl';refine qL (d:=.bl true) (S:=S) (by cases b <;> rfl) ⟨_,rfl,λ_=>?_,λe=>by cases e⟩
 rfl';refine pX ?_;rfl';refine qL G ⟨_,rfl,λ_=>?_,λe=>by cases e⟩
 rfl';exact qL U ⟨rfl,rfl⟩
theorem UP (F:DF)(x:An)(S:aq):qQ 4 (cw F) [.str x,.str x] S=.ok (.bl true) S:=by
 refine zT (zE (ak:=[Ab (.str x),Ab (.str x),none,none]) rfl ?_);rfl';refine qL (d:=.bl false) (S:=S) rfl ?_;rfl';refine w6 ?_;rfl';refine qL (d:=.bl false) (S:=S) (by kernel_rfl!) ?_
 rfl';refine⟨(λe=>by cases e),λ_=>?_⟩
 rfl';refine qL (d:=.bl false) (S:=S) (by kernel_rfl!) ?_
 rfl';refine qL (d:=.bl true) (S:=S) (by kernel_rfl!) ?_
 rfl';refine pX ?_;rfl';refine qL (d:=.bl true) (S:=S) (by kernel_rfl!) ⟨_,rfl,λ_=>?_,λe=>by cases e⟩
 rfl';exact qL (NK x S) ⟨rfl,rfl⟩
def ti:Ah->D->Prop
 |n+1,.tup Y=>Y.length<=bb/\∀ x∈Y,ti n x
 |n+1,.lst Y=>Y.length<=bb/\∀ x∈Y,ti n x
 |_,.int _=>NE
 |_,.bl _=>NE
 |_,.str _=>NE
 |_,_=>Fb
theorem mY (F:DF){d:D}(S:aq)(h:ti 0 d):qQ 4 (cw F) [d,d] S=.ok (.bl true) S:=by
 cases d with
 |int i=>exact aM _ S rfl (by kernel_rfl!) (by kernel_rfl!) (by kernel_rfl!) (b:=false) (by kernel_rfl!) (by kernel_rfl!) (zT (IS ⟨by rw[Dl rfl],rfl⟩))
 |bl b=>exact aM _ S rfl (by kernel_rfl!) (by kernel_rfl!) (by kernel_rfl!) (b:=true) (by kernel_rfl!) (by kernel_rfl!) (by cases b <;> rfl)
 |str x=>exact UP _ x S
 |_=>exact Ao h
theorem WJ:∀ (n:Ah) (d:D) (S:aq),ti n d->mX (n+1) [d,d] S=.ok (.bl true) S:=by
 intro n
 induction n with
 |zero=>exact λd S h=>mY _ S h
 |succ n U =>
  intro d S h;cases d with
  |tup Y=>exact eC _ true Y S h.1 λx J=>U x S (h.2 x J)
  |lst Y=>exact eC _ false Y S h.1 λx J=>U x S (h.2 x J)
  |int i=>exact mY _ S trivial
  |bl i=>exact mY _ S trivial
  |str i=>exact mY _ S trivial
  |_=>exact Ao h
theorem rW {d:D}(S:aq)(h:ti 3 d):bv [d,d] S=.ok (.bl true) S:=by
 rw[jO];exact WJ 3 d S h
theorem X9 (x:An)(S:aq):k_ (.str x) (.str x) S=.ok (.bl false) S:=by
 unfold k_;rw[show (pl xT (.str x))=true from rfl]
 show ba.ok (D.bl (!(x == x))) S=_;rw[EQ];rfl
theorem JU {n:Ah}(e:ak[i]? = Ab (Ab (.int (n:Am))))(h:n<=1000000):xE (y9 (qA (qB i) qC)) ak S=.ok (none,(Cg n).map λ(i:Ah)=>D.int (i:Am)) S:=zT (qU (oH (uI (o_v e (mL ⟨_,oP n h,_,_,rfl,rfl,rfl⟩)))))
theorem o7 {k:Am}(e:ak[i]? = Ab (Ab (.int k)))(h:0<=k/\k<=1000000):xE (y9 (qA (qB i) qC)) ak S=.ok (none,(Cg k.toNat).map λ(i:Ah)=>D.int (i:Am)) S:=JU (by rw[Xp h.1];exact e) li
def Bx (w:Am)(x:Pt):Prop:=-w<=x.1/\x.1<=w /\ -w<=x.2/\x.2<=w
theorem a8 {p:Ah}{w:Am}(hw:1<=w/\w<=1000){S:aq}(h:xX S p)(q:∀ x Y,Kp p S Y->Bx w x->Q (bu x) Y):Ok (cz [.loc p,.int w] S) Q:=by
 rw[uT];refine zE (ak:=[Ab (.loc p),Ab (.int w)]) rfl ?_;rfl';refine xO h li λr Y J O=>?_;rfl';refine xO J.pen li λt U G N=>?_;rfl';exact q ((r:Am)-w,(t:Am)-w) U (J.trans G) ⟨by dsimp only;lia,by dsimp only;lia,by dsimp only;lia,by dsimp only;lia⟩
structure xh (n:Ah)(ps:Aa Pt):Prop where
 ne:ps≠[]
 len:ps.length<=n
 box:∀ x∈ps,ku 1000 x
theorem kD:∀ {J:Aa D},(∀ d∈J,∃ x,d=bu x/\ku 1000 x)->∃ Y:Aa Pt,J=Y.map bu/\∀ x∈Y,ku 1000 x
 |[],_=>⟨[],rfl,λ_ h=>by cases h⟩
 |d::J,h=>by
  obtain⟨x,rfl,N⟩:=h d (.head _);obtain⟨Y,rfl,G⟩:=kD λd U=>h d (.tail _ U);exact⟨x::Y,rfl,λy hy=>by
   rcases AT.mp hy with rfl|hy
   .exact N
   .exact G y hy⟩
theorem QV (xs:Aa D)(n:Ah):zX xs none (Ab (n:Am))=xs.take n:=by
 unfold zX;have J:_H.bx xs.length 0 none=0:=rfl;have Y:_H.bx xs.length xs.length (Ab (n:Am))=min n xs.length:=by
  show (if (n:Am)<0 then ((n:Am)+(xs.length:Am)).toNat else min (n:Am).toNat xs.length)=_
  rw[Bb li,Fd]
 rw[J,Y,Nat.sub_zero,List.drop_zero];rcases Nat.le_total n xs.length with h|h
 .rw[Vc h]
 .rw[Nat.min_eq_right h,Es h,Es (Av _)]
theorem nF {fe:DE}{Y:Aa Pt}(g:Pt->Pt)(e:ak[8]? = Ab (Ab (.lst (Y.map bu))))(B:Y.length<=100)(step:∀ x:Pt,Ok (fe [Ab (.int x.1),Ab (.int x.2)] S) λd G=>d=bu (g x)/\G=S)(q:Q (.lst ((Y.map g).map bu)) S):Ok (qZ false [none,none] (ju (qB 8)) (m_ 2 (zW (br 0) (zW (br 1) y7))) zY (zC fe) ak S) Q:=by
 refine x9 (c_:=bu) (o:=none) Y (λx=>bu (g x)) (λak J=>J=S/\∃ a b,ak=[a,b]) (VD e) ⟨rfl,none,none,rfl⟩ (by unfold bb;lia) (λ_ _ _=>trivial) (λx C ak J ⟨U,a,b,N⟩=>?_) λak J ⟨U,_⟩=>?_
 .subst U N
  obtain⟨d,G,O,rfl,rfl⟩:=step x;exact⟨_,_,rfl,_,_,rfl,rfl,_,_,O,rfl,rfl,_,_,rfl⟩
 .subst U
  rw[Fg] at q;exact q
theorem HI {p:Ah}(h:xX S p)(q:∀ (l:Aa Pt) S',xX S' p->xk 40 l->Q (gD l) S'):Ok (fz [.loc p,.int 40] S) Q:=by
 rw[gP];refine zE (ak:=[Ab (.loc p),Ab (.int 40),none,none,none,none,none,none,none]) rfl ?_;rfl';refine xO h li λA S1 k1 h1=>?_;rfl';refine xO k1.pen li λm S2 k2 h2=>?_;obtain⟨Y,em,hm⟩:∃ Y:Am,1+(m:Am)=Y/\1<=Y/\Y<=40:=⟨_,rfl,by lia,by lia⟩
 rfl';rw[em];refine xO k2.pen li λr S3 e h3=>?_;refine dM (show r<5 by lia) λd g=>?_
 obtain⟨wide,rfl,hw⟩:∃ w:Am,d=.int w/\1<=w/\w<=1000:=by
  simp only[AT,Dp,Hk] at g;rcases g with rfl|rfl|rfl|rfl|rfl <;> exact⟨_,rfl,by lia⟩
 rfl';refine a8 (w:=400) li e.pen λa S4 b ha=>?_;rfl';refine xO b.pen li λst S5 n h5=>?_;rfl';have t:1<=1+(st:Am)/\1+(st:Am)<=9:=by lia
 generalize 1+(st:Am)=st at t;have c:=n.pen;clear k1 k2 e b n h1 h2 h3 h5 g em;refine BF (c_:=λ(i:Ah)=>D.int (i:Am)) (o:=none) (Cg Y.toNat) (λd=>∃ x,d=bu x/\ku 1000 x) (λak S'=>xX S' p/\∃ z,ak=[z,Ab (.loc p),Ab (.int wide)]) (o7 rfl li) ⟨c,none,rfl⟩ (by rw[Eb];unfold bb;lia) (λ_ _ _=>trivial) (λx J ak S' ⟨L,z,j⟩=>?_) λds ak S6 u s ⟨c,_⟩=>?_
 .subst j
  rfl';refine a8 (w:=wide) li L λy S7 k7 k=>?_;unfold Bx at k;exact⟨⟨y,rfl,by unfold ku;lia⟩,k7.pen,_,rfl⟩
 obtain⟨G,rfl,hb⟩:=kD s;rw[Aq,Eb] at u;have C:xh 80 G:=⟨λz=>(by rw[z] at u;simp only[Dd] at u;lia),by lia,hb⟩
 clear s u hb;unfold Bx at ha;have zb:Y.toNat<=40:=by lia
 array_get_dec;array_get_dec;refine Q5 (λak S'=>S'=S6/\∃ E I,ak=[Ab (.loc p),Ab (.int 40),Ab (.int A),Ab (.int Y),Ab (.int wide),Ab (bu a),Ab (.int st),Ab (.lst (E.map bu)),I]/\xh 80 E) (λP' H=>?_) ?_
 .rfl'
  refine wA (λz=>?_) λz=>?_
  .rfl'
   refine x9 (c_:=λ(i:Ah)=>D.int (i:Am)) (o:=none) (Cg Y.toNat) (λ(i:Ah)=>bu (a.1+(i:Am) % 4,a.2+(i:Am)/4)) (λak S'=>S'=S6/\∃ z,ak=[z,Ab (bu a)]) (o7 rfl li) ⟨rfl,none,rfl⟩ (by rw[Eb];unfold bb;lia) (λ_ _ _=>trivial) (λx J ak S' ⟨L,z,j⟩=>?_) λak S' ⟨L,_⟩=>?_
   .subst L j
    rfl';exact⟨_,rfl⟩
   .subst L
    rfl';refine H _ _ ⟨rfl,(Cg Y.toNat).map λ(i:Ah)=>(a.1+(i:Am) % 4,a.2+(i:Am)/4),_,by rw[Fg];rfl,⟨λz=>?_,by rw[Aq,Eb];lia,λx J=>?_⟩⟩
    .have:=congrArg Ie z
     rw[Aq,Eb] at this;simp only[Dd] at this
     lia
    .obtain⟨i,hi,rfl⟩:=Dj.mp J
     have hi:=Ei.mp hi;unfold ku;dsimp only
     lia
  .rfl'
   exact H _ _ ⟨rfl,G,_,rfl,C⟩
 clear C;rintro _ S' ⟨rfl,G,I,rfl,C⟩;refine Q5 (λak N=>N=S'/\∃ E I,ak=[Ab (.loc p),Ab (.int 40),Ab (.int A),Ab (.int Y),Ab (.int wide),Ab (bu a),Ab (.int st),Ab (.lst (E.map bu)),I]/\xh 80 E) (λP' H=>?_) ?_
 .rfl'
  refine wA (λz=>?_) λz=>?_
  .rfl'
   refine x9 (c_:=λ(i:Ah)=>D.int (i:Am)) (o:=none) (Cg Y.toNat) (λ(i:Ah)=>bu (a.1+st*(i:Am),a.2-(i:Am))) (λak N=>N=S'/\∃ z,ak=[z,Ab (bu a),Ab (.int st)]) (o7 rfl li) ⟨rfl,none,rfl⟩ (by rw[Eb];unfold bb;lia) (λ_ _ _=>trivial) (λx J ak N ⟨L,z,j⟩=>?_) λak N ⟨L,_⟩=>?_
   .subst L j
    rfl';exact⟨_,rfl⟩
   .subst L
    rfl';refine H _ _ ⟨rfl,(Cg Y.toNat).map λ(i:Ah)=>(a.1+st*(i:Am),a.2-(i:Am)),_,by rw[Fg];rfl,⟨λz=>?_,by rw[Aq,Eb];lia,λx J=>?_⟩⟩
    .have:=congrArg Ie z
     rw[Aq,Eb] at this;simp only[Dd] at this
     lia
    .obtain⟨i,hi,rfl⟩:=Dj.mp J
     have hi:=Ei.mp hi;have h1:=Int.mul_le_mul (show st<=9 by lia) (show (i:Am)<=40 by lia) li li
     have h2:=Int.mul_nonneg (show 0<=st by lia) (show 0<=(i:Am) by lia)
     unfold ku;dsimp only
     lia
  .rfl'
   exact H _ _ ⟨rfl,G,_,rfl,C⟩
 clear C;rintro _ S' ⟨rfl,G,I,rfl,C⟩;refine Q5 (λak N=>N=S'/\∃ E I,ak=[Ab (.loc p),Ab (.int 40),Ab (.int A),Ab (.int Y),Ab (.int wide),Ab (bu a),Ab (.int st),Ab (.lst (E.map bu)),I]/\xh 80 E) (λP' H=>?_) ?_
 .rfl'
  refine wA (λz=>?_) λz=>?_
  .rfl'
   obtain⟨U,hk,v⟩:∃ U:Ah,1+Y/4=((U:Ah):Am)/\1<=U/\U<=11:=⟨(1+Y/4).toNat,by lia,by lia,by lia⟩
   rw[hk,QV,<- Ss];have T:(G.take U).length<=11:=by rw[Dn];lia
   have O:∀ x∈G.take U,ku 1000 x:=λx J=>C.box x (Ge J);have B:G.take U≠[]:=λz=>by
    have:=congrArg Ie z;rw[Dn] at this;have:=Im.mpr C.ne;simp only[Dd] at *
    lia
   generalize G.take U=M at T O B;rfl';refine nF (λx=>(0-x.2,x.1)) rfl li (λx=>by rfl';exact rfl) ?_
   refine xN (by rw[Aq,Aq,Aq];unfold bb;lia) ?_
   rw[<- Ic];rfl';refine nF (λx=>(0-x.1,0-x.2)) rfl li (λx=>by rfl';exact rfl) ?_
   refine xN (by simp only[Aq,Ca];unfold bb;lia) ?_
   rw[<- Ic];rfl';refine nF (λx=>(x.2,0-x.1)) rfl li (λx=>by rfl';exact rfl) ?_
   refine xN (by simp only[Aq,Ca];unfold bb;lia) ?_
   rw[<- Ic];rfl';refine H _ _ ⟨rfl,_,_,rfl,⟨λz=>?_,by simp only[Aq,Ca];lia,λx J=>?_⟩⟩
   .have:=congrArg Ie z
    have:=Im.mpr B;simp only[Aq,Ca,Dd] at *
    lia
   .simp only[Bw,Dj] at J
    rcases J with ((J|⟨y,k,rfl⟩)|⟨y,k,rfl⟩)|⟨y,k,rfl⟩
    .exact O x J
    all_goals
     have:=O y k;unfold ku at *;dsimp only
     lia
  .rfl'
   exact H _ _ ⟨rfl,G,_,rfl,C⟩
 clear C;rintro _ S' ⟨rfl,G,I,rfl,C⟩;obtain⟨U,rfl,v⟩:∃ U:Ah,Y=((U:Ah):Am)/\1<=U/\U<=40:=⟨Y.toNat,by lia,by lia,by lia⟩
 rfl';refine LS ?_;rfl';rw[QV,<- Ss];have T:(G.take U).length<=40:=by rw[Dn];lia
 have O:∀ x∈G.take U,ku 1000 x:=λx J=>C.box x (Ge J);have B:G.take U≠[]:=λz=>by
  have:=congrArg Ie z;rw[Dn] at this;have:=Im.mpr C.ne;simp only[Dd] at *
  lia
 generalize G.take U=M at T O B;refine⟨M,rfl,by lia,?_⟩
 rfl';refine q (uN M) S' c ⟨λz=>?_,Bq (UV M) T,aX M,λx J=>O x ((eF M x).mp J)⟩;obtain⟨x,r,rfl⟩:=Rp B;have:=(eF (x::r) x).mpr (.head _);rw[z] at this;cases this
theorem UH {d:D}(h:Pn d)(S:aq):dn [d] S=.ok (.bl (yw d)) S:=by
 rw[uV];obtain⟨p,h⟩:=h;cases d <;> first|kernel_rfl!|simp[qq] at h
theorem bG {d:D}(h:Pn d)(S:aq):bw [d] S=.ok (.bl (x3 d)) S:=by
 rw[vF];refine zT (zE (ak:=[Ab d]) rfl ?_);rfl';refine w6 ?_;rfl';refine qL (dH h S) ?_;rfl';refine⟨λe=>?_,λe=>?_⟩
 .rfl'
  exact⟨by rw[ZR (by simpa using e)],rfl⟩
 .cases d with
  |tup U =>
   rfl';refine wA (λe=>?_) λe=>?_
   .rfl'
    refine x9 (c_:=id) (o:=none) U (λx=>.bl (kz x)) (λak Y=>Y=S/\∃ a,ak=[a]) ((tX rfl).trans (by rw[Lp])) ⟨rfl,none,rfl⟩ (by unfold bb;lia) (λ_ _ _=>trivial) (λx N ak Y ⟨J,a,G⟩=>?_) λak Y ⟨J,_⟩=>?_
    .subst J G
     rfl';refine pX ?_;rfl';refine qL (UH (mQ h x N) _) ⟨_,rfl,λe=>?_,λe=>?_⟩
     .cases x with
      |int i=>exact pY rfl rfl rfl ⟨rfl,rfl,_,rfl⟩
      |_=>cases e
     .cases x <;> first|exact⟨rfl,rfl,_,rfl⟩|cases e
    .subst J
     rfl';exact pW ⟨by rw[ZP li],rfl⟩
   .rfl'
    exact⟨by rw[ZQ li],rfl⟩
  |_=>cases e
theorem RL (Y:Aa Pt):mj (Y.map kP)=decide (Y=uN Y):=by
 rw[Aa9,Cc,eL];constructor
 .intro h
  have e:=_S.b8 _S.pF h (_S.kG _S.pF (Y.map kP)) λx=>(_S.yF _S.pF x _).symm;unfold uN;rw[<- e,Fg];exact(Lp Y).symm
 .intro h
  have u:=aX Y;rw[<- h] at u;exact Ib.mpr u
theorem lN {d:D}(h:Pn d)(S:aq):cg [d] S=.ok (.bl (xU d)) S:=by
 rw[u4];refine zT (zE (ak:=[Ab d]) rfl ?_);rfl';refine w6 ?_;rfl';refine qL (dH h S) ?_;rfl';refine⟨λe=>?_,λe=>?_⟩
 .rfl'
  exact⟨by rw[cQ (by simpa using e)],rfl⟩
 .cases d with
  |tup Y =>
   have U:xU (.tup Y)=(decide (1<=Y.length/\Y.length<=40)&&Y.all x3&&(match w9 Y with|some L=>mj L|none=>false)):=rfl
   refine w6 ?_;rfl';refine pY (b:=(Y.length:Am)) rfl rfl rfl ?_;rfl';refine⟨λz=>?_,λz=>?_⟩
   .have z:¬(1<=Y.length/\Y.length<=40):=by simp at z;lia
    rfl';exact⟨by rw[U,Co z];rfl,rfl⟩
   .have O:1<=Y.length/\Y.length<=40:=by simp at z;lia
    rfl';refine x9 (c_:=id) (o:=none) Y (λx=>.bl (x3 x)) (λak G=>G=S/\∃ a,ak=[a]) ((tX rfl).trans (by rw[Lp])) ⟨rfl,none,rfl⟩ (by unfold bb;lia) (λ_ _ _=>trivial) (λx B ak G ⟨J,a,T⟩=>?_) λak G ⟨J,_⟩=>?_
    .subst J T
     rfl';exact qL (bG (mQ h x B) _) ⟨rfl,rfl,_,rfl⟩
    .subst J
     rfl';refine pW ?_;cases N:Y.all x3 with
     |true =>
      obtain⟨C,rfl,_⟩:=_D.kD N;rw[Aq] at O;rfl';refine LS (o_v rfl ⟨C,rfl,by lia,?_⟩)
      refine HG ⟨?_,rfl⟩;rw[U,N,Aq,Dl O,jY,jC,<- RL];rfl
     |false =>
      rfl';exact⟨by rw[U,N,Ls,Hx],rfl⟩
  |_=>cases e
noncomputable def VZ:Aa D:=[.int 1001,.int (-1001),.bl true,.bl false,.non,.str "0",.tup [.int 0],.int 100000000000000000000000000000,.lst [.int 0],.dct0]
theorem BP:∀ d∈VZ,Pn d/\kz d=false:=by
 intro d Y;simp only[VZ,AT,Dp,Hk] at Y;rcases Y with rfl|rfl|rfl|rfl|rfl|rfl|rfl|rfl|rfl|rfl <;> exact⟨⟨_,rfl⟩,rfl⟩
def oG (q:Pt)(b:D):Aa D:=[b,b,b,b,.tup [.int q.1],.tup [.int q.1,.int q.2,.int 0],.lst [.int q.1,.int q.2],.non,.int 7,.str "0,0"]++[.dct0,.tup [bu q]]
theorem VW (q:Pt){b:D}(Y:Pn b/\x3 b=false):∀ d∈oG q b,Pn d/\x3 d=false:=by
 intro d J;simp only[oG,xL,Jn,AT,Dp,Hk] at J;rcases J with rfl|rfl|rfl|rfl|rfl|rfl|rfl|rfl|rfl|rfl|rfl|rfl
 .exact Y
 .exact Y
 .exact Y
 .exact Y
 all_goals exact⟨⟨_,rfl⟩,rfl⟩
theorem KS (q:Pt){o:D}(h:Pn o/\kz o=false):(Pn (.tup [o,.int q.2])/\x3 (.tup [o,.int q.2])=false)/\(Pn (.tup [.int q.1,o])/\x3 (.tup [.int q.1,o])=false):=by
 obtain⟨⟨p,J⟩,Y⟩:=h;refine⟨⟨yR λx hx=>?_,?_⟩,⟨yR λx hx=>?_,?_⟩⟩
 .rcases AT.mp hx with rfl|hx
  .exact⟨p,J⟩
  .rw[Cu.mp hx];exact⟨_,rfl⟩
 .show (kz o&&kz (.int q.2))=false
  rw[Y,Hx]
 .rcases AT.mp hx with rfl|hx
  .exact⟨_,rfl⟩
  .rw[Cu.mp hx];exact⟨p,J⟩
 .show (kz (.int q.1)&&kz o)=false
  rw[Y,Ls]
theorem BI {p:Ah}{z:Pt}(h:xX S p)(q:∀ d S',Kp p S S'->Pn d/\x3 d=false->Q d S'):Ok (cq [.loc p,bu z] S) Q:=by
 rw[vG];refine zE (ak:=[Ab (.loc p),Ab (.tup [.int z.1,.int z.2]),none,none,none,none,none]) rfl ?_;rfl';refine xO h li λw M O l=>?_;rfl';refine xO O.pen li λa C G k=>?_;rfl';refine qL (d:=.int 100000000000000000000000000000) (S:=C) (by kernel_rfl!) ?_
 rfl';refine xO G.pen li λb I T y=>?_;refine dM (a:=VZ) (show b<10 by lia) λo L=>?_
 have N:=KS z (BP o L);rfl';have H:∃ J,(Pn J/\x3 J=false)/\(zX [D.int z.1,.int z.2] none (Ab (a:Am))++[o])++zX [D.int z.1,.int z.2] (Ab ((a:Am)+1)) none=(match J with|.tup Y=>Y|_=>[])/\(∃ Y,J=.tup Y/\Y.length=2):=by
  have:a=0\/a=1:=by lia
  rcases this with rfl|rfl
  .exact⟨_,N.1,rfl,_,rfl,rfl⟩
  .exact⟨_,N.2,rfl,_,rfl,rfl⟩
 obtain⟨_,U,E,Y,rfl,j⟩:=H;have A:(zX [D.int z.1,.int z.2] none (Ab (a:Am))).length<=2:=by
  have:a=0\/a=1:=by lia
  rcases this with rfl|rfl <;> exact By rfl
 have u:(zX [D.int z.1,.int z.2] (Ab ((a:Am)+1)) none).length<=2:=by
  have:a=0\/a=1:=by lia
  rcases this with rfl|rfl <;> exact By rfl
 refine uH (by simp only[Bc,Dd];unfold bb;lia) ?_
 rfl';refine uH (by simp only[Ca,Bc,Dd];unfold bb;lia) ?_
 rw[E];rfl';refine uH (By rfl) ?_;rfl';refine xN (By rfl) ?_;rfl';refine dM (a:=oG z (.tup Y)) (show w<12 by lia) λd B=>?_
 rfl';exact q d I ((O.trans G).trans T) (VW z U d B)
theorem LQ (q:Q (.lst ((Cg 41).map λ(i:Ah)=>D.tup [.int ((i:Am)/8),.int ((i:Am) % 8)])) S):Ok (qZ false [none] (xE (y9 (qA (dC (.int 41)) qC))) (br 0) zY (zC (xI (qA (d2 vQ (qB 0) (dC (.int 8))) (qA (d2 yK (qB 0) (dC (.int 8))) qC)))) ak S) Q:=by
 refine x9 (c_:=λ(i:Ah)=>D.int (i:Am)) (o:=none) (Cg 41) (λ(i:Ah)=>D.tup [.int ((i:Am)/8),.int ((i:Am) % 8)]) (λak Y=>Y=S/\∃ z,ak=[z]) (IL (n:=41) li) ⟨rfl,none,rfl⟩ (by rw[Eb];unfold bb;lia) (λ_ _ _=>trivial) (λx G ak Y ⟨J,z,U⟩=>?_) λak Y ⟨J,_⟩=>?_
 .subst J U
  rfl';exact⟨_,rfl⟩
 .subst J
  exact q
theorem VY {p M:Ah}(v:M<=40){l:Aa Pt}(L:xk M l){S:aq}(h:xX S p)(q:∀ d S',Kp p S S'->zi d->Q d S'):Ok (df [.loc p,gD l] S) Q:=by
 rw[u7];refine zE (ak:=[Ab (.loc p),Ab (.tup (l.map bu)),none,none,none,none,none,none]) rfl ?_;have T:0<l.length:=Im.mpr L.ne;have k:=L.len;have Y:∀ x∈l.map bu,Pn x:=λx hx=>by
  obtain⟨z,_,rfl⟩:=Dj.mp hx;exact oM z
 rfl';refine xO h li λw u B r=>?_;rfl';refine xO B.pen (by rw[Aq];lia) λa y C j=>?_
 rw[Aq] at j;have H:_L.gg (l.map bu) (a:Am)=Ab (bu (l[a]' li)):=by
  rw[tI (by rw[Aq];lia),Ow]
 have A:_L.gg (l.map bu) 0=Ab (bu (l[0]'T)):=by
  have:=tI (xs:=l.map bu) (a:=0) (by rw[Aq];exact T)
  rw[Ow] at this;exact this
 rfl';refine K3 H ?_;generalize l[a]' li=z;rfl';refine BI C.pen λo c I E=>?_;rfl';rw[QX _ a (by rw[Aq];lia)]
 refine uH (by simp only[Aq,Dn,Bc,Dd];unfold bb;lia) ?_
 rfl';rw[show (a:Am)+1=((a+1:Ah):Am) by lia,QU _ (a+1) (by rw[Aq];lia)]
 refine uH (by simp only[Ca,Aq,Dn,Ez,Bc,Dd];unfold bb;lia) ?_
 have U:Pn (.tup ((l.map bu).take a++[o]++(l.map bu).drop (a+1))):=yR λx hx=>by
  rcases Bw.mp hx with hx|hx
  .rcases Bw.mp hx with hx|hx
   .exact Y x (Ge hx)
   .rw[Cu.mp hx];exact E.1
  .exact Y x (Hz hx)
 have J:((l.map bu).take a++[o]++(l.map bu).drop (a+1)).length<=100:=by simp only[Ca,Aq,Dn,Ez,Bc,Dd];lia
 generalize (l.map bu).take a++[o]++(l.map bu).drop (a+1)=bn at U J;rfl';refine o_2 ?_;rfl';refine LU (by rw[Aq];lia) ?_
 rfl';have g:(zX (l.map bu) (Ab (-1)) none).length<=40:=by
  unfold zX;rw[Dn,Ez,Aq]
  lia
 refine uH (by rw[Aq];unfold bb;lia) ?_
 rfl';rw[show (a:Am)+1=((a+1:Ah):Am) by lia,QX _ (a+1) (by rw[Aq];lia),QU _ a (by rw[Aq];lia)]
 refine uH (by simp only[Aq,Dn,Ez];unfold bb;lia) ?_
 rfl';refine LQ ?_;rfl';refine K3 A ?_;rfl';refine xN (By rfl) ?_;rfl';refine dM (show w<14 by lia) λd N=>?_
 have O:Pn d:=by
  simp only[xL,Jn,AT,Dp,Hk] at N;rcases N with rfl|rfl|rfl|rfl|rfl|rfl|rfl|rfl|rfl|rfl|rfl|rfl|rfl|rfl
  .exact U
  .exact U
  .exact O0 Y
  .exact yR λx hx=>Y x (WO hx)
  .refine yR λx hx=>?_
   rcases Bw.mp hx with hx|hx
   .exact Y x hx
   .unfold zX at hx
    exact Y x (Hz (Ge hx))
  .refine yR λx hx=>?_
   rcases Bw.mp hx with hx|hx
   .exact Y x (Ge hx)
   .exact Y x (Hz hx)
  .exact⟨_,rfl⟩
  .exact⟨_,rfl⟩
  .exact⟨_,rfl⟩
  .exact⟨_,rfl⟩
  .exact⟨_,rfl⟩
  .exact yR λx hx=>by rw[Cu.mp hx];exact yR Y
  .refine yR λx hx=>?_
   obtain⟨i,_,rfl⟩:=Dj.mp hx;exact⟨.tuple [.int ((i:Am)/8),.int ((i:Am) % 8)],rfl⟩
  .exact oM _
 have G:=(B.trans C).trans I;rfl';refine pD ?_;rfl';refine qL (lN O _) ?_;refine⟨_,rfl,λe=>?_,λe=>?_⟩
 .rfl'
  exact q _ _ G ⟨⟨_,rfl⟩,rfl⟩
 .rfl'
  exact q _ _ G ⟨O,e⟩
theorem MY:∀ x:Ah,x<58->(Char.ofNat x).toNat=x:=by decide
open PySem.NumText in
theorem yq (l:Aa Ah)(h:AllDigits l)(G:l≠[]):(No 10 (digitsVal l)).map Mm=l↔(l.head? = Ab 48->l=[48]):=by
 rw[toDigits_all l h];cases l with
 |nil=>exact absurd rfl G
 |cons c r =>
  by_cases e:c=48
  .subst e
   rw[Xr,Ax (show ((48:Ah) == 48)=true from rfl)]
   have Y:=(List.dropWhile_sublist (l:=r) (· == 48)).length_le
   cases q:r.dropWhile (· == 48) with
   |nil =>
    simp only[AaA,true_implies];show [48]=_↔_;exact⟨λz=>z.symm,λz=>z.symm⟩
   |cons d s =>
    rw[q] at Y;simp only[AaA,true_implies];refine⟨λz=>?_,λz=>?_⟩
    .have:=congrArg Ie z
     simp only[Aq,Bc] at this Y
     lia
    .cases z
     cases q
  .rw[Xr,Bb (by rw[Qh];exact e)]
   have J:((c::r).map Char.ofNat).map Mm=c::r:=by
    rw[Fg];refine(Ml λx U=>?_).trans (Lp _);have:=h x U;exact MY x li
   exact⟨λ_ z=>absurd (Dc z) e,λ_=>J⟩
theorem gM {a b:An}(h:a.cps.toList=b.cps.toList):a=b:=Str.ext' (Tw.mp h)
theorem dP (m:Ah):(Ga (toString ((m:Ah):Am))).cps.toList=(No 10 m).map Mm:=PySem.W.KIN.signs_num m
theorem oQ (m:Ah):(Ga (toString (-((m+1:Ah):Am)))).cps.toList=45::(No 10 (m+1)).map Mm:=by
 rw[PyProof.Rows.signs_ofString];show ("-" ++ Nat.repr (m+1)).toList.map Mm=_;rw[String.toList_append,Ic,Nat.toList_repr];rfl
def w5:Aa Ah->Aa Ah
 |45::r=>r
 |l=>l
def Dg (c:Ah):As:=decide (48<=c)&&decide (c<=57)
def Gd (x:An):Prop:=w5 x.cps.toList≠[]/\(w5 x.cps.toList).length<=30/\(w5 x.cps.toList).all Dg=true
instance (x:An):Gg (Gd x):=inferInstanceAs (Gg (_/\_/\_))
def Sh (x:An):Prop:=(w5 x.cps.toList).head? = Ab 48->x.cps.toList=[48]
instance (x:An):Gg (Sh x):=inferInstanceAs (Gg (_->_))
noncomputable def nz (x:An):D:=if Gd x/\Sh x then (match intText? x with|some n=>.int n|none=>.non) else .non
set_option tactic.hygienic true in
theorem yJ (l:Aa Ah):(∃ r,l=45::r/\w5 l=r)\/((∀ r,l≠45::r)/\w5 l=l):=by
 cases l with
 |nil=>exact .inr ⟨(λr=>by simp),rfl⟩
 |cons c r =>
  by_cases e:c=45
  .subst e;exact .inl ⟨r,rfl,rfl⟩
  .refine .inr ⟨λY z=>e (Su z).1,?_⟩
   unfold w5
   split
   .rename_i h;exact absurd (Su h).1 e
   .rfl
open PySem.NumText in
theorem WV:∀ (l:Aa Ah) (a:Ah),AllDigits l->l.foldl (λav c=>av*10+(c-48)) a<(a+1)*10 ^ l.length
 |[],a,_=>by simp
 |c::l,a,h=>by
  have Y:=WV l (a*10+(c-48)) h.tail;have J:=h.head;rw[Pj,Bc];refine Az Y ?_;rw[Nat.pow_succ,Nat.mul_comm (10 ^ l.length) 10,<- Nat.mul_assoc];exact Wr _ li
open PySem.NumText in
theorem X1 {l:Aa Ah}(h:AllDigits l)(J:l.length<=30):(digitsVal l).log2<1920:=by
 have U:=WV l 0 h;have Y:10 ^ l.length<=10 ^ 30:=Nat.pow_le_pow_right (by decide) J
 by_cases e:digitsVal l=0
 .rw[e];decide
 .refine(Nat.log2_lt e).mpr (Az U ?_)
  rw[Ha,Nat.one_mul];exact Bq Y (By kd)
open PySem.NumText in
theorem TZ {l:Aa Ah}(h:l.all Dg=true):AllDigits l:=λc Y=>by
 have:=Bs.mp h c Y;unfold Dg at this;simpa using this
open PySem.NumText in
theorem aJ {x:An}(g:Gd x)(B:x.length<=640):∃ n:Am,intText? x=Ab n/\n.natAbs.log2<1920/\(Ga (toString n)=x↔Sh x):=by
 obtain⟨J,G,C⟩:=g;have Y:=TZ C;unfold Sh;rcases yJ x.cps.toList with⟨r,U,N⟩|⟨U,N⟩
 .rw[N] at J G Y ⊢
  refine⟨_,intText_neg U Y J li,by rw[Int.natAbs_neg];exact X1 Y G,?_⟩
  have k:=yq r Y J;rw[U];have O:(r.head? = Ab 48->45::r=[48])↔r.head?≠Ab 48:=⟨λh z=>(by cases (h z)),λh z=>absurd z h⟩
  rw[O];cases q:digitsVal r with
  |zero =>
   rw[q] at k;refine⟨λh=>?_,λh=>?_⟩
   .have:=congrArg (λy:An=>y.cps.toList) h
    rw[U] at this;have:=(dP 0).symm.trans this;cases this
   .have:=k.mpr λz=>absurd z h
    have:[48]=r:=this;subst this;exact absurd rfl h
  |succ m =>
   rw[q] at k;refine⟨λh z=>?_,λh=>?_⟩
   .have:=congrArg (λy:An=>y.cps.toList) h
    rw[U] at this;have:=(Su ((oQ m).symm.trans this)).2;have:=k.mp this z;subst this;cases q
   .refine gM ?_
    rw[U];exact(oQ m).trans (congrArg _ (k.mpr λz=>absurd z h))
 .rw[N] at J G Y ⊢
  refine⟨_,intText_digits Y J li,X1 Y G,?_⟩;rw[<- yq _ Y J,<- dP];exact⟨λh=>congrArg (λy:An=>y.cps.toList) h,gM⟩
theorem mU {α:Type}:∀ l:Aa α,(Cg l.length).filterMap (λi=>l[i]?)=l
 |[]=>rfl
 |a::l=>by
  rw[Bc,Kz,Fv,Qx];show a::(Cg l.length).filterMap (λi=>(a::l)[i+1]?)=_;simp only[Kg];rw[mU l]
theorem VB (n:Ah):Iy (Ab 1) none 1 n=(Cg (n-1)).map (· + 1):=by
 unfold Iy sliceRange;cases n with
 |zero=>rfl
 |succ n =>
  have e:max 0 (min (1:Am) ((n+1:Ah):Am))=1:=by lia
  simp only[show ¬ (1:Am)<0 by decide,show (1:Am)>0 by decide,Du,Ds,e,Yj]
  have Y:(if (1:Am)<((n+1:Ah):Am) then ((n+1:Ah):Am)-1+1-1 else 0).toNat=n:=by split <;> lia
  rw[Y];refine Ml λk J=>?_
  lia
theorem NY (n:Ah):Iy none (Ab 1) 1 n=Cg (min 1 n):=by
 unfold Iy sliceRange;cases n with
 |zero=>rfl
 |succ n =>
  have e:max 0 (min (1:Am) ((n+1:Ah):Am))=1:=by lia
  have Y:min 1 (n+1)=1:=by lia
  simp only[show ¬ (1:Am)<0 by decide,show (1:Am)>0 by decide,Du,Ds,e,Yj,Y]
  rfl
set_option tactic.hygienic true in
theorem FV (x:An):(Txt.slice x (Ab 1) none).cps.toList=x.cps.toList.drop 1:=by
 unfold Txt.slice;rw[VB]
 split
 .rename_i h
  have:x.length=0:=by
   simp at h
   lia
  have J:x.cps.toList=[]:=Ke.mp (by simpa [Jw] using this)
  rw[J];rfl
 .show (((Cg (x.length-1)).map (· + 1)).filterMap (x.cps[·]?)).toArray.toList=_
  rw[Xs,Qx];have k:=mU (x.cps.toList.drop 1);rw[Ez] at k;refine Eq.trans ?_ k;have Y:x.cps.toList.length=x.length:=by simp[Jw]
  rw[Y];refine congrArg (λf=>AaK f _) (funext λi=>?_);show x.cps[i+1]? = _;rw[Ra,Ba,Qb]
set_option tactic.hygienic true in
theorem CT (x:An):(Txt.slice x none (Ab 1)).cps.toList=x.cps.toList.take 1:=by
 unfold Txt.slice;rw[NY];have Y:x.cps.toList.length=x.length:=by simp[Jw]
 split
 .rename_i h
  have:x.length<=1:=by
   simp at h
   lia
  rw[Es li]
 .rename_i h
  simp at h;have J:1<=x.length:=by lia
  have e:min 1 x.length=1:=by lia
  rw[e];show (([0]:Aa Ah).filterMap (x.cps[·]?)).toArray.toList=_
  rw[Xs];cases q:x.cps.toList with
  |nil=>rw[q] at Y;simp at Y;lia
  |cons c r =>
   have:x.cps[0]? = Ab c:=by rw[<- Ba,q];rfl
   simp[AaK,this]
def dk (x:An):Prop:=∀ c∈x.cps.toList,c<128
theorem GI:((Cg 128).all λc=>Sv c == Dg c)=true:=kd
theorem GG {x:An}(h:dk x):Txt.isdecimal x=(decide (x.cps.toList≠[])&&x.cps.toList.all Dg):=by
 unfold Txt.isdecimal;have N:decide (x.length>0)=decide (x.cps.toList≠[]):=by
  have U:x.cps.toList.length=x.length:=by simp[Jw]
  refine wT.mpr ?_;rw[<- U,gt_iff_lt,Im]
 have G:x.cps.all Sv=x.cps.toList.all Dg:=by
  rw[<- Tn];have:∀ l:Aa Ah,(∀ c∈l,c<128)->l.all Sv=l.all Dg:=λl=>by
   induction l with
   |nil=>intro _;rfl
   |cons c l J =>
    intro h;rw[Me,Me,J λy Y=>h y (Bt _ Y)];have:=Bs.mp GI c (Ei.mpr (h c (Cq ..)));rw[eq_of_beq this]
  exact this _ h
 rw[N,G]
theorem oF:(Ga "-").cps.toList=[45]:=by decide
theorem VU:("-" : An)=⟨#[45]⟩:=by decide
theorem UO (x:An):(Txt.removeprefix x "-").cps.toList=w5 x.cps.toList:=by
 rw[StrLaws.removeprefix_eq,VU];have U:x.cps.toList.length=x.length:=by simp[Jw]
 have k:=Zq x 45 0;have G:(⟨#[45]⟩:An).length=1:=rfl;rw[G] at k ⊢;rcases yJ x.cps.toList with⟨r,Y,J⟩|⟨Y,J⟩
 .have:=k.mpr (by rw[Y];rfl)
  rw[Ax (by rw[Bd,Cc];exact this),J,Y]
  rw[Y,Bc] at U;show List.take _ r=r;rw[Es li]
 .rw[Bb,J]
  intro z;rw[Bd,Cc] at z;have:=k.mp z;cases q:x.cps.toList with
  |nil=>rw[q] at this;cases this
  |cons c r =>
   rw[q] at this;cases this;exact Y r q
theorem V3:("0123456789" : An).cps.toList=[48,49,50,51,52,53,54,55,56,57]:=by decide
theorem PD (c:Ah):tw ⟨#[c]⟩ "0123456789" = Dg c:=by
 have k:tw ⟨#[c]⟩ "0123456789" = true↔Dg c=true:=by
  unfold tw;rw[StrLaws.found_iff];have:(∃ i,i+(⟨#[c]⟩:An).length<=("0123456789" : An).length/\Builtin.Str.subAt "0123456789" ⟨#[c]⟩ i=true)↔c∈("0123456789" : An).cps.toList:=by
   rw[Vm];exact exists_congr λi=>Zq _ c i
  rw[this,V3];unfold Dg;simp only[AT,Dp,Hk,Bd,Cc];fin2
 cases h:tw ⟨#[c]⟩ "0123456789" <;> cases Y:Dg c <;> rw[h,Y] at k <;> simp at k <;> rfl
theorem HP {x y:An}(Y:x.length<=640)(h:Q (.str (Txt.removeprefix x y)) S):Ok (sY (.str x) [.str y] S) Q:=⟨_,_,Ax (by unfold bb;lia),h⟩
theorem rK {x:An}(Y:x.length<=1000000)(h:Q (.int x.length) S):Ok (xJ [.str x] S) Q:=by
 refine⟨_,_,?_,h⟩;have e:oC (.str x) S=Ab x.length:=Ax (by unfold bb;lia)
 show (match oC (.str x) S with|some n=>ba.ok (D.int n) S|none=>.bad)=_
 rw[e]
theorem HE {T:Eg}{m:D->Aa D->aq->ba D}(h:Ok (f ak S) λa Y=>mn a Y=Ab T/\Ok (m a [] Y) Q):Ok (iQ T m f ak S) Q:=qU (zJ h λ_ _ k=>by rw[k.1,Ax (by simp)];exact k.2)
theorem HF {x:An}(h:Q (.bl (Txt.isdecimal x)) S):Ok (sX (.str x) [] S) Q:=⟨_,_,rfl,h⟩
theorem rJ {x:An}{n:Am}(e:intText? x=Ab n)(Y:x.length<=640)(h:Q (.int n) S):Ok (kR [.str x] S) Q:=by
 refine⟨_,_,?_,h⟩;show (if x.length<=640 then (match intText? x with|some n=>ba.ok (D.int n) S|none=>.bad) else .bad)=_
 rw[Ax Y,e]
theorem rL {n:Am}(Y:n.natAbs.log2<1920)(h:Q (.str (toString n)) S):Ok (kT [.int n] S) Q:=⟨_,_,Ax Y,h⟩
theorem MT (x y:An):(x == y)=decide (x=y):=by by_cases e:x=y <;> simp[e]
theorem dJ {x y:An}(h:Q (.bl (decide (x=y))) S):Ok (j_ (.str x) (.str y) S) Q:=by
 refine⟨_,_,?_,h⟩;rw[<- MT];exact Ax (show (true&&true)=true from rfl)
theorem HK {x y:An}(h:Q (.bl (!decide (x=y))) S):Ok (k_ (.str x) (.str y) S) Q:=by
 refine⟨_,_,?_,h⟩;rw[<- MT];exact Ax (show (true&&true)=true from rfl)
theorem vW {Y J:DO}(h:Ok (f ak S) λd N=>Ok (Y ak N) λlo U=>Ok (J ak U) λhi G=>Ok (p9 d lo hi G) Q):Ok (yY f Y J ak S) Q:=qU (zJ h λ_ _ k=>qU (zJ k λ_ _=>qU))
theorem j8 {x:An}(Y:x.length<=1000000)(h:Q (.str (Txt.slice x lo hi)) S):Ok (p9 (.str x) lo hi S) Q:=⟨_,_,Ax (by unfold bb;lia),h⟩
theorem K2 {x:An}{k:Am}{c:Ah}(Y:x.length<=1000000)(e:_L.gg x.cps.toList k=Ab c)(h:Q (.str ⟨#[c]⟩) S):Ok (bV (.str x) (.int k) S) Q:=by
 refine⟨_,_,?_,h⟩;show (if x.length<=bb then (match _L.gg x.cps.toList k with|some c=>ba.ok (D.str ⟨#[c]⟩) S|none=>.bad) else .bad)=_
 rw[Ax (by unfold bb;lia),e]
theorem HH {x y:An}(h:Q (.bl (!tw x y)) S):Ok (bU true (.str x) (.str y) S) Q:=⟨_,_,rfl,h⟩
theorem vL (x:An):x.cps.toList.length=x.length:=by simp[Jw]
theorem pC {x:An}(h:¬ Gd x):nz x=.non:=Bb λz=>h z.1
theorem XB {x:An}(h:¬ Sh x):nz x=.non:=Bb λz=>h z.2
theorem rH {x:An}{n:Am}(g:Gd x)(s:Sh x)(e:intText? x=Ab n):nz x=.int n:=by
 unfold nz;rw[Ax ⟨g,s⟩,e]
theorem dW {x y:An}(h:dk x)(e:y.cps.toList=w5 x.cps.toList):dk y:=λc Y=>by
 rw[e] at Y;rcases yJ x.cps.toList with⟨r,U,J⟩|⟨U,J⟩
 .rw[J] at Y;exact h c (by rw[U];exact Bt _ Y)
 .rw[J] at Y;exact h c Y
theorem rC (l:Aa Ah):(w5 l).length<=l.length:=by
 rcases yJ l with⟨r,J,Y⟩|⟨J,Y⟩
 .rw[Y,J,Bc];lia
 .rw[Y];exact Av _
theorem CK {x:An}(L:dk x)(U:x.length<=640)(S:aq):ez [.str x] S=.ok (nz x) S:=by
 rw[jS];refine zT (zE (ak:=[Ab (.str x),none,none]) rfl ?_);rfl';refine HP U ?_;have J:=UO x;generalize Txt.removeprefix x "-" = y at J;have B:=dW L J;have E:y.length=(w5 x.cps.toList).length:=by rw[<- J,vL]
 have T:=rC x.cps.toList;rw[vL] at T;rfl';refine w6 ?_;rfl';refine rK li ?_;rfl';refine⟨λe=>?_,λe=>?_⟩
 .rfl'
  refine⟨(pC λg=>?_).symm,rfl⟩;have:=g.2.1;have:=Bz e
  lia
 .have G:(w5 x.cps.toList).length<=30:=by
   have:=Hu e
   lia
  rfl';refine HE ?_;rfl';refine HF ?_;rw[GG B,J];rfl';cases Y:(decide (w5 x.cps.toList≠[])&&(w5 x.cps.toList).all Dg) with
  |false =>
   rfl';refine⟨(pC λg=>?_).symm,rfl⟩;rw[g.2.2,Dl g.1] at Y;cases Y
  |true =>
   rw[Bd,Cc] at Y;have g:Gd x:=⟨Y.1,G,Y.2⟩;obtain⟨n,N,C,O⟩:=aJ g U;rfl';refine rJ N U ?_;rfl';refine pD ?_;rfl';refine rL C ?_;rfl';refine dJ ?_;rfl';refine⟨λq=>?_,λq=>?_⟩
   .rfl'
    exact⟨(rH g (O.mp (Bz q)) N).symm,rfl⟩
   .rfl'
    exact⟨(XB λz=>Hu q (O.mpr z)).symm,rfl⟩
theorem JE {α:Type}{xs:Aa α}{a:Ah}(h:a<xs.length):_L.gg xs (a:Am)=Ab xs[a]:=by
 have e:_L.mw xs.length (a:Am)=Ab a:=by simp[_L.mw];lia
 simp[_L.gg,e,h]
theorem AX {α:Type}(c:α)(r:Aa α) : _L.gg (c::r) 0=Ab c:=JE (xs:=c::r) (a:=0) (Lv _)
def se (c:Ah):D:=.str ⟨#[c]⟩
theorem KO {y:An}(h:dk y):y.cps.all (· < 128)=true:=by
 rw[<- Tn,Bs];exact λc Y=>Dl (h c Y)
theorem EW {y:An}(h:dk y){i:Ah}{ak:qE}{S:aq}(e:ak[i]? = Ab (Ab (.str y))):xE (uC (qB i)) ak S=.ok (none,y.cps.toList.map se) S:=by
 unfold xE uC;rw[pJ e];show ((yA (if y.cps.all (· < 128) then Ab (kE y) else none) S).bind λJ Y=>ba.ok (none,J) Y)=_
 rw[Ax (KO h)];rfl
theorem LL (xs:Aa Ah)(S:aq)(J:xs.length<=100):k_ (.lst (xs.map se)) (.lst []) S=.ok (.bl (!decide (xs=[]))) S:=by
 have Y:pl xT (.lst (xs.map se))=true:=by
  show (xs.map se).all (pl 29)=true;rw[Lu,Bs];exact λc _=>rfl
 refine(Ax (show (pl xT (.lst (xs.map se))&&pl xT (.lst [])) = true by rw[Y];rfl)).trans ?_
 cases xs <;> rfl
theorem fS:("" : An).cps.toList=[]:=by decide
theorem jE:("0" : An).cps.toList=[48]:=by decide
theorem FX {x y:An}:x=y↔x.cps.toList=y.cps.toList:=⟨λh=>h▸rfl,gM⟩
theorem R0 {x:An}(v:dk x)(C:x.length<=640)(S:aq):de [.str x] S=.ok (nz x) S:=by
 rw[u9];refine zT (zE (ak:=[Ab (.str x),none]) rfl ?_);rfl';refine pD ?_;rfl';refine vW ?_;rfl';refine j8 li ?_;rfl';refine dJ ?_;rfl';have N:∀ y:An,y.cps.toList=w5 x.cps.toList->∀ S,Ok ((wG (cj (d2 j_ (qB 1) (dC (.str "")))) (wG (cj (d2 uq (qH xJ (qA (qB 1) qC)) (dC (.int (30))))) (cj (d2 k_ (qZ false [none] (xE (uC (qB 1))) (br 0) (vB (cj (d2 (bU true) (qB 0) (dC (.str "0123456789")))) zY) (zC (qB 0))) (zL qC))))) [Ab (.str x),Ab (.str y)] S) λb j=>Wo (oR (qO (gk (vB (cj (d2 j_ (d2 bV (qB 1) (dC (.int 0))) (dC (.str "0")))) (cj (d2 k_ (qB 0) (dC (.str "0"))))) (qW (dC .non)) zI) (qW (qH kR (qA (qB 0) qC)))) (iT λH u=>H=nz x/\u=S)) (cD b (qW (dC .non)) zI [Ab (.str x),Ab (.str y)] j):=by
  intro y J S;have l:=dW v J;have ly:y.length=(w5 x.cps.toList).length:=by rw[<- J,vL]
  have l2:=rC x.cps.toList;rw[vL] at l2;refine w6 ?_;rfl';refine dJ ?_;rfl';refine⟨λe=>?_,λo=>?_⟩
  .rfl'
   refine⟨(pC λg=>g.1 ?_).symm,rfl⟩;rw[<- J,Bz e,fS]
  .have T:w5 x.cps.toList≠[]:=λz=>Hu o (gM (by rw[J,z,fS]))
   refine w6 ?_;rfl';refine rK li ?_;rfl';refine⟨λe=>?_,λe=>?_⟩
   .rfl'
    refine⟨(pC λg=>?_).symm,rfl⟩;have:=g.2.1;have:=Bz e
    lia
   .have B:(w5 x.cps.toList).length<=30:=by
     have:=Hu e
     lia
    rfl';have U:=G7 (c_:=se) (bz:=[none]) (fi:=xE (uC (qB 1))) (g:=br 0) (t:=vB (cj (d2 (bU true) (qB 0) (dC (.str "0123456789")))) zY) (fe:=qB 0) (ak:=[Ab (.str x),Ab (.str y)]) (S:=S) (EW l rfl) trivial (λc=>!Dg c) se (λak=>∃ a,ak=[a]) ⟨none,rfl⟩ (by rw[vL];unfold bb;lia)
     λc U ak ⟨a,A⟩=>by
      subst A;refine⟨[Ab (se c)],rfl,⟨_,rfl⟩,?_,λ_=>rfl⟩;refine zT (XF ?_);rfl';refine HH ?_;rw[PD];rfl';refine⟨λq=>?_,λq=>?_⟩
      .rfl'
       exact⟨q.symm,rfl⟩
      .exact⟨q.symm,rfl⟩
    refine qL U ?_;rfl';refine qL (LL _ S (Bq (Vx _ _) (by rw[vL];lia))) ?_
    rfl';rw[J];by_cases q:(w5 x.cps.toList).filter (λc=>!Dg c)=[]
    .rw[Dl q]
     rfl';have al:(w5 x.cps.toList).all Dg=true:=Bs.mpr λc U=>by
      cases h:Dg c with
      |true=>rfl
      |false =>
       have:=Ul (p:=λc=>!Dg c) |>.mpr ⟨U,show (!Dg c)=true by rw[h];rfl⟩
       rw[q] at this;cases this
     have g:Gd x:=⟨T,B,al⟩;obtain⟨n,O,e2,e3⟩:=aJ g C;refine XF ?_;rfl';obtain⟨c,r,G⟩:=Rp T;refine K2 (c:=c) li (by rw[J,G];exact AX c r) ?_
     rfl';refine dJ ?_;rfl';have Y:Sh x↔(c=48->x.cps.toList=[48]):=by unfold Sh;rw[G];simp
     refine⟨λk=>?_,λk=>?_⟩
     .have d:c=48:=by
       have:=congrArg (λz:An=>z.cps.toList) (Bz k);rw[jE] at this;exact(Su this).1
      rfl';refine HK ?_;rfl';by_cases z:x = "0"
      .rw[Dl z]
       rfl';refine rJ O C ?_;rfl';exact⟨(rH g (Y.mpr λ_=>by rw[z,jE]) O).symm,rfl⟩
      .rw[Co z]
       rfl';exact⟨(XB λs=>z (gM (by rw[Y.mp s d,jE]))).symm,rfl⟩
     .rfl'
      refine rJ O C ?_;rfl';refine⟨(rH g (Y.mpr λz=>?_) O).symm,rfl⟩;exact absurd (show (⟨#[c]⟩:An) = "0" from gM (by rw[z,jE])) (Hu k)
    .rw[Co q]
     rfl';refine⟨(pC λg=>q ?_).symm,rfl⟩;exact List.filter_eq_nil_iff.mpr λc U=>by rw[Bs.mp g.2.2 c U];decide
 have E:(Txt.slice x none (Ab 1) = "-")↔∃ r,x.cps.toList=45::r:=by
  rw[FX,CT,oF];cases x.cps.toList with
  |nil=>simp
  |cons c r=>simp
 refine⟨λq=>?_,λq=>?_⟩
 .obtain⟨r,M⟩:=E.mp (Bz q)
  rfl';refine vW ?_;rfl';refine j8 li ?_;rfl';exact N _ (by rw[FV,M];rfl) S
 .rfl'
  refine N x ?_ S;rcases yJ x.cps.toList with⟨r,L,I⟩|⟨L,I⟩
  .exact absurd (E.mpr ⟨r,L⟩) (Hu q)
  .exact I.symm
theorem c5 {x:An}(h:dk x)(i j:Ah):dk (Rf x i j):=λc Y=>by
 have:c∈(x.cps.extract i j).toList:=Y;rw[Hy] at this;exact h c (Hz (Ge this))
theorem bM {x:An}(h:dk x)(w:Ah):∀ (Y:Aa Ah) (a:Ah),∀ p∈Sw x w a Y,dk p
 |[],a,p,hp=>by
  have:p=Rf x a x.length:=by simpa [Sw] using hp
  rw[this];exact c5 h _ _
 |c::r,a,p,hp=>by
  rcases AT.mp (show p∈Rf x a c::Sw x w (c+w) r from hp) with e|hp
  .rw[e];exact c5 h _ _
  .exact bM h w r _ p hp
theorem vI {x y a:An}(h:dk x)(Y:a∈Txt.split x y):dk a:=by
 unfold Txt.split at Y
 split at Y
 .rw[Cu.mp Y];exact h
 .split at Y
  .rw[Cu.mp Y];exact h
  .rw[Np] at Y
   exact bM h _ _ _ a Y
theorem kF (x y:An)(h:1<=y.length):(Txt.split x y).length<=x.length+1:=by
 have:=PyProof.Rows.split_weight x y h
 lia
theorem RA {y:An}(e:ak[i]? = Ab (Ab (.str w)))(J:w.length<=1000000)(Y:1<=y.length):ls "str" wH (qB i) (qA (dC (.str y)) qC) ak S=.ok (.lst ((Txt.split w y).map .str)) S:=by
 refine zT (IR (o_v e ?_));refine⟨rfl,uI (o_c (mL ⟨_,_,?_,rfl,rfl⟩))⟩;exact Ax ⟨by unfold bb;lia,Jv.mpr li⟩
theorem mG {y:An}(e:ak[i]? = Ab (Ab (.str w)))(J:w.length<=1000000)(Y:1<=y.length):ju (ls "str" wH (qB i) (qA (dC (.str y)) qC)) ak S=.ok (none,(Txt.split w y).map .str) S:=by
 unfold ju;rw[RA e J Y];rfl
theorem rS (x:An):Pn (nz x):=by
 unfold nz
 split
 .split
  .exact⟨.int _,rfl⟩
  .exact⟨.none,rfl⟩
 .exact⟨.none,rfl⟩
def td (w:An):D:=if x3 (.tup ((Txt.split w ",").map nz))=true then .tup ((Txt.split w ",").map nz) else .non
theorem DX (w:An):Pn (td w):=by
 unfold td
 split
 .exact yR λd Y=>by
   obtain⟨x,_,rfl⟩:=Dj.mp Y;exact rS x
 .exact⟨.none,rfl⟩
def rd (t:An):D:=.tup ((Txt.split t " ").map td)
theorem K7 (t:An):Pn (rd t):=yR λd Y=>by
 obtain⟨x,_,rfl⟩:=Dj.mp Y;exact DX x
theorem R3 (O:dk w)(N:w.length<=640)(S:aq):fw [.str w] S=.ok (td w) S:=by
 rw[gT];refine zT (zE (ak:=[Ab (.str w),none]) rfl ?_);rfl';refine x9 (c_:=D.str) (o:=none) (Txt.split w ",") nz (λak Y=>Y=S/\∃ a,ak=[a]) (mG rfl li (by decide)) ⟨rfl,none,rfl⟩ (by have:=kF w "," (by decide);unfold bb;lia) (λ_ _ _=>trivial) (λx U ak Y ⟨J,a,C⟩=>?_) λak Y ⟨J,_⟩=>?_
 .subst J C
  rfl';exact qL (CK (vI O U) (Bq (Ik U) N) _) ⟨rfl,rfl,_,rfl⟩
 .subst J
  rfl';refine pD ?_;rfl';refine qL (mT (yR λd G=>by
   obtain⟨x,_,rfl⟩:=Dj.mp G;exact rS x) _) ?_
  rfl';refine⟨λq=>?_,λq=>?_⟩
  .rfl'
   exact⟨(Ax q).symm,rfl⟩
  .rfl'
   exact⟨(Bb (by rw[q];decide)).symm,rfl⟩
theorem FM (O:dk w)(N:w.length<=640)(S:aq):cp [.str w] S=.ok (td w) S:=by
 rw[vH];refine zT (zE (ak:=[Ab (.str w),none]) rfl ?_);rfl';refine x9 (c_:=D.str) (o:=none) (Txt.split w ",") nz (λak Y=>Y=S/\∃ a,ak=[a]) (mG rfl li (by decide)) ⟨rfl,none,rfl⟩ (by have:=kF w "," (by decide);unfold bb;lia) (λ_ _ _=>trivial) (λx U ak Y ⟨J,a,C⟩=>?_) λak Y ⟨J,_⟩=>?_
 .subst J C
  rfl';exact qL (R0 (vI O U) (Bq (Ik U) N) _) ⟨rfl,rfl,_,rfl⟩
 .subst J
  rfl';refine pD ?_;rfl';refine qL (bG (yR λd G=>by
   obtain⟨x,_,rfl⟩:=Dj.mp G;exact rS x) _) ?_
  rfl';refine⟨λq=>?_,λq=>?_⟩
  .rfl'
   exact⟨(Ax q).symm,rfl⟩
  .rfl'
   exact⟨(Bb (by rw[q];decide)).symm,rfl⟩
theorem FN (N:dk w)(G:w.length<=640)(S:aq):fg [.str w] S=.ok (if xU (rd w)=true then rd w else .non) S:=by
 rw[jN];refine zT (zE (ak:=[Ab (.str w),none]) rfl ?_);rfl';refine x9 (c_:=D.str) (o:=none) (Txt.split w " ") td (λak Y=>Y=S/\∃ a,ak=[a]) (mG rfl li (by decide)) ⟨rfl,none,rfl⟩ (by have:=kF w " " (by decide);unfold bb;lia) (λ_ _ _=>trivial) (λx U ak Y ⟨J,a,O⟩=>?_) λak Y ⟨J,_⟩=>?_
 .subst J O
  rfl';exact qL (FM (vI N U) (Bq (Ik U) G) _) ⟨rfl,rfl,_,rfl⟩
 .subst J
  rfl';refine pD ?_;rfl';refine qL (lN (K7 w) _) ?_;rfl';refine⟨λq=>?_,λq=>?_⟩
  .rfl'
   exact⟨(Ax q).symm,rfl⟩
  .rfl'
   exact⟨(Bb (by rw[q];decide)).symm,rfl⟩
theorem XJ {Q:jh->Prop}(c:Cl){w:An}(O:dk w)(N:w.length<=640)(S:aq)(k1:xU (rd w)=true->Q (.rt (rd w) S))(k2:xU (rd w)=false->∀ ak,Q (.ex (.ref c.NoText) .non ak S)):Wo Q (mx c [Ab (.str w),none] S):=by
 rfl';refine qL (d:=.bl true) (S:=S) (by kernel_rfl!) ?_
 rfl';refine x9 (c_:=D.str) (o:=none) (Txt.split w " ") td (λak Y=>Y=S/\∃ a,ak=[a]) (mG rfl li (by decide)) ⟨rfl,none,rfl⟩ (by have:=kF w " " (by decide);unfold bb;lia) (λ_ _ _=>trivial) (λx U ak Y ⟨J,a,G⟩=>?_) λak Y ⟨J,_⟩=>?_
 .subst J G
  rfl';exact qL (R3 (vI O U) (Bq (Ik U) N) _) ⟨rfl,rfl,_,rfl⟩
 .subst J
  rfl';refine qL (fH (K7 w) _) ?_;rfl';cases h:xU (rd w) with
  |true =>
   rfl';exact k1 h
  |false =>
   rfl';exact aZ (k2 h _)
theorem UM (c:Cl){w:An}(J:dk w)(Y:w.length<=640)(S:aq)(h:xU (rd w)=true):gp c [.str w] S=.ok (rd w) S:=by
 rw[uW];refine zT (zE (ak:=[Ab (.str w),none]) rfl ?_);exact XJ c J Y S (λ_=>⟨rfl,rfl⟩) λz=>by rw[h] at z;cases z
theorem FP (c:Cl){w:An}(J:dk w)(Y:w.length<=640)(S:aq)(h:xU (rd w)=false):gp c [.str w] S=.ex (.ref c.NoText) .non S:=by
 rw[uW];refine nN (ak:=[Ab (.str w),none]) rfl ?_;exact XJ c J Y S (λz=>by rw[h] at z;cases z) λ_ ak=>⟨ak,rfl⟩
theorem UL (c:Cl){d:D}(S:aq)(h:zO [d,.ty "str"] S=.ok (.bl false) S):gp c [d] S=.ex (.ref c.NoText) .non S:=by
 rw[uW];refine nN (ak:=[Ab d,none]) rfl ?_;rfl';refine qL h ?_;rfl';refine aZ ?_;exact⟨_,rfl⟩
noncomputable def mr (i:Am):An:=Ga (toString i)
def pw (p:Pt):An:=mr p.1 ++ "," ++ mr p.2
def tx (l:Aa Pt):An:=Txt.join " " (l.map pw)
theorem zQ (a b:An):(a++b).length=a.length+b.length:=Array.size_append ..
theorem QR (a b:An):(a++b).cps.toList=a.cps.toList++b.cps.toList:=by
 show (a.cps++b.cps).toList=_;simp
theorem xZ {a b:An}(h:dk a)(k:dk b):dk (a++b):=λc Y=>by
 rw[QR] at Y;exact(Bw.mp Y).elim (h c) (k c)
theorem hZ (m:Ah):∀ c∈(No 10 m).map Mm,c<128:=λc Y=>by
 obtain⟨J,h,rfl⟩:=Dj.mp Y;have:=PyProof.Rows.digit_range (Nat.isDigit_of_mem_toDigits (by decide) (by decide) h)
 lia
theorem XD (h:m<=1000):dk (mr m)/\(mr m).length<=4:=⟨λc Y=>by
 unfold mr at Y;rw[dP] at Y;exact hZ m c Y,PyProof.Rows.toString_length_le li (by decide) li⟩
theorem k9 {i:Am}(h : -1000<=i/\i<=1000):dk (mr i)/\(mr i).length<=5/\i.natAbs.log2<1920:=by
 have Y:i.natAbs.log2<1920:=by
  have:=Nat.log2_le_self i.natAbs
  lia
 by_cases e:0<=i
 .obtain⟨m,rfl⟩:=Ud e
  have:=XD (m:=m) li;exact⟨this.1,by lia,Y⟩
 .obtain⟨m,rfl⟩:∃ m:Ah,i = -((m+1:Ah):Am):=⟨(-i).toNat-1,by lia⟩
  have k:=XD (m:=m+1) li;have J:(mr (-((m+1:Ah):Am))).cps.toList=45::(No 10 (m+1)).map Mm:=oQ m;refine⟨λc hc=>?_,?_,Y⟩
  .rw[J] at hc
   rcases AT.mp hc with rfl|hc
   .decide
   .exact hZ _ c hc
  .rw[<- vL,J,Bc]
   have U:(mr ((m+1:Ah):Am)).cps.toList=(No 10 (m+1)).map Mm:=dP (m+1);have:=k.2;rw[<- vL,U] at this
   lia
theorem oN {p:Pt}(h:ku 1000 p):dk (pw p)/\(pw p).length<=11:=by
 have a:=k9 (i:=p.1) ⟨h.1,h.2.1⟩;have b:=k9 (i:=p.2) ⟨h.2.2.1,h.2.2.2⟩;refine⟨xZ (xZ a.1 (by intro c Y;revert c;decide)) b.1,?_⟩
 unfold pw;rw[zQ,zQ];have:(("," : An)).length=1:=by decide
 lia
theorem bN {y:An}(Y:dk y):∀ {l:Aa An},(∀ a∈l,dk a)->dk (Txt.join y l):=by
 intro l h;show dk (Zr y l);rw[Vy]
 induction l with
 |nil=>intro c J;cases J
 |cons a l U =>
  cases l with
  |nil=>exact h a (Cq ..)
  |cons b l =>
   show dk (a++y++Str.join y (b::l));exact xZ (xZ (h a (Cq ..)) Y) (U λx G=>h x (Bt _ G))
theorem t8 {α:Type}(f:α->Ah)(m:Ah):∀ {l:Aa α},(∀ a∈l,f a<=m)->(l.map f).sum<=l.length*m
 |[],_=>by simp
 |a::l,h=>by
  have U:=h a (Cq ..);have J:=t8 f m (l:=l) λx Y=>h x (Bt _ Y);rw[Dt,List.sum_cons,Bc,Nat.add_mul]
  lia
theorem rD (y:An)(l:Aa An):(Txt.join y l).length<=(l.map (·.length)).sum+l.length*y.length:=by
 show (Zr y l).length<=_;rw[Vy];cases l with
 |nil=>exact Hc _
 |cons a l =>
  rw[PyProof.Rows.len_join_cons,Bc,Nat.add_mul]
  lia
theorem fP:dk " ":=by intro c Y;revert c;decide
theorem uG:(" " : An).length=1:=by decide
theorem KG {M:Ah}{l:Aa Pt}(G:M<=41)(N:l.length<=M)(J:∀ p∈l,ku 1000 p):dk (tx l)/\(tx l).length<=492:=by
 refine⟨bN fP λa U=>?_,?_⟩
 .obtain⟨p,Y,rfl⟩:=Dj.mp U
  exact(oN (J p Y)).1
 .refine Bq (rD _ _) ?_
  have:=t8 (λp:Pt=>(pw p).length) 11 (l:=l) λp Y=>(oN (J p Y)).2;rw[Fg,Aq,uG];show (l.map λp=>(pw p).length).sum+_<=_
  lia
theorem XH {x:An}{ys:Aa An}(J:(ys.map (·.length)).sum+ys.length*x.length<=bb)(h:Q (.str (Txt.join x ys)) S):Ok (vT (.str x) [.lst (ys.map .str)] S) Q:=by
 refine⟨_,_,?_,h⟩;show (match (Ab (ys.map D.str)).bind jA with|some (Y:Aa An)=>if (AaZ Jw Y).sum+Ie Y*x.length<=bb then ba.ok (D.str (Txt.join x Y)) S else .bad|none=>.bad)=_
 rw[wS,WQ];exact Ax J
theorem a0 {l:Aa Pt}(U:l.length<=41)(J:∀ p∈l,ku 1000 p){S:aq}(h:Q (.str (tx l)) S):Ok (vT (.str " ") [.lst (l.map λp=>.str (pw p))] S) Q:=by
 have e:(l.map λp=>D.str (pw p))=(l.map pw).map .str:=by rw[Fg];rfl
 rw[e];refine XH ?_ h;have:=t8 (λp:Pt=>(pw p).length) 11 (l:=l) λp Y=>(oN (J p Y)).2;rw[Fg,Aq,uG];show (l.map λp=>(pw p).length).sum+_<=_;unfold bb
 lia
theorem tY {p:DE}{J:Aa DE}{Y y:An}(h:p ak S=.ok (.str y) S)(U:(Y++y).length<=bb):gC Y (p::J) ak S=gC (Y++y) J ak S:=by
 show (p ak S).bind _=_;rw[h];exact Ax U
theorem ZJ {n:Am}(e:ak[i]? = Ab (Ab (.int n)))(h:n.natAbs.log2<1920):d1 kW (qB i) ak S=.ok (.str (mr n)) S:=by
 show (qB i ak S).bind _=_;rw[pJ e];exact Ax h
theorem NR {p:Pt}(h:ku 1000 p)(S:aq):dB [d1 kW (qB 0),dC (.str ","),d1 kW (qB 1)] [Ab (.int p.1),Ab (.int p.2)] S=.ok (.str (pw p)) S:=by
 have a:=k9 (i:=p.1) ⟨h.1,h.2.1⟩;have b:=k9 (i:=p.2) ⟨h.2.2.1,h.2.2.2⟩;have U:(("," : An)).length=1:=by decide
 have J:Rw.length=0:=rfl;have Y:Rw++mr p.1=mr p.1:=gM (by rw[QR];rfl)
 show gC Rw _ _ _=_;rw[tY (ZJ rfl a.2.2) (by rw[zQ];unfold bb;lia),tY (show dC (.str ",") _ S=.ok (.str ",") S from rfl) (by rw[zQ,zQ];unfold bb;lia),tY (ZJ rfl b.2.2) (by rw[zQ,zQ,zQ];unfold bb;lia)]
 rw[Y];exact Ax (by rw[zQ,zQ];unfold bb;lia)
theorem UU (c:Cl){M:Ah}(O:M<=40){l:Aa Pt}(L:xk M l)(S:aq):gv c [gD l] S=.ok (.str (tx l)) S:=by
 rw[kI];refine zT (zE (ak:=[Ab (gD l)]) rfl ?_);rfl';refine qL (eY c S (DW l) (VC O L)) ?_;rfl';refine x9 (c_:=bu) (o:=none) l (λp=>.str (pw p)) (λak Y=>Y=S/\∃ a b,ak=[a,b]) (tX rfl) ⟨rfl,none,none,rfl⟩ (by have:=L.len;unfold bb;lia) (λ_ _ _=>trivial) (λx N ak Y ⟨J,a,b,G⟩=>?_) λak Y ⟨J,_⟩=>?_
 .subst J G
  rfl';exact qL (NR (L.box x N) _) ⟨rfl,rfl,_,_,rfl⟩
 .subst J
  rfl';refine a0 (by have:=L.len;lia) (λp U=>L.box p U) ?_
  rfl';exact⟨rfl,rfl⟩
theorem UT (c:Cl){d:D}(S:aq)(h:Pn d)(k:xU d=false):gv c [d] S=.ex (.ref c.NoLot) .non S:=by
 rw[kI];refine nN (ak:=[Ab d]) rfl (Q6 (M2 (S':=S) (v:=.ref c.NoLot) (x:=.non) ((JH rfl).trans (eX c S h k)) ?_));exact⟨_,rfl⟩
theorem yO {a b:An}(Y:a.length+b.length<=1000000)(h:Q (.str (a++b)) S):Ok (qV (.str a) (.str b) S) Q:=⟨_,_,Ax (by unfold bb;lia),h⟩
theorem XN {l:Aa Pt}(O:l.length<=41)(U:∀ p∈l,ku 1000 p){d:D}{S:aq}(e:ju (qB 0) [Ab d] S=.ok (none,l.map bu) S)(q:Q (.str (tx l)) S):Ok (di [d] S) Q:=by
 rw[jP];refine zE (ak:=[Ab d]) rfl ?_;rfl';refine x9 (c_:=bu) (o:=none) l (λp=>.str (pw p)) (λak Y=>Y=S/\∃ a b,ak=[a,b]) e ⟨rfl,none,none,rfl⟩ (by unfold bb;lia) (λ_ _ _=>trivial) (λx N ak Y ⟨J,a,b,G⟩=>?_) λak Y ⟨J,_⟩=>?_
 .subst J G
  have h:=U x N;have a:=k9 (i:=x.1) ⟨h.1,h.2.1⟩;have b:=k9 (i:=x.2) ⟨h.2.2.1,h.2.2.2⟩;have C:(("," : An)).length=1:=by decide
  rfl';refine rL a.2.2 ?_;rfl';refine yO (a:=mr x.1) li ?_;rfl';refine rL b.2.2 ?_;rfl';refine yO (a:=mr x.1 ++ ",") (b:=mr x.2) (by rw[zQ];lia) ?_
  exact⟨rfl,rfl,_,_,rfl⟩
 .subst J
  rfl';refine a0 O U ?_;rfl';exact q
abbrev RP (c:Cl):Aa (Ah × DF):=[(1,gv c),(1,gp c)]
theorem WS (Y:Aa (Ah × DF))(F:DF)(k:Am)(a:D)(S:aq)(h:_L.gg Y k=Ab (1,F)):bS Y (qB 0) (qA (qB 1) qC) [Ab (.int k),Ab a,none] S=F [a] S:=by
 simp only[bS,qB,qA,qC,List.getElem?_cons_zero,Kg,ba.bind,h,Bc,Dd,Du]
theorem c9 (c:Cl)(k:Am){a:D}{S:aq}{F:DF}(Y:_L.gg (RP c) k=Ab (1,F))(h:Ok (F [a] S) Q):Ok (bp c [.int k,a] S) Q:=by
 obtain⟨d,J,h,q⟩:=h;refine qL ?_ q;rw[yX];unfold er;refine WI (ak:=[Ab (.int k),Ab a,none]) rfl ?_;have e:=WS _ F k a S Y;rw[h] at e;simp only[fJ,qW,e,ba.toS]
theorem c8 (c:Cl)(k:Am){a r:D}{C:Af}{S:aq}{F:DF}(Y:_L.gg (RP c) k=Ab (1,F))(h:F [a] S=.ex (.ref C) .non S)(J:(jT c).contains (.ref C)=true)(kd:bq c [.exn (.ref C)] S=.ok r S)(q:Q r S):Ok (bp c [.int k,a] S) Q:=by
 refine qL ?_ q;rw[yX];unfold er;refine WI (ak:=[Ab (.int k),Ab a,none]) rfl ?_;have e:=WS _ F k a S Y;rw[h] at e;simp only[fJ,qW,e,ba.toS,J,Du];have z:qP 1 (bq c) (qA (qB 2) qC) ((Di 3 none).set 2 (Ab (tR (.ref C) .non))) S=.ok r S:=(JH rfl).trans kd;rw[z]
theorem ca (c:Cl):(jT c).contains (.ref c.NoLot)=true/\(jT c).contains (.ref c.NoText)=true:=by
 simp only[Fx];simp[jT]
theorem l6 (c:Cl)(nd:(zZ c).Nodup){d:D}{S:aq}(h:gp c [d] S=.ex (.ref c.NoText) .non S)(q:Q (.str "text") S):Ok (bp c [.int 1,d] S) Q:=c8 c 1 rfl h (ca c).2 (eU c nd S) q
theorem YC (c:Cl)(nd:(zZ c).Nodup){d:D}{S:aq}(h:zi d)(q:Q (.str "lot") S):Ok (bp c [.int 0,d] S) Q:=c8 c 0 rfl (UT c S h.1 h.2) (ca c).1 (o9 c nd S) q
theorem D2 (z:Pt):ti 2 (bu z):=⟨By rfl,λx Y=>by
 simp only[AT,Dp,Hk] at Y;rcases Y with rfl|rfl <;> trivial⟩
theorem BR {xs:Aa D}(h:xU (.tup xs)=true):ti 3 (.tup xs):=by
 have Y:(decide (1<=xs.length/\xs.length<=40)&&xs.all x3&&(match w9 xs with|some J=>mj J|none=>false))=true:=h
 rw[Bd,Bd,Cc] at Y;refine⟨by unfold bb;lia,λx U=>?_⟩
 obtain⟨q,rfl,_⟩:=r0 (Bs.mp Y.1.2 x U);exact D2 q
theorem nE (c:Cl)(nd:(zZ c).Nodup){w:An}(J:dk w)(Y:w.length<=640){S:aq}(q:Q (.bl true) S):Ok (b_ c [.str w] S) Q:=by
 rw[uU];refine zE (ak:=[Ab (.str w),none]) rfl ?_;rfl';refine qL (FN J Y S) ?_;cases h:xU (rd w) with
 |true =>
  rw[Ax rfl];rfl';refine c9 c 1 rfl (qL (UM c J Y S h) ?_);rfl';refine pD ?_;rfl';refine qL (d:=.bl false) (S:=S) rfl ?_;rfl';refine⟨(λz=>by cases z),λ_=>?_⟩
  rfl';exact qL (rW S (BR h)) q
 |false =>
  rw[Bb (by decide)]
  rfl';refine l6 c nd (FP c J Y S h) ?_;rfl';refine pD ?_;rfl';refine qL (d:=.bl true) (S:=S) rfl ?_;rfl';refine⟨(λ_=>?_),(λz=>by cases z)⟩
  rfl';exact qL (rW S trivial) q
theorem dX {x:An}(h:dk x)(l:Aa Ah):dk ⟨(l.filterMap (x.cps[·]?)).toArray⟩:=λc Y=>by
 have:c∈l.filterMap (x.cps[·]?):=by simpa using Y
 obtain⟨i,_,e⟩:=IN.mp this;rw[<- Ba] at e;exact h c (Cb e)
theorem uX {x:An}(h:dk x)(lo hi:Ak Am):dk (Txt.slice x lo hi):=by
 unfold Txt.slice
 split
 .exact h
 .exact dX h _
theorem MS {x:An}(h:dk x)(lo hi:Ak (Am × Qc))(st:Am × Qc):dk (Txt.sliceBy x lo hi st):=by
 unfold Txt.sliceBy
 split
 .exact h
 .exact dX h _
theorem KP {x y z:An}(h:dk x)(hz:dk z):dk (Txt.replace x y z):=by
 unfold Txt.replace
 split
 .exact h
 .refine bN hz λa Y=>?_
  rw[Np] at Y;exact bM h _ _ _ a Y
theorem n6 (x y z:An)(Y:x.length+(x.length+1)*z.length<=16777216):(Txt.replace x y z).length<=bb:=by
 unfold Txt.replace
 split
 .unfold bb;lia
 .rw[zB]
  exact PySem.fits_replaced y Y
theorem B7 (x:An):(Txt.slice x none (Ab 600)).length<=600:=by
 rcases PyProof.Rows.slice_ns_cases x 600 (by decide) with⟨_,h⟩|⟨_,h⟩ <;> lia
def Tm (x:An):Prop:=dk x/\x.length<=bb
def Wd (x:An):Prop:=dk x/\x.length<=492
theorem K4 {x:An}(Y:x.length<=bb)(h:Q (.str (Txt.slice x lo hi)) S):Ok (p9 (.str x) lo hi S) Q:=⟨_,_,Ax Y,h⟩
theorem BJ {x y:An}(J:x.length<=1000000)(Y:1<=y.length)(h:Q (.lst ((Txt.split x y).map .str)) S):Ok (wH (.str x) [.str y] S) Q:=⟨_,_,Ax ⟨by unfold bb;lia,Jv.mpr li⟩,h⟩
theorem HM {y z:An}(h:Ok (f ak S) λd Y=>∃ x,d=.str x/\x.length+(x.length+1)*z.length<=bb/\Q (.str (Txt.replace x y z)) Y):Ok (p7 y z f ak S) Q:=qU (zJ h λd Y ⟨x,e,J,q⟩=>by
 subst e;exact⟨_,_,Ax J,q⟩)
theorem BK {g:DE}(h:Ok (f ak S) λa J=>Ok (g ak J) λb Y=>Ok (fY a b Y) Q):Ok (p8 f g ak S) Q:=o_2 h
theorem HN {x:An}(Y:x.length<=1000000)(h:Q (.str (Txt.sliceBy x none none (-1,0))) S):Ok (fY (.str x) (.int (-1)) S) Q:=⟨_,_,Ax ⟨by decide,by unfold bb;lia⟩,h⟩
theorem tJ (ys:Aa An)(lo hi:Ak Am):∃ Y:Aa An,zX (ys.map .str) lo hi=Y.map .str/\(∀ z∈Y,z∈ys)/\Y.length<=ys.length:=by
 unfold zX;refine⟨_,by rw[<- Xq,<- Ss],λz J=>Hz (Ge J),?_⟩
 rw[Dn,Ez]
 lia
theorem FW (x y:An):0<(Txt.split x y).length:=by
 unfold Txt.split
 split
 .exact Jh
 .split
  .exact Jh
  .rw[Np]
   obtain⟨p,r,e⟩:=StrLaws.partsFrom_ne x y.length 0 (Nj x y 0 x.length (x.length+1));rw[e];exact Lv _
theorem ZZ {l:Aa An}{n:Ah}(U:l.length<=n)(h:∀ z∈l,Wd z)(N:n<=3000):Tm (Txt.join " " l)/\(l.map (·.length)).sum+l.length*(" " : An).length<=bb:=by
 have O:=t8 Jw 492 (l:=l) λz Y=>(h z Y).2;have J:=rD " " l;have G:l.length*492<=3000*492:=Wr _ li;rw[uG] at J ⊢;exact⟨⟨bN fP λz Y=>(h z Y).1,by unfold bb;lia⟩,by unfold bb;show (l.map Jw).sum+_<=_;lia⟩
theorem aS:("0123456789 ,-+.\nx_:;" : An).cps.toList=[48,49,50,51,52,53,54,55,56,57,32,44,45,43,46,10,120,95,58,59]:=by decide
def _b (p j:Ah)(w J:An)(dw:Aa An)(a b k:Ah)(sg:An)(S0:aq)(qI:Aa (Aa An))(ak:qE)(S:aq):Prop:=(∀ l∈qI,(∀ z∈l,Wd z)/\l.length<=494)/\Kp p S0 S/\∃ (U:Ak D) (Y:Aa An),ak=[Ab (.loc p),Ab (.str w),Ab (.int (a:Am)),Ab (.int (b:Am)),Ab (.str sg),Ab (.lst (dw.map .str)),Ab (.int (k:Am)),Ab (.str J),Ab (.loc j),U]/\S[j]? = Ab (.lst (Y.map .str))/\(∀ y∈Y,Tm y)/\Y.length+qI.length=12
theorem KR {p j:Ah}{U:An}{dw:Aa An}{a b k:Ah}{sg:An}(ha:a<12)(hw:∀ z∈dw,Wd z)(Y:Wd U)(s:dw.length<=493){S0 S:aq}{ys:Aa An}(N:Kp p S0 S)(u:S0.length<=j)(L:p≠j)(e:S[j]? = Ab (.lst (ys.map .str)))(J:∀ y∈ys,Tm y)(G:ys.length=9)
  (q:∀ x S',Kp p S0 S'->dk x->x.length<=600->Q (.str x) S') :
  Wo (iT Q) ((qO (gL (vJ (zL (qA (zL (qA (qB 7) (qA (qB 7) qC))) (qA (zL (qA (p8 (qB 7) (d1 kY (dC (.int 1)))) qC)) (qA (d2 qV (ka (qB 5) (z0 (d2 qV (qB 6) (dC (.int 1)))) (z0 (d2 qV (qB 6) (dC (.int 2))))) (zL (qA (qB 7) qC))) qC))))) (br 9) (vY (ls "list" wR (qB 8) (qA (ls "str" vT (dC (.str " ")) (qA (d2 qV (d2 qV (ka (qB 5) zH (z0 (qB 6))) (qB 9)) (ka (qB 5) (z0 (d2 qV (qB 6) (dC (.int 1)))) zH)) qC)) qC)))) (qW (yY (d2 gu (qB 8) (qB 2)) zH (z0 (dC (.int 600)))))) [Ab (.loc p),Ab (.str w),Ab (.int (a:Am)),Ab (.int (b:Am)),Ab (.str sg),Ab (.lst (dw.map .str)),Ab (.int (k:Am)),Ab (.str U),Ab (.loc j),none] S):=by
 rfl';refine BK ?_;rfl';refine HN (by have:=Y.2;lia) ?_
 rfl';obtain⟨T,o,I,h⟩:=tJ dw (Ab ((k:Am)+1)) (Ab ((k:Am)+2));rw[o];refine xN (by rw[Aq];show _+1<=bb;unfold bb;lia) ?_
 rfl';have O:Wd (Txt.sliceBy U none none (-1,0)):=⟨MS Y.1 _ _ _,Bq (Txt.sliceBy_le U none none (-1,0) (by decide)) Y.2⟩
 have v:T.map D.str++[.str U]=(T++[U]).map .str:=by rw[Ic];rfl
 rw[v];refine uR (c_:=λl:Aa An=>D.lst (l.map .str)) (_b p j w U dw a b k sg S0) (λl qI ak S E=>?_) (λak S E=>?_) (xs:=[[U,U],[Txt.sliceBy U none none (-1,0)],T++[U]]) ?_
 .obtain⟨O,N,c,ys,rfl,e,J,G⟩:=E
  have B:=O l (Cq ..);rfl';refine⟨A0 e,?_⟩;rfl';obtain⟨M,r,I,t⟩:=tJ dw none (Ab (k:Am));obtain⟨H,g,d,n2⟩:=tJ dw (Ab ((k:Am)+1)) none;rw[r];refine xN (by rw[Aq,Aq];unfold bb;lia) ?_
  rfl';rw[g,<- Ic];refine xN (by rw[Aq,Aq,Ca];unfold bb;lia) ?_
  rfl';rw[<- Ic];have A:=ZZ (l:=M++l++H) (n:=1480) (by rw[Ca,Ca];lia) (λz hz=>by
   rcases Bw.mp hz with hz|hz
   .rcases Bw.mp hz with hz|hz
    .exact hw z (I z hz)
    .exact B.1 z hz
   .exact hw z (d z hz)) li
  refine XH A.2 ?_;rfl';refine JZ e (by rw[Aq];rw[Bc] at G;unfold bb;lia) ?_
  refine t9 ⟨λl G=>O l (Bt _ G),N.set u _ L,_,ys++[Txt.join " " (M++l++H)],rfl,?_,λy hy=>?_,?_⟩
  .rw[Fn (Ce.mp e).1,Ic]
   rfl
  .rcases Bw.mp hy with hy|hy
   .exact J y hy
   .rw[Cu.mp hy];exact A.1
  .rw[Ca,Lh]
   rw[Bc] at G
   lia
 .obtain⟨_,N,c,ys,rfl,e,J,G⟩:=E
  rw[Dd] at G;rfl';refine vW ?_;rfl';have C:a<(ys.map D.str).length:=by rw[Aq];lia
  refine j7 e (tI C) ?_;rw[Ow];have hy:=J (ys[a]' li) (Jy _);rfl';refine K4 hy.2 ?_;rfl';exact q _ _ N (uX hy.1 _ _) (B7 _)
 .refine⟨λl G=>?_,N,none,ys,rfl,e,J,by rw[G];rfl⟩
  simp only[AT,Dp,Hk] at G;rcases G with rfl|rfl|rfl
  .exact⟨λz hz=>by
    simp only[AT,Dp,Hk,or_self] at hz;rw[hz];exact Y,By rfl⟩
  .exact⟨λz hz=>by rw[Cu.mp hz];exact O,By rfl⟩
  .exact⟨λz hz=>by
    rcases Bw.mp hz with hz|hz
    .exact hw z (I z hz)
    .rw[Cu.mp hz];exact Y,by rw[Ca,Lh];lia⟩
theorem LP {p:Ah}(J:dk w)(hl:w.length<=492){S:aq}(h:xX S p)(q:∀ x S',Kp p S S'->dk x->x.length<=600->Q (.str x) S'):Ok (cb [.loc p,.str w] S) Q:=by
 rw[yW];refine zE (ak:=[Ab (.loc p),Ab (.str w),none,none,none,none,none,none,none,none]) rfl ?_;rfl';refine xO h li λa S1 d t=>?_;rfl';refine rK li ?_;rfl';refine xO d.pen li λb S2 j hb=>?_;rfl';refine xO j.pen li λg S3 H hg=>?_;rfl';have T:g<("0123456789 ,-+.\nx_:;" : An).cps.toList.length:=by rw[aS];simp only[Bc,Dd];lia
 refine K2 (By (by decide)) (JE T) ?_
 have Y:dk ⟨#[("0123456789 ,-+.\nx_:;" : An).cps.toList[g]]⟩/\(⟨#[("0123456789 ,-+.\nx_:;" : An).cps.toList[g]]⟩:An).length=1:=⟨λc o=>by
  have:c=("0123456789 ,-+.\nx_:;" : An).cps.toList[g]:=by simpa using o
  rw[this];have s:∀ c∈("0123456789 ,-+.\nx_:;" : An).cps.toList,c<128:=by rw[aS];decide
  exact s _ (Jy _),rfl⟩
 generalize (⟨#[("0123456789 ,-+.\nx_:;" : An).cps.toList[g]]⟩:An)=sg at Y;rfl';refine BJ li (by decide) ?_
 have I:∀ z∈Txt.split w " ",Wd z:=λz M=>⟨vI J M,Bq (Ik M) hl⟩;have r:=kF w " " (by decide)
 have h0:=FW w " ";generalize Txt.split w " " = dw at I r h0;rfl';refine xO H.pen (by rw[Aq];lia) λk S4 O hk=>?_
 rw[Aq] at hk;rfl';refine mK (tI (by rw[Aq];lia)) ?_
 rw[Ow];have U:=I (dw[k]' li) (Jy _);generalize dw[k]' li=w7 at U;have u:=((d.trans j).trans H).trans O;have hA:=Txt.slice_le w none (Ab (b:Am));have hB:=Txt.slice_le w (Ab (b:Am)) none;have hC:=Txt.slice_le w (Ab ((b:Am)+1)) none;have L:=uX J none (Ab (b:Am));have aB:=uX J (Ab (b:Am)) none;have aC:=uX J (Ab ((b:Am)+1)) none;rfl';refine vW ?_;rfl';refine j8 li ?_;rfl';refine yO li ?_;rfl';refine vW ?_;rfl';refine j8 li ?_;rfl';refine yO (by rw[zQ];lia) ?_
 rfl';refine XI (k:=3) (by unfold bb;exact⟨by simp,by lia⟩) ?_
 rfl';refine vW ?_;rfl';refine j8 li ?_;rfl';refine yO li ?_;rfl';refine vW ?_;rfl';refine j8 li ?_;rfl';refine yO (by rw[zQ];lia) ?_
 rfl';refine XI (k:=2) (by unfold bb;exact⟨by simp,by lia⟩) ?_
 refine xN (By rfl) ?_;rfl';refine vW ?_;rfl';refine j8 li ?_;rfl';refine vW ?_;rfl';refine j8 li ?_;rfl';refine yO li ?_;rfl';refine yO (by rw[uG];lia) ?_
 rfl';refine yO (by rw[uG];lia) ?_
 rfl';refine HM ?_;rfl';have e:("  " : An).length=2:=by decide
 have A:w.length+(w.length+1)*("  " : An).length<=16777216:=by rw[e];lia
 refine⟨A,?_⟩;rfl';refine XE rfl rfl (By rfl) (IT (RO ?_));have E:dk "  ":=by intro c o;revert c;decide
 have N:∀ x:An,dk x->x.length<=2000->Tm x:=λx h1 h2=>⟨h1,by unfold bb;lia⟩
 have B:=N _ (xZ (xZ L Y.1) aB) (by rw[zQ,zQ];lia)
 have v:=N _ (xZ (xZ L Y.1) aC) (by rw[zQ,zQ];lia)
 have t3:=N _ (xZ L aC) (by rw[zQ];lia)
 have t4:=N _ (xZ J fP) (by rw[zQ,uG];lia)
 have t5:=N _ (xZ fP J) (by rw[zQ,uG];lia)
 have n:Tm (Txt.replace w " " "  "):=⟨KP J E,n6 w " " "  " A⟩;have G:a<12:=by lia
 have C:dw.length<=493:=by lia
 refine KR (a:=a) (b:=b) (k:=k) (dw:=dw) (w:=w) (sg:=sg) (S0:=S) (ys:=[_,_,_,_,_,_,_,_,_]) G I U C (u.trans (Kp.pre O.pen (Na _ _))) u.len (Cp (DR O.pen)) (tH S4 _) (λy l=>?_) rfl q;simp only[AT,Dp,Hk] at l;rcases l with rfl|rfl|rfl|rfl|rfl|rfl|rfl|rfl|rfl
 .exact B
 .exact B
 .exact B
 .exact v
 .exact v
 .exact t3
 .exact t4
 .exact t5
 .exact n
def v3 (m:Ah):Aa Pt:=(Cg m).map λ(i:Ah)=>((i:Am)/8,(i:Am) % 8)
theorem cL (h:m<=41):∀ p∈v3 m,ku 1000 p:=λp Y=>by
 obtain⟨i,hi,rfl⟩:=Dj.mp Y;have:=Ei.mp hi;unfold ku;dsimp only
 lia
theorem BG (e:ak[0]? = Ab (Ab (.int (m:Am))))(h:m<=41)(q:Q (.lst ((v3 m).map bu)) S):Ok (qZ false [none] (xE (y9 (qA (qB 0) qC))) (br 0) zY (zC (xI (qA (d2 vQ (qB 0) (dC (.int 8))) (qA (d2 yK (qB 0) (dC (.int 8))) qC)))) ak S) Q:=by
 refine x9 (c_:=λi:Ah=>D.int (i:Am)) (o:=none) (Cg m) (λi=>bu ((i:Am)/8,(i:Am) % 8)) (λak Y=>Y=S/\∃ a,ak=[a]) (JU e li) ⟨rfl,none,rfl⟩ (by rw[Eb];unfold bb;lia) (λ_ _ _=>trivial) (λx G ak Y ⟨J,a,U⟩=>?_) λak Y ⟨J,_⟩=>?_
 .subst J U
  rfl';exact⟨_,rfl⟩
 .subst J
  have:(Cg m).map (λi:Ah=>bu ((i:Am)/8,(i:Am) % 8))=(v3 m).map bu:=by
   unfold v3;rw[Fg];rfl
  rw[this];exact q
noncomputable def iX:Aa An:=[""," ","0,0","0,-0","-0,0","00,0","0,0 0,0","0,1 0,0","0,0  0,1","1000,-1000","1001,0","0","0,0\n","+1,0","1_0,0","1.0,0","0, 0","-,0",",","0,","--1,0","0,0,0","none","a,0","0,e","1e1,0","0,0~","(0,0)","-1000,0 0,0 1000,0"]
def oZ:Aa An:=iX++[tx (v3 40),tx (v3 41)]
theorem V4:(iX.all λt=>t.cps.toList.all (λc=>decide (c<128))&&decide (t.length<=640))=true:=kd
theorem UX:∀ t∈oZ,dk t/\t.length<=640:=λt ht=>by
 have g:∀ m:Ah,m<=41->dk (tx (v3 m))/\(tx (v3 m)).length<=640:=λm Y=>by
  have:=KG (M:=41) (Av _) (l:=v3 m) (by unfold v3;rw[Aq,Eb];exact Y) (cL Y)
  exact⟨this.1,by lia⟩
 rcases Bw.mp ht with ht|ht
 .have:=Bs.mp V4 t ht
  rw[Bd,Cc,Bs] at this;exact⟨λc J=>Bz (this.1 c J),this.2⟩
 .simp only[AT,Dp,Hk] at ht
  rcases ht with rfl|rfl
  .exact g 40 (by decide)
  .exact g 41 (by decide)
def AN (d:D):Prop:=∀ S,zO [d,.ty "str"] S=.ok (.bl false) S
def _a (Y:Aa Am)(_:Aa Am)(ak:qE)(_:aq):Prop:=∃ B G U C J O N,ak=[Ab (.lst (Y.map D.int)),B,G,U,C,J,O,N]
theorem VI (c:Cl)(nd:(zZ c).Nodup)(J:Aa Am)(r:J.length<=63):∃ S,qQ 8 (pe c) [.lst (J.map D.int)] [] = .ok (.bl true) S:=by
 have I:Ok (qQ 8 (pe c) [.lst (J.map D.int)] []) λd _=>d=.bl true:=by
  refine zE (ak:=[Ab (.lst (J.map D.int)),none,none,none,none,none,none,none]) rfl ?_;unfold pe;rfl';refine xN (By rfl) ?_;rfl';refine XE rfl rfl (By rfl) ?_;rfl';refine JZ (tH _ _) (By rfl) ?_;rw[UR];rfl';refine x9 (c_:=λm:Ah=>D.int (m:Am)) (o:=none) [40,41] (λm=>.str (tx (v3 m))) (λak Y=>Y[0]? = Ab (MO.lst (iX.map .str))/\∃ a,ak=[a]) (by rfl) ⟨rfl,none,rfl⟩ (By rfl) (λ_ _ _=>trivial) (λx U ak Y ⟨G,a,B⟩=>?_) λak Y ⟨G,_⟩=>?_
  .subst B
   have U:x<=41:=by
    simp only[AT,Dp,Hk] at U
    lia
   rfl';refine BG (m:=x) rfl U ?_;rfl';refine XN (l:=v3 x) (by unfold v3;rw[Aq,Eb];exact U) (cL U) (VD rfl) ?_
   exact⟨rfl,G,_,rfl⟩
  .refine LO (H8 G) rfl (By rfl) ?_
   rfl';refine x9 (c_:=D.str) (o:=none) oZ (λ_=>.bl true) (λak Y=>∃ a,ak=[a]) (VD rfl) ⟨none,rfl⟩ (By rfl) (λ_ _ _=>trivial) (λx U ak Y ⟨a,B⟩=>?_) λak Y _=>?_
   .subst B
    have h:=UX x U;rfl';exact nE c nd h.1 h.2 ⟨rfl,_,rfl⟩
   .rfl'
    refine pW (p:=λ_=>true) ?_;rw[show oZ.all (λ_=>true)=true from Bs.mpr λ_ _=>rfl]
    refine⟨true,rfl,A6 (w_t (RN (RO (Q6 (A5 (FL J r 6 rfl λms=>?_))))))⟩;refine uR (_a J) ?_ ?_ ⟨_,_,_,_,_,_,_,rfl⟩
    .rintro y xs _ S ⟨G,B,s,v,t,N,O,rfl⟩
     rfl';refine HL λp S0 k=>?_;rfl';refine HI k λl S1 n L=>?_;have A:=KG (M:=40) (by decide) L.len L.box
     rfl';refine XN (l:=l) (by have:=L.len;lia) L.box (tX rfl) ?_
     rfl';refine w6 ?_;rfl';refine c9 c 0 rfl (qL (UU c (M:=40) (Av _) L _) ?_);rfl';refine qL (rW _ trivial) ?_;rfl';refine⟨(λe=>by cases e),λ_=>?_⟩
     rfl';refine nE c nd A.1 li ?_;rfl';refine⟨by lia,by lia,?_⟩
     refine uR (c_:=λ(i:Ah)=>D.int (i:Am)) (λ_ ak Y=>xX Y p/\∃ N,ak=[Ab (.lst (J.map D.int)),G,Ab (.str (tx l)),Ab (.int y),Ab (.loc p),Ab (gD l),N,O]) ?_ ?_ ⟨n,_,rfl⟩
     .rintro i _ _ u ⟨z,N,rfl⟩
      rfl';refine LP A.1 A.2 z λx E g q lx=>?_;rfl';refine nE c nd q li ?_;rfl';exact t9 ⟨g.pen,_,rfl⟩
     .rintro _ u ⟨z,N,rfl⟩
      rfl';refine M3 (λj ak Y=>(∀ d∈j,AN d)/\xX Y p/\∃ O,ak=[Ab (.lst (J.map D.int)),G,Ab (.str (tx l)),Ab (.int y),Ab (.loc p),Ab (gD l),N,O]) ?_ ?_ ⟨λd C=>?_,z,_,rfl⟩
      .rintro d j _ E ⟨C,H,O,rfl⟩
       rfl';refine l6 c nd (UL c E (C d (.head _) E)) ?_;rfl';refine qL (X9 "text" _) ?_;rfl';exact t9 ⟨λd h=>C d (.tail _ h),H,_,rfl⟩
      .rintro _ E ⟨_,H,O,rfl⟩
       rfl';refine VY (l:=l) (M:=40) (Av _) L H λb S4 k4 T=>?_;rfl';refine YC c nd T ?_;rfl';refine qL (X9 "lot" _) ?_;rfl';exact t9 ⟨_,_,_,_,_,_,_,rfl⟩
      .simp only[AT,Dp,Hk] at C
       rcases C with rfl|rfl|rfl|rfl|rfl|rfl|rfl <;> intro S <;> kernel_rfl!
    .rintro _ S ⟨G,B,s,v,t,N,O,rfl⟩
     rfl';exact A4 rfl
 obtain⟨d,S,e,rfl⟩:=I;exact⟨S,e⟩
end _K
namespace _K
open _L _D
variable {mg:ai}
theorem yP {P:Be}{w:Br}{K:Ai}{base:Bn}{c:Cl}(T:Txt K mg c){k:Ah}{F:DF}(d:qm F P w K mg base true k "_law_same" 2):qm (qQ 4 (cw F)) P w K mg base true (k+1) "_law_same" 2:=by
 refine dq P w base k 14 T rfl ck rfl ?_
 intros
 repeat' first
  |with_reducible exact ck
  |((with_reducible show QE _ _ _);with_reducible first|apply aV|apply K8|apply W0|apply zd|apply aN|(apply aB;first|apply KL|apply KJ)|apply XZ|apply W1|apply XX)
  |((with_reducible show _=_);first|exact T.nb ck|exact k8 _|exact rfl|with_unfolding_all rfl)
  |((with_reducible show je _ _ _);with_reducible first|apply RU|apply E0|apply RW)
  |((with_reducible show az _ _ _);first|assumption|exact az.mono (by assumption)|exact az.mono (az.any (by assumption))|exact az.mark (by assumption) _|exact az.mono (az.mark (by assumption) _))
  |((with_reducible show sr _ _ _ _);exact⟨rfl,rfl⟩)
  |((with_reducible show qm _ _ _ _ _ _ _ _ _ _);assumption)
  |with_reducible first|apply XW|apply mR|apply b7|apply aF|apply XU|apply W8|apply W7|(apply KA;first|apply mS|apply dO)|apply W9|apply mS|apply dO|apply za|apply W3|apply rV|apply aG|apply W4|apply W6|apply K9|apply W5|apply JQ
  |((with_reducible apply y_);case hs=>exact rfl)
  |((with_reducible show ul _ _ _ _);first|assumption|exact ul.tr (by assumption))
  |((with_reducible show Y _ _ _ _ _ _ _ _ _ _);assumption)
  |((with_reducible show U _ _ _ _ _ _ _ _ _ _ _ _ _);assumption)
  |((with_reducible show G _ _);refine lmK hT (by assumption) ?_ rfl)
  |((with_reducible show N _ _ _ _);first|apply J|apply Q)
  |exact λ_=>⟨rfl,rfl,rfl⟩
  |(intro h;cases h;done)
  |((with_reducible show lu _);first|assumption|exact i9)
  |exact⟨rfl,rfl⟩
  |exact⟨rfl,rfl,rfl⟩
  |apply mR
  |apply b7
  |(intros;rfl)
  |(intro _ h;cases h <;> rfl)
  |decide
  |intro _
theorem B5 {P:Be}{w:Br}{K:Ai}{base:Bn}{c:Cl}(T:Txt K mg c)(nd:(zZ c).Nodup)(hT:(LD.all λy=>(Ej K y).isSome)=true):∃ F,dS P w K mg base true 9 "law" ["_law_script"] F/\∀ ns:Aa Am,ns.length<=63->∃ S,F [.lst (ns.map D.int)] [] = .ok (.bl true) S:=by
 refine hv (λ_=>?_) (dq (cm:=true) P w base 0 0 T rfl ck gS ?_);refine hv (λ_=>?_) (dq (cm:=true) P w base 1 1 T rfl ck jR ?_);refine hv (λ_=>?_) (dq (cm:=true) P w base 0 2 T rfl ck jQ ?_);refine hv (λ_=>?_) (dq (cm:=true) P w base 2 3 T rfl ck gR ?_);refine hv (λ_=>?_) (dq (cm:=true) P w base 3 4 T rfl ck bB ?_);refine hv (λ_=>?_) (dq (cm:=true) P w base 4 5 T rfl ck (vO c) ?_);refine hv (λ_=>?_) (dq (cm:=true) P w base 0 6 T rfl ck jS ?_);refine hv (λ_=>?_) (dq (cm:=true) P w base 3 7 T rfl ck gT ?_);refine hv (λ_=>?_) (dq (cm:=true) P w base 5 8 T rfl ck (kI c) ?_);refine hv (λ_=>?_) (dq (cm:=true) P w base 4 9 T rfl ck (uW c) ?_);refine hv (λ_=>?_) (dq (cm:=true) P w base 0 10 T rfl ck jL ?_);refine hv (λ_=>?_) (dq (cm:=true) P w base 0 11 T rfl ck gQ ?_);refine hv (λ_=>?_) (dq (cm:=true) P w base 0 12 T rfl ck jM ?_);refine hv (λ_=>?_) (dq (cm:=true) P w base 0 13 T rfl ck uV ?_);have s0:qm (mX 0) P w K mg base true 0 "_law_same" 2:=⟨GJ (T.src 14 rfl)⟩;have d__law_same:qm bv P w K mg base true 4 "_law_same" 2:=jO▸yP T (yP T (yP T (yP T s0)));refine hv (λ_=>?_) (dq (cm:=false) P w base 0 15 T rfl ck (wY c) ?_);refine hv (λ_=>?_) (dq (cm:=true) P w base 1 16 T rfl ck uT ?_);refine hv (λ_=>?_) (dq (cm:=true) P w base 2 17 T rfl ck gP ?_);refine hv (λ_=>?_) (dq (cm:=true) P w base 1 18 T rfl ck vF ?_);refine hv (λ_=>?_) (dq (cm:=true) P w base 2 19 T rfl ck u4 ?_);refine hv (λ_=>?_) (dq (cm:=true) P w base 1 20 T rfl ck vG ?_);refine hv (λ_=>?_) (dq (cm:=true) P w base 3 21 T rfl ck u7 ?_);refine hv (λ_=>?_) (dq (cm:=true) P w base 0 22 T rfl ck jP ?_);refine hv (λ_=>?_) (dq (cm:=true) P w base 0 23 T rfl ck u9 ?_);refine hv (λ_=>?_) (dq (cm:=true) P w base 2 24 T rfl ck vH ?_);refine hv (λ_=>?_) (dq (cm:=true) P w base 3 25 T rfl ck jN ?_);refine hv (λ_=>?_) (dq (cm:=true) P w base 1 26 T rfl ck yW ?_);refine hv (λ_=>?_) (dq (cm:=true) P w base 6 27 T rfl ck (yX c) ?_);refine hv (λ_=>?_) (dq (cm:=true) P w base 7 28 T rfl ck (uU c) ?_);refine⟨_,K_ 8 29 T rfl ck ?_,VI c nd⟩
 all_goals
  intros
  repeat' first
   |with_reducible exact ck
   |((with_reducible show QE _ _ _);with_reducible first|apply aV|apply SH|apply K8|apply SK|apply W0|apply zd|apply U_|apply W_|apply aO|apply aN|(apply aB;first|apply KL|apply KJ|apply A9|apply RX)|(apply aT;first|apply MA|apply RY|apply AB|apply E1|apply RV)|apply aC|apply SM|apply SI|apply FB|apply CG|apply W2|apply U9|apply UA|apply FC|apply CH|apply XZ|apply U7|apply SJ|apply CI|apply W1|apply XX|apply CF|apply FA|apply SG|apply F8|apply h8|apply R_|(apply gI;(case slot=>apply Tg);(case' hm=>first|apply eQ))|(apply uJ;(case slot=>apply Tg);(case' hm=>first|apply eQ))|(apply gI;(case slot=>apply Nl);(case' hm=>first|apply i6))|(apply uJ;(case slot=>apply Nl);(case' hm=>first|apply i6))|(apply gI;(case slot=>apply Nm);(case' hm=>first|apply i7))|(apply uJ;(case slot=>apply Nm);(case' hm=>first|apply i7))|(apply gI;(case slot=>apply Rq);(case' hm=>first|apply KH))|(apply uJ;(case slot=>apply Rq);(case' hm=>first|apply KH))|(apply gI;(case slot=>apply Vz);(case' hm=>first|apply Y1))|(apply uJ;(case slot=>apply Vz);(case' hm=>first|apply Y1))|(apply gI;(case slot=>apply Pv);(case' hm=>first|apply KM))|(apply uJ;(case slot=>apply Pv);(case' hm=>first|apply KM))|(apply gI;(case slot=>apply Vd);(case' hm=>first|apply i8))|(apply uJ;(case slot=>apply Vd);(case' hm=>first|apply i8))|apply SD)
   |((with_reducible show _=_);first|exact T.nb ck|with_reducible apply Ue|with_reducible apply Ve|with_reducible apply Th|with_reducible apply Uf|with_reducible apply Ug|with_reducible apply Rr|with_reducible apply Wa|with_reducible apply Pw|with_reducible apply Vf|exact k8 _|exact rfl|with_unfolding_all rfl)
   |((with_reducible show je _ _ _);with_reducible first|apply A8|apply RS|apply RT|apply AJ|apply RZ|apply AF|apply AA|apply AE|apply AH|apply OO|apply ON|apply OL|apply OK|apply RU|apply E0|apply RW|apply AD|apply J3)
   |((with_reducible show az _ _ _);first|assumption|exact az.mono (by assumption)|exact az.mono (az.any (by assumption))|exact az.mark (by assumption) _|exact az.mono (az.mark (by assumption) _))
   |((with_reducible show sr _ _ _ _);exact⟨rfl,rfl⟩)
   |((with_reducible show qm _ _ _ _ _ _ _ _ _ _);assumption)
   |with_reducible first|apply XW|apply mR|apply b7|apply SB|apply aF|apply XU|apply P_|apply JB|apply FG|apply FH|apply FE|apply SU|apply W8|apply W7|apply UF|(apply KA;first|apply aH|apply mS|apply WA|apply dO)|apply W9|apply aH|apply mS|apply WA|apply dO|apply za|apply W3|apply SO|apply rV|apply aG|apply UC|apply SS|apply UB|apply W4|apply SR|apply SQ|apply FJ|apply UG|apply FF|apply W6|apply K9|apply FI|apply W5|apply T_|apply S_|apply Q_|apply AG|apply AC|apply OM|apply AI|apply JQ|apply Ue|apply Ve|apply Th|apply Uf|apply Ug|apply Rr|apply Wa|apply Pw|apply Vf
   |((with_reducible apply V_);case hsw=>exact rfl)
   |((with_reducible apply y_);case hs=>exact rfl)
   |with_reducible apply SV
   |exact T.cls
   |exact T.cl (by kernel_rfl)
   |exact T.rz (by kernel_rfl)
   |exact T.ct
   |exact T.gi (by kernel_rfl)
   |((with_reducible show ul _ _ _ _);first|assumption|exact ul.tr (by assumption))
   |((with_reducible show LmX _ _ _ _ _ _ _ _ _ _);assumption)
   |((with_reducible show DfL _ _ _ _ _ _ _ _ _ _ _ _ _);assumption)
   |((with_reducible show LmK _ _);refine lmK hT (by assumption) ?_ rfl)
   |((with_reducible show ZF _ _ _ _);first|apply aFn|apply aFn0)
   |exact λ_=>⟨rfl,rfl,rfl⟩
   |(intro h;cases h;done)
   |((with_reducible show lu _);first|assumption|exact i9)
   |exact⟨rfl,rfl⟩
   |exact⟨rfl,rfl,rfl⟩
   |apply mR
   |apply b7
   |decide
   |(intros;rfl)
   |(intro _ h;cases h <;> rfl)
   |intro _
end _K
namespace _K
open _L _D
variable {K:Ai}
theorem N_:xp top tab:=by
 repeat (refine⟨?_,?_⟩;(intro _ _ _ _ _ _ Q h;first|(obtain⟨_,rfl⟩:=yo h;rfl)|(obtain⟨_,_,rfl⟩:=yn h;rfl)|(obtain⟨_,_,_,rfl⟩:=zq h;rfl)))
 exact trivial
theorem E6 {B J O T C U L G N E Q Y:Af}(q0:Dr K Cn "FarError" = Ab (Ab (.ref B)))(q1:Dr K Cn "NoPoint" = Ab (Ab (.ref J)))(q2:Dr K Cn "NoLot" = Ab (Ab (.ref O)))(q3:Dr K Cn "NoNumber" = Ab (Ab (.ref T)))(q4:Dr K Cn "NoCircle" = Ab (Ab (.ref C)))(q5:Dr K Cn "NoMarks" = Ab (Ab (.ref U)))(q6:Dr K Cn "NoFars" = Ab (Ab (.ref L)))(q7:Dr K Cn "NoText" = Ab (Ab (.ref G)))(q8:Dr K Cn "NoLine" = Ab (Ab (.ref N)))(q9:Dr K Cn "NoDeed" = Ab (Ab (.ref E)))(q10:Dr K Cn "Alike" = Ab (Ab (.ref Q)))(q11:Dr K Cn "TooMany" = Ab (Ab (.ref Y))):iA K (oi ⟨B,J,O,T,C,U,L,G,N,E,Q,Y⟩):=⟨q0,q1,q2,q3,q4,q5,q6,q7,q8,q9,q10,q11,trivial⟩
theorem E7 {k0 k1 k2 k3:Qc}(Y:Dr K Cn "LEAST_NUMBER" = Ab (Ab (.int (-1000) k0)))(Q:Dr K Cn "MOST_NUMBER" = Ab (Ab (.int (1000) k1)))(J:Dr K Cn "MOST_POINTS" = Ab (Ab (.int (40) k2)))(U:Dr K Cn "MOST_FIGURES" = Ab (Ab (.int (30) k3))):iB K qf:=⟨⟨_,Y⟩,⟨_,Q⟩,⟨_,J⟩,⟨_,U⟩,trivial⟩
theorem LG {P:Be}{w:Br}{mg:ai}{c:Cl}{fa:Af}(T:Txt K mg c)(nd:(zZ c).Nodup)(hT:(LD.all λy=>(Ej K y).isSome)=true)(hfa:mg "law" = Ab (.ref fa)) :
  ∃ fd:Fh,(∀ (s:Ag) (v:Ac),Ol s fd ⟨[v],[]⟩ [("_law_script",v)])/\∀ base:Bn,K.In base->base.Ns Cn mg->kw P w K mg base (ml P w) 9 fa fd ["_law_script"] (dQ K):=
 B6 (T.src 29 rfl) hfa (λkV doc pm an cdv ct s v=>.of_eq rfl) λbase=>B5 T nd hT
end _K
namespace PySem.W.Fast
theorem tw5541849745450958280:True:=⟨⟩
theorem tw9439758743258676160:True:=⟨⟩
theorem tw11115431274544165050:True:=⟨⟩
theorem tw16890975510309848843:True:=⟨⟩
theorem tw15952996662770675509:True:=⟨⟩
theorem tw17567952020307903495:True:=⟨⟩
theorem tw16502923050557044619:True:=⟨⟩
theorem tw14645747525499252379:True:=⟨⟩
theorem tw18400234640200130620:True:=⟨⟩
theorem tw12052831080721427681:True:=⟨⟩
theorem tw6267004209402360342:True:=⟨⟩
theorem tw1411032248332723767:True:=⟨⟩
theorem tw17859391483693404509:True:=⟨⟩
theorem tw6037957277064129249:True:=⟨⟩
theorem tw12315911659285683997:True:=⟨⟩
theorem tw13660741766000034323:True:=⟨⟩
theorem tw14871640843744717078:True:=⟨⟩
theorem tw7101503693796238172:True:=⟨⟩
theorem tw17280966038713488820:True:=⟨⟩
theorem tw571653579352888795:True:=⟨⟩
theorem tw12640148966268449765:True:=⟨⟩
theorem tw14262839606287857223:True:=⟨⟩
theorem tw17086855498239132972:True:=⟨⟩
theorem tw11598117203972587766:True:=⟨⟩
theorem tw5648551944416456977:True:=⟨⟩
theorem tw6974610199207767160:True:=⟨⟩
theorem tw6586226380185008681:True:=⟨⟩
theorem tw7473502972761044322:True:=⟨⟩
theorem tw1718700874704099757:True:=⟨⟩
theorem tw15745224133208075383:True:=⟨⟩
theorem tw930801634443339267:True:=⟨⟩
theorem tw8214904731742831101:True:=⟨⟩
theorem tw8786687262884073993:True:=⟨⟩
theorem tw9649317202713494212:True:=⟨⟩
theorem tw13699616799066731997:True:=⟨⟩
theorem tw15769584728513266635:True:=⟨⟩
theorem tw15429957830845169056:True:=⟨⟩
theorem tw17464525969505370841:True:=⟨⟩
theorem tw5849615945300400157:True:=⟨⟩
theorem tw608279727408144764:True:=⟨⟩
theorem tw5203059259828464438:True:=⟨⟩
theorem tw10265526343174884113:True:=⟨⟩
theorem tw4235323164126186669:True:=⟨⟩
theorem tw14131273150995716756:True:=⟨⟩
theorem tw14250249227209468055:True:=⟨⟩
theorem tw17807650601520379462:True:=⟨⟩
theorem tw7215488371663163638:True:=⟨⟩
theorem tw413666004990770455:True:=⟨⟩
theorem tw3207862298369527354:True:=⟨⟩
theorem tw7973096591177434122:True:=⟨⟩
theorem tw2883911960603736793:True:=⟨⟩
theorem tw14881492086665300538:True:=⟨⟩
theorem tw5256772784819260919:True:=⟨⟩
theorem tw12940091905771915966:True:=⟨⟩
theorem tw5136940896620380184:True:=⟨⟩
theorem tw11936164341520170770:True:=⟨⟩
theorem tw9366160289691030254:True:=⟨⟩
theorem tw8885002940273236031:True:=⟨⟩
theorem tw15687331868734979104:True:=⟨⟩
theorem tw11796490710510916653:True:=⟨⟩
theorem tw4304949105584203326:True:=⟨⟩
theorem tw8931164545281047606:True:=⟨⟩
theorem tw12084355890699617543:True:=⟨⟩
theorem tw6858190669916142691:True:=⟨⟩
theorem tw18093302055345835823:True:=⟨⟩
theorem tw13351920187668104093:True:=⟨⟩
theorem tw5923511809908789390:True:=⟨⟩
theorem tw12907019437513604456:True:=⟨⟩
theorem tw17666981519830044892:True:=⟨⟩
theorem tw5489542660128178241:True:=⟨⟩
theorem tw11566322634400972087:True:=⟨⟩
theorem tw8613284548503025360:True:=⟨⟩
theorem tw16368721075664031333:True:=⟨⟩
theorem tw15816117359269782547:True:=⟨⟩
theorem tw9418008806648282496:True:=⟨⟩
theorem tw12492647167912545364:True:=⟨⟩
theorem tw8446370683316967715:True:=⟨⟩
theorem tw9321416395995611257:True:=⟨⟩
theorem tw8372547528098928908:True:=⟨⟩
theorem tw5861788655897498274:True:=⟨⟩
theorem tw1689050684542783900:True:=⟨⟩
theorem tw7275575627166991158:True:=⟨⟩
theorem tw6406851462789905947:True:=⟨⟩
theorem tw7859692296974913047:True:=⟨⟩
theorem tw5242534056091453586:True:=⟨⟩
theorem tw11609581372252911537:True:=⟨⟩
theorem tw40804891640825103:True:=⟨⟩
theorem tw2087969416113135585:True:=⟨⟩
theorem tw10602613887414825622:True:=⟨⟩
theorem tw848141263973079939:True:=⟨⟩
theorem tw12108168764874944087:True:=⟨⟩
theorem tw15014384795625830494:True:=⟨⟩
end PySem.W.Fast
open PySem.W
set_option maxRecDepth 100000 in
set_option maxHeartbeats 0 in
theorem PySem.Challenge.cw_fewdistances_k95_lots_written_and_read_holds : PySem.Challenge.rw_fewdistances_k95_lots_written_and_read.Holds := by
 w_on;o_law;k_head;(case hw=>w_witness2)
 k_fill
 refine _D.A7 (l:=Px) (k:=9) (x:="_law_script") rfl rfl ⟨rfl,by decide,by decide,rfl⟩ (λ_=>by kernel_rfl) (λw h Y=>Y) ?F
 case F =>
  intro w mg fa h KX G hmg
  refine' _K.LG (_D.CZ _K.N_ ?hp rfl KX G ?s ?z (_K.E6 ?q0 ?q1 ?q2 ?q3 ?q4 ?q5 ?q6 ?q7 ?q8 ?q9 ?q10 ?q11) (_K.E7 ?gi0 ?gi1 ?gi2 ?gi3) ?e1 ?e2 ?e3 ?e4 ?e5 ?e6) ?nd ?hT hmg
  (case s=>(repeat (refine' ⟨_D.t_.mk ?a ?l ?c ?k,?_⟩;(case a=>k_is);(case l=>k_is);(case c=>k_is);(case k=>k_is)));exact trivial)
  (case z=>rfl)
  (case q0=>k_is)
  (case q1=>k_is)
  (case q2=>k_is)
  (case q3=>k_is)
  (case q4=>k_is)
  (case q5=>k_is)
  (case q6=>k_is)
  (case q7=>k_is)
  (case q8=>k_is)
  (case q9=>k_is)
  (case q10=>k_is)
  (case q11=>k_is)
  (case gi0=>k_is)
  (case gi1=>k_is)
  (case gi2=>k_is)
  (case gi3=>k_is)
  (case hp=>intro y hy;revert hy;simp;grind)
  (case e1=>rfl)
  (case e2=>rfl)
  (case e3=>rfl)
  (case e4=>rfl)
  (case e5=>rfl)
  (case e6=>rfl)
  (case nd=>decide)
  (case hT=>rfl)
