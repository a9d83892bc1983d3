import PyProof.Rows.All
import KE.KSortTup
import KE.KTab
import KE.KIntText
import KE.KNestM
import KE.KTryMore
import KE.KLam
import PySem.Challenge.RW_fewdistances_k96_deeds_at_the_desk
set_option Elab.async false
set_option linter.all false
set_option maxRecDepth 100000
set_option maxHeartbeats 0
set_option tactic.hygienic false
set_option bootstrap.genMatcherCode false
set_option genSizeOf false
set_option compiler.extract_closed false
open _root_ renaming rfl->Z
open Array renaming getElem?_toList->Bw,getElem?_eq_some_iff->Cq,getElem?_eq_getElem->Dj,length_toList->Do,getD->Jb,toList_push->Jk,getElem?_eq_none->Kv,mem_toList_iff->Oo,getD_eq_getD_getElem?->Qc,all_toList->Su,size_map->Vh,find?_toList->Wu,forIn_toList->WF,toList_inj->Zq,toList->AaK
open Array.Perm renaming refl->Mm
open Bool renaming and_eq_true->Av,false_eq_true->Bs,and_eq_true_iff->Ct,false_ne_true->Fc,noConfusion->Gm,false_and->Gp,and_false->Hu,eq_iff_iff->Ks,not_eq_true'->Lc,not_true->Mb,or_eq_true->Ow,not_false->Aa4,true_and->AaF
open Char renaming toNat->Jd
open Classical renaming byContradiction->Fa,choose->Oe,choose_spec->Of
open False renaming elim->Am
open ForInStep renaming yield->Ko
open Int renaming toNat_natCast->EQ,emod_lt_of_pos->Kj,le_refl->Lf,emod_nonneg->Mj,eq_ofNat_of_zero_le->Ng,not_lt->Ps,le_trans->Tn,le_of_lt->To,toNat_of_nonneg->Wp,ediv_one->Xe,le_antisymm->v4
open List renaming length_map->Ao,length_cons->Aw,mem_cons->Ay,getElem?_eq_getElem->Bd,size_toArray->Bf,length_append->Bj,all_eq_true->Bk,mem_cons_of_mem->Bm,prefix_refl->Bt,getElem?_eq_some_iff->Bv,mem_of_getElem?->Cb,mem_singleton->Cc,mem_append_right->Ce,mem_append->Cg,range->Ch,mem_map->Cj,getElem?_append_left->Co,mem_cons_self->Cr,replicate->Cu,length_nil->Cy,not_mem_nil->Cz,getElem?_set_ne->De,length_singleton->Df,map_map->Dk,map_append->Dq,mem_append_left->Ds,map_cons->Ee,mem_iff_getElem->Ef,getElem?_append_right->Eg,pairwise_map->Eh,lookup_cons->Eo,getElem?_map->Es,length_range->Et,lookup->Ev,contains_iff_mem->Ew,pairwise_cons->Fe,mem_range->Fg,getElem?_set_self->Fn,length_take->Fo,append_nil->Gg,length->Gh,flatMap_cons->Gv,filterMap_cons->Gw,nodup_cons->Gx,replicate_succ->Gy,mem_map_of_mem->Ha,length_pos_iff->Hb,take_of_length_le->Hc,length_drop->Hm,all_map->Ia,all_cons->Ik,getElem_mem->Il,mem_filterMap->Iu,getElem?_eq_none->Iy,flatten_cons->Ji,append_assoc->Jj,map_id->Jz,length_eq_zero_iff->Kc,zip_cons_cons->Kg,prefix_append->Kh,range_succ_eq_map->Kq,nil_append->Kt,length_filter_le->Lh,mem_of_mem_take->Lq,getElem_map->Ls,getD->Ma,map_congr_left->Md,map_eq_nil_iff->Me,forIn_cons->Mh,getElem?_replicate->Mx,toArray->Na,getElem?_cons_succ->Nb,pairwise_singleton->Nc,forIn_nil->Nj,length_eq_one_iff->Nv,mem_filter->Oq,length_set->Ov,eq_nil_of_length_eq_zero->Pa,append_toArray->Po,filterMap_map->Ql,exists_cons_of_ne_nil->Qx,set_comm->Rb,nodup_append->Rk,drop_eq_getElem_cons->Rl,pairwise_iff_getElem->Rq,map_take->Rz,getElem?_take_of_lt->Sd,length_erase_of_mem->Sg,getElem_inj->Sn,ext_getElem->Sz,map_fst_zip->Tc,eraseIdx_cons_succ->Ti,of_mem_zip->Tx,foldl_cons->T0,drop_eq_nil_of_le->TD,length_pos_of_mem->Uf,length_zip->Uj,filter_eq_nil_iff->Ul,append_eq_nil_iff->Um,mem_iff_getElem?->Uv,countP_mono_left->Vc,pairwise_append->Vm,mem_erase_of_ne->Vn,mem_of_mem_drop->Vp,any_cons->We,map_drop->Wq,dropWhile_cons->Wr,toList_toArray->Ws,lookup_append->Wy,getElem?_drop->Wz,map_nil->Xf,any_map->Xj,head?_append->Yr,zipIdx_cons->Zh,nodup_range->Zm,filter_cons->Zn,countP_cons->Zp,any_eq_true->Zu,zipIdx_nil->dL,map->wP,head?_cons->xL,foldl->Aa0,filterMap->Aa6,take->AaH
open List.Pairwise renaming nil->Nm,imp_of_mem->Sf
open List.Perm renaming refl->Aa5
open List.cons renaming inj->Ho
open Nat renaming le_refl->Ax,lt_of_lt_of_le->Bo,le_trans->By,le_of_ble_eq_true->Bz,ne_of_lt->Cn,lt_irrefl->Fh,zero_le->Fi,le_of_lt->Hi,ne_of_gt->Hj,lt_succ_self->Hl,toDigits->Jc,le_succ->Jt,succ_pos->Kf,le_of_lt_succ->Ld,not_lt->Lz,add_comm->Ph,lt_trans->Pi,mod_lt->Pq,isDigit_of_mem_toDigits->Qh,lt_of_le_of_lt->Qm,add_right_comm->Qn,zero_add->Tj,mul_le_mul_right->Vo,min_self->Xi,lt_trichotomy->Yd,lt_succ_of_lt->Yg,le_add_right->Zf
open Nat.succ renaming inj->AaL
open Ne renaming symm->Di
open Option renaming some->Aa,bind_eq_some_iff->Ej,map_eq_some_iff->Ep,map_eq_none_iff->Kr,isSome_iff_exists->Mo,bind_some->Og,getD_some->Sw,map_some->Ug,getD_none->Zb
open Option.some renaming inj->Cw
open Or renaming inr->Zd,inl->Aa7
open Prod renaming ext->Zx
open Prod.mk renaming injEq->AaI
open PyProof.Rows renaming seqObj->Ek,slot_tuple_getitem->Fj,envOfC->Fu,callWith_type1->Gq,part_short->Ib,assignInOrder_cons->Ir,IntsAre->Lj,get?_update_seq->Mn,AllBare->Nx,callWith_builtin1->On,assignInOrder_nil->Ra,subscriptTail->Ri,digit_range->Sm,IsTup->Tf,subscriptTail_builtinR->Tz,isBoolOf->Ue,lt_int->Vu,entry_tuple_getitem->Vw,Subscript_->Vy,args_tuple_getitem->Ww,unpackItems_tuple->Xr,toString_length_le->Aaa,entry_list_sort->v6
open PyProof.Rows.F renaming plain_set_update_loop->Io,entry_set_update_loop->Ml
open PyProof.Rows.IsTup renaming new->Ur
open PyProof.Rows.KTD renaming datumAt->Dl,inKeys->Fl
open PySem renaming Value->Ac,wpAny_bind->Ad,Addr->Af,Str->Ah,Shared->Ai,wpAny_pure->An,wpAny->Ap,model->As,Program->Ba,Heap->Bb,starEach->Bc,mainGlobals->Bi,Expr->Bl,Around->Bn,World->Bu,Obj->Cd,compareOp->Cs,wpAny_holding->Dc,wpAny_newObj_type->Dh,wpAny_field->Dr,wpAny_callSpecial?_slot->Dt,Stmt->Du,sizeLine_eq->Dv,wpAny_call_entry->Dx,Comprehension->Dz,Pos->Eb,binaryOp->Ec,backTo->Eu,Scope->Ez,cLine->Fk,wpAny_mono->Fm,SetTable->Fq,FuncData->Ft,attributeBase->Fz,mem_of_lookup->Ga,wpAny_setState_of->Gb,bootBuiltins->Gc,wpAny_setField->Ge,assignEach->Gk,codeAny->Gn,wpAny_seqItems->Gr,foldedSetIterable->Gs,wpAny_pyIter_list->Gu,Env->Hg,wpAny_standAt->Hk,wpAny_Call_Name_kw->Hr,NameKind->Hz,cellsFrom->HT,swappedStores->Ic,swapsWithSole->Ie,Builtin->Ih,intKind->Iq,wpAny_pyIter_tuple->Iw,wpAny_setField_rec->Ix,codeAny_builtin->Je,codeAny_call_builtin->Jm,rawInt->Jr,call_meets->Jv,excClassObj->Jw,wpAny_of_eq->Jx,wpAny_askSetting->Jy,codeAny_mono->Ka,noteFrame->Kb,IsPair->Ki,Sem->Kk,letOwnedTupleGo->Kl,wpAny_attempt->Kn,wpAny_rule->Kx,wpAny_call->Kz,ofAClassStatement->Le,wpAny_loadPart_at->Lg,firstArgMember->Ll,bindName->Lm,wpAny_typeOf->Lo,behindInMarks->Lu,typeIs_str->Lw,standAt->Lx,swapsWith->Ly,wpAny_passesOwn->Mf,sliceBounds->Mg,Tok->Ms,Within->Mw,wpAny_bindName->Ni,Model->Nk,wpAny_truthy_bool->Nl,assignInOrder->Ny,BindsTo->Nz,wpAny_forIn_list->NE,getItem->Oa,wpAny_isTrue_Compare1->Ob,keywordEach->Od,plainObj_wpAny_Assign_Attribute->Oh,wpAny_updateSeq_pair->Op,wpAny_execs_nil->Os,codeAny_of_tree->Oy,pickOrder->Pb,pyNext->Pd,pyIter->Pe,IsPart->Pg,sysModules->Pj,builtinsNs->Pl,wpAny_loadPart->Pw,IsZip->Py,slot_dict_contains->Qp,Result->Qs,hashByValue->Qw,GenState->Qy,getMethod->Rc,wpAny_sequenceKey->Rh,callerA->Rj,setFlight->Rn,wpAny_onRaise->Rp,setSearchFrom->Rt,plainId_quiet->Ru,slot_dict_getitem->Ry,wpAny_comprehension_free->Sl,wpAny_lookBehind->So,pastItsLine_dict->Sr,noFill_tuple_add->Ss,checkBuiltinCall->Sv,wpAny_isInstance->Sy,IsTupleKey->Ta,tupleKeyHash->Tk,ExcBaseFacts->Tp,wpAny_getItem_str_slice->Tq,bindArgs->Tw,OwnTail->Ua,backToKw->Uc,wpAny_Call_method_late->Ud,wpAny_specialOf->Uh,wpAny_ite_split->Ui,callWith->Uk,PassesOwn->Us,wpAny_throw->Ux,wpAny_letGo->Uy,builtinLookup_eq_fast->Va,recursionLimit->Ve,newFunctionEnv->Vg,isSubtype_type->Vi,CmpOp->Aab,bindL->Vs,bindC->Vt,seq_tuple_add->Vv,evalPart_none->Vx,isInstance->Wc,PlainAttrs->Wf,wpAny_handled->Wg,wpAny_setEntries_of->Wj,wpAny_newList->Wk,wpAny_isSubtype_exc->Wl,setState->Wt,wpAny_keeperOf_exc->WP,wpAny_pyIter_ascii->Xa,wpAny_nsSet1->Xb,concat_meets->Xd,passOn->Xn,wpAny_assign_Name->Xp,slot_list_getitem->Xv,list_append->Xw,lastMarks->Xx,ClassData->Xy,pushCells->XV,searchCouldBeSeen->Yc,wpAny_storeSet_of->Yf,wpAny_pyIter_slot->Yh,wpAny_collect_seq->Yk,DictEntry->Yl,wpAny_Call_ofName->Yo,Ctx->Aac,wpAny_pyHash_str->Ys,wpAny_eqBool_int->Yt,wpAny_execs_cons->Yv,unaryOp->Yw,getAttr->Yy,seqIndex_of->Za,callGetattribute->Ze,newExc->Zg,wpAny_pyIter_zip->Zk,wpAny_alloc->Zl,exec_Assign_arm->Zv,Operator->Zy,getAttrByItsOwn->Zz,raiseNew->ZB,compTurn->f8,typeLookup_type->sK,wpAny_updateSeq->t0,post_val_or_str->wS,pushCells_keeps->wT,call->Aa1,isTrue->AaN
open PySem.Around renaming under_plainId->Jn,under->Th,frames_deeper->Vj
open PySem.Builtin.Frozenset renaming sizeOf->Si,updateFrom->Aa2,newClass->Aa9
open PySem.Builtin.Getset_descriptor renaming descrCheckInstance->Ts,descrNameAndClass->Ub,descrGetter->Wb,descrGet->Xh
open PySem.Builtin.List renaming listTooLong->Mq,listLengthHint->Pz,listExtendWith->Qb,listSameRef->Sj
open PySem.Builtin.ObjectAttr renaming bindTo->Ro,dataDescriptor?->Xg,storeInOwnDict->Ym,getOf->AaJ,find->AaM
open PySem.Builtin.Slice renaming slicePlaces->Jh,sliceAdjust->Lv,sliceApplied->Qt
open PySem.Builtin.SmallTypes renaming nextOf->Cp,ownedTupleIsFree->Gi,ownedTupleHandOut->Mi
open PySem.Builtin.Str renaming occurrences->Go,strSliceIndices->Ip,subAt->Np,strSub->Qq,glued->Sc,partsBetween->Sk,strKind->Wm
open PySem.Builtin.Tuple renaming tupleExact->Jo,tupleItemsOf->Qu,tupleCompareSizes->Yz
open PySem.Calls renaming spliced_cons->Hq,evalArgs_plain->Jl,spliced_nil->Lb,callWith_builtin->Nu,Constant_str->Qk,Name_function_global->Qr,call_function_entry->Rv
open PySem.Challenge renaming pw_fewdistances_k96_deeds_at_the_desk->Qg,rw_fewdistances_k96_deeds_at_the_desk->Qi
open PySem.Code renaming quiet_builtin->Mv,isFrame->Xc,compLoop->AaC
open PySem.EntryCells renaming newEntry->Wa
open PySem.F renaming called_set->Gj,excBase_ValueError->Hd,slot_str_ascii_iterator_next->Hw,slot_tuple_iterator_next->Ja,attr_ValueError->Ke,args_tuple_add_2->Mp,entry_tuple_add->My,slot_tuple_add->Nt,args_str_ascii_iterator_next_1->Nw,entry_str_ascii_iterator_next->Ol,slot_zip_next->Ox,args_tuple_iterator_next_1->Pp,entry_tuple_iterator_next->Px,args_str_split_2->Qo,entry_str_split->Rx,slot_str_split->Te,plain_list_iadd->Tl,entry_bexc_ga->Uu,plain_set_new->Uz,slot_set_iter->Vb,args_list_append_2->Vk,args_bexc_ga->Vl,entry_list_append->Vz,slot_list_append->Wx,args_zip_next_1->Xz,entry_zip_next->Zj,slot_int_rmul->sB
open PySem.Flow renaming next->Xq
open PySem.Heap renaming get?_push_of_some->Ak,get?_push_size->Be,lt_size->Bh,get?_update_other->Ci,get?_update_self->Dy,size_push->Er,SameBut->Ex,get?_none_of_le->Hx,MadeExcOf->Qf,ExtBut->Uw,get?_push_at->Yn,IsList->Zi
open PySem.Heap.IsSliceOf renaming new->AaP
open PySem.Heap.Ns1 renaming of_empty->Xs
open PySem.Heap.SameBut renaming update->Gz,refl->Ye
open PySem.IsL renaming update->Zc
open PySem.MeetsSeq renaming list_index->AaB,EqGives->AaO
open PySem.NameKind renaming free->Hn,cell->Oc
open PySem.Obj renaming mapSeq->Ey,data_mapFields->Hs,isFreed_of_fields->IN,mapFields->Km,cls_mapFields->Rm
open PySem.P renaming add_list->Sx
open PySem.SeqAt.EqAt renaming bool_bool->Aa8,same->AaA
open PySem.SetTable renaming below->Cf,insertAt->DL,sizeAbove->Ff,runEnd->He,grown->Hv,insertAt_perm->Ku,Probe->Nn,fill->Rr,toList_insertAt->Se,laid->Wh,has->Xk,layClean->Yb,tooFull->Zo,slot->AaD,fits->AaE
open PySem.SetTable.below renaming go->Ya
open PySem.SetTable.layClean renaming free->Im
open PySem.SetTable.probe renaming go->No
open PySem.Shared renaming heap->Qv,TypeIs->Wi
open PySem.Str renaming ofString->Fd,length->Ju,empty->Ou
open PySem.StrLaws renaming partsBetween_eq->Nh,glued_eq_join->Om,partsFrom->Sb,removeprefix_eq->Tr,subAt_one->Yq
open PySem.Unicode renaming isDecimal->Sa
open PySem.Value renaming ref->Ca,none->El,bool->Fb,type->Ht,builtin->L2,int->Uo,str->Xo,float->Yu
open PySem.W renaming Frag->Ag,nsIn->Bp,keepIn->Da,findIn->Dd,tabIn->Dm,kia_one->Ea,fnOf->Fp,emptyDict->Fy,hideAll->Gf,instObj->Hy,codeIn->Jp,exmOne->Jq,mg_of->Kw,hasDictIn->KT,kitOne->Li,hideAll_none->Lp,plainGet->Lr,kas_rev->Mc,nsMap_none_of_in->Mr,callWith_K->Mt,isNs_of_in->Mu,looks_findIn->Mz,cellsFrom_some->Nr,makesIn->Ot,kas_sort->Pc,hideAll_get->Pk,plainGet_of->Pm,lookIn->Pv,tabObj->Qe,of_hideAll->Qj,methodObj->Qz,plainOver->Re,kitx_list->Rg,clsIn->Rw,isFn->Tg,takerIn->Tv,funFrames_hide->TW,looks_mroIn->Ut,methodCall_KW->Vd,nsOkIn->Vf,mroIn->Vr,callWith_K0->Wn,kitx_tuple->Wv,kas_descPart->Xm,specialIn->Xt,kitx_dict->Xu,kas_count->Yi,kas_place->Yj,handedIn->Yx,looks_clsIn->Zr,takesIn->Zw,kas_desc->u8,OpenLaw->wE,CodeHd->Aa3,WalkO->AaG
open PySem.Within renaming cons->Rf,nil->Td
open PySem.pickOrder renaming go->Xl
open Sum renaming inl->Tt,inr->Tu
open True renaming intro->Js
open _root_ renaming List->Ab,Nat->Aj,Option->Al,Int->Aq,Bool->Ar,if_pos->Au,decide_eq_true_eq->Az,if_neg->AT,of_decide_eq_true->Bg,decide_eq_false->Bq,Array->Br,decide_eq_true->Cm,if_false->Dp,if_true->Dw,of_decide_eq_false->Ei,String->Em,beq_self_eq_true->En,False->Fv,or_false->Fw,beq_eq_false_iff_ne->Fx,beq_iff_eq->Ig,Decidable->Jf,True->Jg,decide_eq_false_iff_not->Nd,Unit->Nq,ne_true_of_eq_false->Pu,DecidableEq->Uq,decide_eq_decide->Zs
open Option renaming none->Zt
open Bool renaming true->Vq
open Bool renaming false->Yp
open PySem PySem.Spec PyProof.Rows
local macro_rules|`(tactic|fin2)=>`(tactic|omega)
abbrev J0:=Ab (Af × Cd)
abbrev J7:=Ac->Ai->Prop
abbrev J8:=Ah->Al Ac
abbrev J9:=Ab Af
abbrev Y0:=Ab Ah
abbrev Y8:=Ab Ac
noncomputable section
def om {p:Prop}(h:p:=by fin2):p:=h
def aC {p:Prop}[Decidable p](h:p:=by decide):p:=h
def ak {p:Prop}(h:p:=by lia):p:=h
def aA {p:Prop}(h:p:=by simp):p:=h
def li {p:Prop}(h:p:=by lia):p:=h
def kd {p:Prop}[Jf p](h:p:=by decide +kernel):p:=h
section
namespace _L
abbrev ku:=Sum Aq Ah
def M0:ku->Ac->Ar
 |.inl k,v=>Value.isInt k v
 |.inr x,v=>Value.isStrOf x v
noncomputable def qBp (w:Bu):ku->Aq
 |.inl k=>hashInt k
 |.inr x=>hashStr w x
def xI:∀ {k:ku} {v:Ac},M0 k v=Vq->(∃ i t,k=Tt i/\v=Uo i t)\/(∃ x t,k=Tu x/\v=Xo x t)
 |.inl i,v,h=>by
  obtain⟨t,e⟩:=Value.isInt_shape (k:=i) (v:=v) h;exact .inl ⟨i,t,rfl,e⟩
 |.inr x,v,h=>by obtain⟨t,e⟩:=Value.isStrOf_shape (x:=x) (v:=v) h;exact .inr ⟨x,t,rfl,e⟩
def CP (a b:Aq):decide ((Tt a:ku)=Tt b)=(a == b):=by
 by_cases e:a=b
 .subst e;simp
 .have h:¬ (Tt a:ku)=Tt b:=λq=>e (Sum.inl.inj q);rw[Bq h];exact(Fx.mpr e).symm
def CT (a b:Ah):decide ((Tu a:ku)=Tu b)=decide (a=b):=by
 by_cases e:a=b
 .subst e;simp
 .have h:¬ (Tu a:ku)=Tu b:=λq=>e (Sum.inr.inj q);rw[Bq h,Bq e]
def CQ (a:Aq)(b:Ah):decide ((Tt a:ku)=Tu b)=false:=Bq (λq=>nomatch q)
def CS (a:Ah)(b:Aq):decide ((Tu a:ku)=Tt b)=false:=Bq (λq=>nomatch q)
def sL (prog:Ba)(w:Bu):PySem.KeyKind prog w ku where
 is:=M0
 hash:=qBp w
 inj:=λv a b J Y=>by
  rcases xI J with⟨i,t,rfl,rfl⟩|⟨x,t,rfl,rfl⟩
  .rcases xI Y with⟨j,u,rfl,e⟩|⟨y,u,rfl,e⟩
   .injection e with Q _;rw[Q]
   .exact nomatch e
  .rcases xI Y with⟨j,u,rfl,e⟩|⟨y,u,rfl,e⟩
   .exact nomatch e
   .injection e with Q _;rw[Q]
 byValue:=λk v h=>by rcases xI h with⟨i,t,rfl,rfl⟩|⟨x,t,rfl,rfl⟩ <;> rfl
 pyHash:=λhv h=>by
  rcases xI hv with⟨i,t,rfl,rfl⟩|⟨x,t,rfl,rfl⟩
  .exact wpAny_pyHash_int h
  .exact Ys h
 eqBool:=λU hv h=>by
  rcases xI U with⟨i,t,rfl,rfl⟩|⟨x,t,rfl,rfl⟩
  .rcases xI hv with⟨j,u,rfl,rfl⟩|⟨y,u,rfl,rfl⟩
   .rw[CP] at h;exact Yt h
   .rw[CQ] at h;exact SeqAt.EqAt.int_str i t y u _ _ _ _ h
  .rcases xI hv with⟨j,u,rfl,rfl⟩|⟨y,u,rfl,rfl⟩
   .rw[CS] at h;exact SeqAt.EqAt.str_int x t j u _ _ _ _ h
   .rw[CT] at h;exact wpAny_eqBool_str h
 «strs»:=λk x t v h=>by
  rcases xI h with⟨i,u,rfl,e⟩|⟨y,u,rfl,e⟩
  .exact nomatch e
  .injection e with Q _
   subst Q;cases v <;> rfl
end _L
namespace _L
variable {us:Y8}{b:Af}
inductive V where
 |non|bl (b:Ar)|int (i:Aq)|str (x:Ah)|byt (b:Br UInt8)|flt (b:UInt64)|ref (a:Af)|ty (n:Em)
 deriving Uq
def qR:V->Ac->Prop
 |.non,u=>u=El
 |.bl b,u=>u=Fb b
 |.int i,u=>∃ t,u=Uo i t
 |.str x,u=>∃ t,u=Xo x t
 |.byt b,u=>∃ t,u=Value.bytes b t
 |.flt b,u=>∃ t,u=Yu b t
 |.ref a,u=>u=Ca a
 |.ty n,u=>u=Ht n
abbrev qQ:Ab V->Ab Ac->Prop:=Paired qR
def qQ.length (r:qQ xs us):xs.length=us.length:=Paired.length r
theorem qQ.get:∀ {xs:Ab V} {us:Y8} {i:Aj} {x:V},qQ xs us->xs[i]? = Aa x->∃ u,us[i]? = Aa u/\qR x u
 |_,_,_,_,.nil,e=>by simp at e
 |_,_,0,_,.cons r _,e=>by simp at e;subst e;exact⟨_,rfl,r⟩
 |_,_,i+1,x,.cons _ t,e=>by obtain⟨u,Q,Y⟩:=qQ.get (i:=i) (x:=x) t (by simpa using e);exact⟨u,by simpa using Q,Y⟩
theorem qQ.set (r:qR x u):∀ {xs:Ab V} {us:Y8} (i:Aj),qQ xs us->qQ (xs.set i x) (us.set i u)
 |_,_,_,.nil=>.nil
 |_,_,0,.cons _ t=>.cons r t
 |_,_,i+1,.cons q t=>.cons q (qQ.set r i t)
def qQ.append (h:qQ xs us)(s:qQ ys ws):qQ (xs++ys) (us++ws):=by
 induction h with
 |nil=>exact s
 |cons r t Q=>exact .cons r Q
theorem qQ.take:∀ {xs:Ab V} {us:Y8} (n:Aj),qQ xs us->qQ (xs.take n) (us.take n)
 |_,_,0,_=>.nil
 |_,_,_+1,.nil=>.nil
 |_,_,n+1,.cons r t=>.cons r (qQ.take n t)
theorem qQ.drop:∀ {xs:Ab V} {us:Y8} (n:Aj),qQ xs us->qQ (xs.drop n) (us.drop n)
 |_,_,0,r=>r
 |_,_,_+1,.nil=>.nil
 |_,_,n+1,.cons _ t=>qQ.drop n t
def uH:Al V->Al Ac->Prop
 |some v,Aa u=>qR v u
 |none,Zt=>Jg
 |_,_=>Fv
def KV {κ:Type}:Ab (κ × V)->Ab (κ × Ac)->Prop:=Paired λ(p:κ × V) (q:κ × Ac)=>p.1=q.1/\qR p.2 q.2
def kV:ku->V
 |.inl i=>.int i
 |.inr x=>.str x
inductive HO where
  |lst (xs:Ab V)
  |tup (xs:Ab V)
  |dK (kvs:Ab (ku × V))|dT (kvs:Ab (Ab ku × V))
  |set (S:Aq->Ar) (n:Aj)
  |ins (C dx:Af) (fs:Ab (Ah × V))
  |own (x:Af)
  |xd (fs:Ab (Ah × V))
  |met (f x:Af)
  |rng (lo hi:Aq)
  |frz (o:Cd) (u:HO)
  |tbl (ps:Br Ac)
  |ext (φ : Bb->Prop)
abbrev Hp:=Af->Al HO
noncomputable def bx (H:Hp)(a:Af)(o:HO):Hp:=λb=>if b=a then Aa o else H b
def qT:bx H a o a=Aa o:=by unfold bx;rw[Au Z]
def qN {a:Af}(h:b≠a):bx H a o b=H b:=by unfold bx;rw[AT h]
def R6:bx (bx H a o) a u=bx H a u:=by funext b;unfold bx;split <;> rfl
def zE {H:Hp}(h:H a=Aa o)(h':H b=Zt):a≠b:=by intro e;subst e;rw[h] at h';cases h'
section
variable (P:Ba)(w:Bu)
def zR (H:Hp)(h:Bb)(a:Af):HO->Prop
 |.lst Y=>Y.length<=sizeLine/\∃ (G:Y8) (n:Aj),qQ Y G/\h.get? a=Aa { cls:=.type "list",data:=.seq G.toArray n }
 |.tup Y=>Y.length<=sizeLine/\∃ G:Ab Ac,qQ Y G/\Tf h a G.toArray
 |.dK Q=>Q.length<=sizeLine/\(a == Pj)=Yp/\∃ T,KV Q T/\h.DictOf (sL P w) a T
 |.dT Q=>Q.length<=sizeLine/\(a == Pj)=Yp/\∃ Y:Ab (Ab ku × Af × Ac),
   Paired (λ(p:Ab ku × V) (q:Ab ku × Af × Ac)=>p.1=q.1/\H q.2.1=Aa (.tup (p.1.map kV))/\qR p.2 q.2.2) Q Y /\
   ∃ o B E,h.get? a=Aa o/\o.ExactDict/\o.data=.dict B E/\B.toList=Y.map (entryOfKey (tupleKind (sL P w)))/\(Y.map (·.1)).Nodup
 |.set S n=>h.SetOf (Iq P w) a S n
 |.ins C N U=>H N=Aa (.own a)/\U.length<=1000/\N≠a/\h.get? a=Aa (Hy C N) /\
   ∃ J,h.Ns1 N J/\(∀ f,uH (U.lookup f) (J f))/\Mw J (U.map (·.1))
 |.own _=>∃ o,h.get? a=Aa o
 |.xd U=>∃ J,h.Ns1 a J/\∀ f,uH (U.lookup f) (J f)
 |.rng lo A=>∃ t u v,h.get? a=Aa { cls:=.type "range",data:=.fields #[.int lo t,.int A u,.int 1 v] }
 |.frz o u=>h.get? a=Aa o/\zR H h a u
 |.tbl I=>h.get? a=Aa { cls:=.none,data:=.fields I }
 |.met f x=>h.get? a=Aa (Qz (.ref f) (.ref x))
 |.ext φ => φ h/\(∃ o,h.get? a=Aa o)/\∀ O L:Bb,φ O->(∀ o,O.get? a=Aa o->L.get? a=Aa o)->φ L
def jm (H:Hp)(h:Bb):Prop:=∀ a o,H a=Aa o->zR P w H h a o
end
section
variable {P:Ba}{w:Bu}{H H':Hp}{h h':Bb}{a:Af}{o:HO}
theorem zR.lt (x:zR P w H h a o):a<h.objs.size:=by
 cases o with
 |lst Y=>obtain⟨_,_,_,_,e⟩:=x;exact Bh e
 |tup Y=>obtain⟨_,_,_,p⟩:=x;exact p.lt
 |dK Q=>obtain⟨_,_,_,_,o,_,_,e,_⟩:=x;exact Bh e
 |dT Q=>obtain⟨_,_,_,_,o,_,_,e,_⟩:=x;exact Bh e
 |set S n=>obtain⟨o,_,_,_,e,_⟩:=x;exact Bh e
 |ins C G J=>obtain⟨_,_,_,e,_⟩:=x;exact Bh e
 |own y=>obtain⟨_,e⟩:=x;exact Bh e
 |xd J=>obtain⟨_,⟨_,_,_,e,_⟩,_⟩:=x;exact Bh e
 |rng lo O=>obtain⟨_,_,_,e⟩:=x;exact Bh e
 |frz U u=>obtain⟨e,_⟩:=x;exact Bh e
 |tbl N=>exact Bh (show h.get? a=Aa _ from x)
 |met f y=>exact Bh (show h.get? a=Aa _ from x)
 |ext φ => obtain⟨_,⟨_,e⟩,_⟩:=x;exact Bh e
def Paired.mapP {J β:Type}{F G:J->β->Prop}{Q:Ab J}{Y:Ab β}(h:Paired F Q Y)(f:∀ a b,F a b->G a b):Paired G Q Y:=by
 induction h with
 |nil=>exact .nil
 |cons r t U=>exact .cons (f _ _ r) U
def zR.stay (x:zR P w H h a o)(k:∀ b u,(b=a\/H b=Aa (.own a))->h.get? b=Aa u->h'.get? b=Aa u)
  (M:∀ b,H b=Aa (.own a)->H' b=Aa (.own a)) (T:∀ b xs,H b=Aa (.tup xs)->H' b=Aa (.tup xs)):zR P w H' h' a o:=by
 induction o with
 |lst xs=>obtain⟨z,O,n,r,e⟩:=x;exact⟨z,O,n,r,k _ _ (.inl rfl) e⟩
 |tup xs=>obtain⟨z,O,r,Q,e,c⟩:=x;exact⟨z,O,r,Q,k _ _ (.inl rfl) e,c⟩
 |dK U=>obtain⟨z,y,j,r,Q,Y,J,e,c⟩:=x;exact⟨z,y,j,r,Q,Y,J,k _ _ (.inl rfl) e,c⟩
 |dT U =>
  obtain⟨z,y,xs,r,Q,Y,J,e,c⟩:=x;exact⟨z,y,xs,Paired.mapP r λp q z=>⟨z.1,T _ _ z.2.1,z.2.2⟩,Q,Y,J,k _ _ (.inl rfl) e,c⟩
 |set S n=>obtain⟨Q,Y,J,t,e,c⟩:=x;exact⟨Q,Y,J,t,k _ _ (.inl rfl) e,c⟩
 |ins C l L =>
  obtain⟨d,z,A,e,N,⟨G,Y,J,E,c⟩,r⟩:=x;exact⟨M _ d,z,A,k _ _ (.inl rfl) e,N,⟨G,Y,J,k _ _ (.inr d) E,c⟩,r⟩
 |own y=>obtain⟨Q,e⟩:=x;exact⟨Q,k _ _ (.inl rfl) e⟩
 |xd L=>obtain⟨N,⟨G,Y,J,e,c⟩,r⟩:=x;exact⟨N,⟨G,Y,J,k _ _ (.inl rfl) e,c⟩,r⟩
 |rng lo g=>obtain⟨t,u,v,e⟩:=x;exact⟨t,u,v,k _ _ (.inl rfl) e⟩
 |frz Q u I=>obtain⟨e,q⟩:=x;exact⟨k _ _ (.inl rfl) e,I q⟩
 |tbl B =>
  have e:h.get? a=Aa { cls:=.none,data:=.fields B }:=x;show h'.get? a=Aa { cls:=.none,data:=.fields B };exact k a _ (.inl Z) e
 |met f y =>
  have e:h.get? a=Aa (Qz (.ref f) (.ref y)):=x;show h'.get? a=Aa (Qz (.ref f) (.ref y));exact k a _ (.inl Z) e
 |ext φ => obtain⟨p,⟨o,e⟩,st⟩:=x;exact⟨st _ _ p λo q=>k _ _ (.inl rfl) q,⟨o,k _ _ (.inl rfl) e⟩,st⟩
def jm.lt (x:jm P w H h)(e:H a=Aa o):a<h.objs.size:=(x a o e).lt
def jm.fresh (x:jm P w H h)(e:h.objs.size<=a):H a=none:=by
 cases q:H a with
 |none=>rfl
 |some u=>exact absurd (Bo (x.lt q) e) (Fh _)
def jm.kept (x:jm P w H h)(k:∀ b u,h.get? b=Aa u->h'.get? b=Aa u):jm P w H h':=λa o e =>
 (x a o e).stay (λb u _ q=>k b u q) (λ_ q=>q) λ_ _ q=>q
def jm.laid (x:jm P w H h)(k:∀ b u,h.get? b=Aa u->h'.get? b=Aa u)(hp:h.objs.size<=a)(Q:zR P w (bx H a o) h' a o):jm P w (bx H a o) h':=λb u e=>by
 have J:=x.fresh hp;by_cases Y:b=a
 .subst Y;rw[qT] at e;cases e;exact Q
 .rw[qN Y] at e;exact(x b u e).stay (λc v _ q=>k c v q) (λc q=>by rw[qN (zE q J)];exact q) λc U q=>by rw[qN (zE q J)];exact q
end
def Rd (H:Hp)(a:Af)(u:HO):Prop:=H a=Aa u\/∃ o,H a=Aa (.frz o u)
def Rd.ok {P:Ba}(r:Rd H a u)(x:jm P w H h):zR P w H h a u:=by
 rcases r with r|⟨o,r⟩
 .exact x a u r
 .obtain⟨_,q⟩:=x a _ r;exact q
def Z9:Al HO->Prop
 |some (.lst _)=>Jg
 |some (.dK _)=>Jg
 |some (.dT _)=>Jg
 |some (.set _ _)=>Jg
 |some (.ins _ _ _)=>Jg
 |some (.ext _)=>Jg
 |_=>Fv
section
variable {P:Ba}{w:Bu}{H:Hp}{h h':Bb}{x e:Af}{o':HO}
def jm.write (ok:jm P w H h)(N:Z9 (H x))(L:e=x\/H e=Aa (.own x))(k:∀ b u,b≠e->h.get? b=Aa u->h'.get? b=Aa u)(C:∃ u,h'.get? e=Aa u)
  (O:zR P w (bx H x o') h' x o'):jm P w (bx H x o') h':=λb u q=>by
 have Y:∀ c y,H c=Aa (.own y)->c≠x:=λc y r z=>by subst z;rw[r] at N;exact N
 have J:∀ c U,H c=Aa (.tup U)->c≠x:=λc U r z=>by subst z;rw[r] at N;exact N
 by_cases G:b=x
 .subst G;rw[qT] at q;cases q;exact O
 .rw[qN G] at q;by_cases Q:b=e
  .have B:H b=Aa (.own x):=by
    rcases L with z|z
    .exact absurd (Q.trans z) G
    .rw[Q];exact z
   rw[q] at B;cases B;obtain⟨v,hv⟩:=C;exact⟨v,by rw[Q];exact hv⟩
  .refine(ok b u q).stay (λc v hc r=>k c v ?_ r) (λc r=>by rw[qN (Y c b r)];exact r) λc U r=>by rw[qN (J c U r)];exact r
   rcases hc with rfl|hc
   .exact Q
   .rintro rfl;rcases L with z|z
    .exact Y c b hc z
    .rw[hc] at z;cases z;exact G rfl
end
structure Un (fs ex:J9)(H H':Hp)(h h':Bb):Prop where
 keep:∀ b o,h.get? b=Aa o->H b=Zt->b ∉ fs->b ∉ ex->h'.get? b=Aa o
 slot:∀ b o,h.get? b=Aa o->H b=Zt->b∈fs->b ∉ ex->∃ sl,h'.get? b=Aa { o with slots:=sl }
 free:∀ b o,h.get? b=Aa o->H b=Zt->b ∉ ex->H' b=Zt
 there:∀ b o,h.get? b=Aa o->b ∉ ex->∃ o',h'.get? b=Aa o'
 tups:∀ b xs,H b=Aa (.tup xs)->H' b=Aa (.tup xs)
 frzs:∀ b o u,H b=Aa (.frz o u)->H' b=Aa (.frz o u)
 tbls:∀ b ps,H b=Aa (.tbl ps)->∃ more,H' b=Aa (.tbl (ps++more))
section
variable {fs ex:J9}{H H1:Hp}{h h1 h':Bb}{a x e:Af}{o:HO}
def Un.any (u:Un fs ex H H1 h h1){b:Af}{Q:Cd}(q:h.get? b=Aa Q)(n:H b=Zt)(Y:b ∉ ex):∃ U,h1.get? b=Aa { Q with slots:=U }:=by
 by_cases J:b∈fs
 .exact u.slot b Q q n J Y
 .exact⟨Q.slots,u.keep b Q q n J Y⟩
def Un.kept (k:∀ b u,h.get? b=Aa u->h'.get? b=Aa u):Un fs ex H H h h':=
 ⟨λb Q q _ _ _=>k b Q q,λb Q q _ _ _=>⟨Q.slots,k b Q q⟩,λ_ _ _ n _=>n,λb Q q _=>⟨Q,k b Q q⟩,λ_ _ q=>q,λ_ _ _ q=>q,λ_ Y q=>⟨#[],by rw[q];simp⟩⟩
def Un.refl:Un fs ex H H h h:=Un.kept λ_ _ q=>q
def Un.laid (k:∀ b u,h.get? b=Aa u->h'.get? b=Aa u)(hp:h.objs.size<=a)(Q:H a=Zt):Un fs ex H (bx H a o) h h' where
 keep:=λb u q _ _ _=>k b u q
 slot:=λb u q _ _ _=>⟨u.slots,k b u q⟩
 free:=λb u q n _=>by rw[qN (Cn (Bo (Bh q) hp))];exact n
 there:=λb u q _=>⟨u,k b u q⟩
 tups:=λb Y q=>by rw[qN (zE q Q)];exact q
 frzs:=λb u Y q=>by rw[qN (zE q Q)];exact q
 tbls:=λb J q=>⟨#[],by rw[qN (zE q Q),q];simp⟩
def Un.write (Y:Z9 (H x))(O:e=x\/H e=Aa (.own x))(k:∀ b u,b≠e->h.get? b=Aa u->h'.get? b=Aa u)(J:∃ u,h'.get? e=Aa u):Un fs ex H (bx H x o) h h':=by
 have G:∀ b,H b=Zt->b≠x:=λb n z=>by subst z;rw[n] at Y;exact Y
 have N:∀ b,H b=Zt->b≠e:=λb n z=>by
  subst z;rcases O with r|r
  .exact G b n r
  .rw[n] at r;cases r
 have U:∀ b u,H b=Aa u->¬ Z9 (Aa u)->b≠x:=λb u q B z=>by subst z;rw[q] at Y;exact B Y
 refine⟨λb u q n _ _=>k b u (N b n) q,λb u q n _ _=>⟨u.slots,k b u (N b n) q⟩,λb u q n _=>by rw[qN (G b n)];exact n,λb u q _=>?_,
  λb C q=>by rw[qN (U b _ q λz=>z)];exact q,λb u C q=>by rw[qN (U b _ q λz=>z)];exact q,λb L q=>⟨#[],by rw[qN (U b _ q λz=>z),q];simp⟩⟩
 by_cases Q:b=e
 .subst Q;exact J
 .exact⟨u,k b u Q q⟩
end
noncomputable def T_ (h:Bb)(H:Hp):Ab Af:=(Ch h.objs.size).filter λa=>(H a).isSome
def pV (h:Bb)(H:Hp):Bb:=Gf h (T_ h H)
theorem VY (h:Bb)(H:Hp):(pV h H).objs.size=h.objs.size:=PySem.W.hideAll_size _ _
def P7 {h:Bb}{H:Hp}(e:h.get? b=Aa o)(n:H b=Zt):(pV h H).get? b=Aa o:=
 Pk _ e λQ=>by have q:(H b).isSome=true:=(Oq.mp Q).2;rw[n] at q;simp at q
def D8 (e:(pV h H).get? b=Aa o):h.get? b=Aa o/\H b=none:=by
 have Q:h.get? b=Aa o:=Qj (T_ h H) e;refine⟨Q,?_⟩;cases q:H b with
 |none=>rfl
 |some x =>
  have Y:b∈T_ h H:=Oq.mpr ⟨Fg.mpr (Bh Q),by simp[q]⟩;have z:(pV h H).get? b=none:=Lp (T_ h H) Y;rw[z] at e;cases e
end _L
namespace _L
variable {ch:J9}{E:J7}{t':Aj}{g':Br Qy}{d':Drawn}{M:Nk}{Q:Nq->Ai->Prop}
noncomputable def u9:Ab Ah:=["law","_law_right","by_hull","pair_bound","hub","greatest_often"]
def RE (mg:J8)(h:Bb):Prop:=∃ Y o,mg "__builtins__" = Aa (.ref Y)/\Y≠Pl/\h.get? Y=Aa o/\o.cls=.type "module" /\ o.dict=Aa Pl/\o.data=.plain
structure Mod (K:Ag)(mg:J8)(base:Bb):Prop where
 kin:K.In base
 glob:base.Ns Bi mg
 blt:∃ mb,base.Ns Pl mb/\∀ x:Ah,x ≠ "__name__" -> mb x=Gc x
 nolimit:base.NoLimit
 bm:RE mg base
 code:∀ x∈u9,∀ c T,Dm K x=Aa (c,T)->Aa3 base c T
 inj:∀ x∈u9,∀ y∈u9,∀ c d T,Dm K x=Aa (c,T)->Dm K y=Aa (d,T)->x=y
structure Cx where
 prog:Ba
 w:Bu
 K:Ag
 mg:Ah->Al Ac
 base:Bb
 A:Bn
 N:Ab Ah
 s₀:Ai
 H₀:Hp
 env:Hg
 outer:Ab Hg
 stack:Ab Hg
 ex:Ab Af
 fn:Ah->Ar
 calm:Ar
 pn:Ab (Af × Cd)
 xe:Ac->Ai->Prop
noncomputable def gv (l:Ab Hg):Ab Af:=l.filterMap (·.frame)
abbrev Cx.fs (X:Cx):Ab Af:=gv X.outer
def qg (Y:Ez)(x:Ah):Prop:=Y.names.lookup x=Aa .local \/ Y.names.lookup x=Aa .cell\/Y.names.lookup x=Aa .free
def Loc (Y:Ez)(x:Ah):Prop:=Y.names.lookup x=Aa .local \/ Y.names.lookup x=Aa .cell
def RI (ac:Hg)(h:Bb)(m:J8)(x:Ah)(u:Ac):Prop:=
 (ac.kindOf x=Aa .local /\ m x=Aa u)\/((ac.kindOf x=Aa .cell\/ac.kindOf x=Aa .free)/\∃ c,ac.cells.lookup x=Aa c/\h.IsCell c (Aa u))
structure Cx.Ok (X:Cx):Prop where
 mod:Mod X.K X.mg X.base
 kind:X.env.scope.kind=.function
 glob:X.env.globals=Bi
 blt:X.env.builtins=Pl
 above:X.s₀.heap.objs.size<=X.env.locals
 inj:∀ x y c,X.env.cells.lookup x=Aa c->X.env.cells.lookup y=Aa c->x=y
 has:∀ x,(X.env.kindOf x=Aa .cell\/X.env.kindOf x=Aa .free)->∃ c,X.env.cells.lookup x=Aa c
 cab:∀ x c,X.fn x=Vq->X.env.cells.lookup x=Aa c->X.s₀.heap.objs.size<=c
 hd:X.calm=Vq->X.A.handled=Zt
 frames:X.A.frames=Aa X.stack
 stk:X.stack=X.outer\/(X.stack=X.env::X.outer/\X.env.frame=Aa X.env.locals)
 exf:∀ b∈X.ex,b≠X.env.locals/\∀ x c,X.env.cells.lookup x=Aa c->c≠b
 bs:∀ b o,X.base.get? b=Aa o->X.s₀.heap.get? b=Aa o/\X.H₀ b=Zt
 bsz:X.base.objs.size<=X.s₀.heap.objs.size
 noex:∀ b o,X.base.get? b=Aa o->b ∉ X.ex
 exfs:∀ b∈X.ex,b ∉ X.fs
 funs:X.s₀.heap.FunFrames X.base X.outer
 frf:∀ b∈X.fs,X.H₀ b=Zt
structure Inv (X:Cx)(pins:J0)(Y : Ab (Al V))(H:Hp)(s:Ai):Prop where
 ok:X.Ok
 os:s.os=X.s₀.os
 bare:Nx s.gens
 base:Un X.fs X.ex X.H₀ H X.s₀.heap s.heap
 loc:∃ m,s.heap.Ns X.env.locals m/\∀ (i:Aj) (x:Ah) (v:V),X.N[i]? = Aa x->Y[i]? = Aa (Aa v)->qg X.env.scope x->∃ u,qR v u/\RI X.env s.heap m x u
 cell:∀ x c,X.env.cells.lookup x=Aa c->∃ v,s.heap.IsCell c v
 free:H X.env.locals=Zt
 freeC:∀ x c,X.env.cells.lookup x=Aa c->H c=Zt
 pin:∀ p∈X.pn++pins,s.heap.get? p.1=Aa p.2/\H p.1=Zt/\p.1≠X.env.locals/\p.1 ∉ X.fs/\∀ v,p.2.data≠.cell v
 hok:jm X.prog X.w H s.heap
 len:Y.length=X.N.length
section
variable {X:Cx}{aa:J0}{Y: Ab (Al V)}{H H':Hp}{s:Ai}{h':Bb}
def Cx.Ok.nofr (ok:X.Ok){b:Af}{o:Cd}(e:X.base.get? b=Aa o):b ∉ X.fs:=λJ=>by have:=(ok.funs.mem J).1;rw[e] at this;cases this
def Inv.bs (I:Inv X aa Y H s):∀ b o,X.base.get? b=Aa o->s.heap.get? b=Aa o/\H b=none:=λb o e =>
 ⟨I.base.keep b o (I.ok.bs b o e).1 (I.ok.bs b o e).2 (I.ok.nofr e) (I.ok.noex b o e),I.base.free b o (I.ok.bs b o e).1 (I.ok.bs b o e).2 (I.ok.noex b o e)⟩
def Inv.bk (I:Inv X aa Y H s):∀ b o,X.base.get? b=Aa o->s.heap.get? b=Aa o:=λb o e=>(I.bs b o e).1
def Inv.mod (I:Inv X aa Y H s):Mod X.K X.mg X.base:=I.ok.mod
def Inv.kIn (I:Inv X aa Y H s):X.K.In s.heap:=I.ok.mod.kin.keeps I.bk
def Inv.lt (I:Inv X aa Y H s):X.env.locals<s.heap.objs.size:=let ⟨_,J,_⟩:=I.loc;J.lt
def Inv.sz (I:Inv X aa Y H s):X.s₀.heap.objs.size<=s.heap.objs.size:=By I.ok.above (Hi I.lt)
def Inv.nofs (I:Inv X aa Y H s){a:Af}(h:s.heap.objs.size<=a):a ∉ X.fs:=λU=>by obtain⟨_,o,J,_⟩:=I.ok.funs.mem U;exact absurd (Bo (Bh J) (By I.sz h)) (Fh _)
def Inv.cne (I:Inv X aa Y H s):∀ x c,X.env.cells.lookup x=Aa c->c≠X.env.locals:=λx c e z=>by obtain⟨v,o,G,N⟩:=I.cell x c e;obtain⟨m,⟨B,O,C,U,J,_⟩,_⟩:=I.loc;rw[z,U] at G;cases G;rw[J] at N;cases N
def Inv.funs (I:Inv X aa Y H s):s.heap.FunFrames X.base X.outer:=by
 have all:∀ (l:Ab Hg),(∀ b∈gv l,b∈X.fs)->X.s₀.heap.FunFrames X.base l->s.heap.FunFrames X.base l:=by
  intro l
  induction l with
  |nil=>intro _ _;trivial
  |cons k r C =>
   intro N T;obtain⟨A,⟨L,o,J,w,B,j⟩,O⟩:=T;have G:L∈X.fs:=N L (by unfold gv;rw[Gw,J];exact Cr);obtain⟨y,e⟩:=I.base.slot L o B (I.ok.frf L G) G λz=>I.ok.exfs L z G;exact⟨A,⟨L,_,J,w,e,j⟩,C (λb U=>N b (by unfold gv;rw[Gw,J];exact Bm _ U)) O⟩
 exact all X.outer (λ_ U=>U) I.ok.funs
def Inv.stack (I:Inv X aa Y H s):s.heap.FunFrames X.base X.stack:=by
 rcases I.ok.stk with e|⟨e,J⟩
 .rw[e];exact I.funs
 .rw[e];obtain⟨m,U,_⟩:=I.loc;refine .cons (by rw[I.ok.kind];decide) J U ?_ I.funs;exact Hx (By I.ok.bsz I.ok.above)
def Inv.stkSub (I:Inv X aa Y H s):∀ b∈gv X.stack,b∈X.env.locals::X.fs:=λb J=>by
 rcases I.ok.stk with e|⟨e,U⟩
 .rw[e] at J;exact Bm _ J
 .rw[e] at J;unfold gv at J;rw[Gw,U] at J;exact J
def Inv.stkFree (I:Inv X aa Y H s):∀ b∈gv X.stack,H b=none:=λb hb=>by
 rcases Ay.mp (I.stkSub b hb) with e|hb
 .rw[e];exact I.free
 .obtain⟨_,o,J,_⟩:=I.ok.funs.mem hb;exact I.base.free b o J (I.ok.frf b hb) λz=>I.ok.exfs b z hb
def Inv.step {g':Br Qy}{t':Aj}{d':Drawn}(I:Inv X aa Y H s)
  (N:∀ b∈ch,(b∈X.ex\/X.s₀.heap.objs.size<=b)/\b≠X.env.locals/\(∀ x c,X.env.cells.lookup x=Aa c->c≠b)/\∀ p∈X.pn++aa,p.1≠b)
  (C:∀ b o,b≠X.env.locals->b ∉ X.fs->b ∉ ch->s.heap.get? b=Aa o->H b=Zt->h'.get? b=Aa o)
  (slot:∀ b o,b≠X.env.locals->b∈X.fs->b ∉ ch->s.heap.get? b=Aa o->H b=Zt->∃ h,h'.get? b=Aa { o with slots:=h }) (U:∀ b o,b ∉ ch->s.heap.get? b=Aa o->H b=Zt->H' b=Zt)
  (T:∀ b o,b ∉ ch->s.heap.get? b=Aa o->∃ o',h'.get? b=Aa o')
  (f:∀ b xs,H b=Aa (.tup xs)->H' b=Aa (.tup xs)) (t:∀ b o u,H b=Aa (.frz o u)->H' b=Aa (.frz o u)) (j:∀ b ps,H b=Aa (.tbl ps)->∃ jd,H' b=Aa (.tbl (ps++jd)))
  (ns:∀ m,s.heap.Ns X.env.locals m->h'.Ns X.env.locals m) (zc:jm X.prog X.w H' h') (hg:Nx g') :
  Inv X aa Y H' { s with heap:=h',gens:=g',drawn:=d',toks:=t' }:=by
 have g:∀ b o,X.s₀.heap.get? b=Aa o->b≠X.env.locals:=λb o e=>Cn (Bo (Bh e) I.ok.above);have L:∀ b o,X.s₀.heap.get? b=Aa o->b ∉ X.ex->b ∉ ch:=λb o e J A=>by
  rcases (N b A).1 with z|z
  .exact J z
  .exact absurd (Bo (Bh e) z) (Fh _)
 have G:∀ x c,X.env.cells.lookup x=Aa c->∀ v,s.heap.IsCell c v->h'.IsCell c v:=λx c e v ⟨o,w,hd⟩=>by
  have O:c ∉ ch:=λz=>(N c z).2.2.1 x c e Z;by_cases hc:c∈X.fs
  .obtain⟨h,q⟩:=slot c o (I.cne x c e) hc O w (I.freeC x c e);exact⟨_,q,hd⟩
  .exact⟨o,C c o (I.cne x c e) hc O w (I.freeC x c e),hd⟩
 refine⟨I.ok,I.os,hg,⟨λb o e n A J=>?_,λb o e n A J=>?_,λb o e n J=>?_,λb o e J=>?_,λb xs e=>f b xs (I.base.tups b xs e),λb o xs e=>t b o xs (I.base.frzs b o xs e),λb ps e=>?_⟩,?_,λx c e=>?_,?_,λx c e=>?_,λp hp=>?_,zc,I.len⟩
 .exact C b o (g b o e) A (L b o e J) (I.base.keep b o e n A J) (I.base.free b o e n J)
 .obtain⟨h,B⟩:=I.base.slot b o e n A J;obtain⟨a,y⟩:=slot b _ (g b o e) A (L b o e J) B (I.base.free b o e n J);exact⟨a,y⟩
 .obtain⟨o',B⟩:=I.base.there b o e J;exact U b o' (L b o e J) B (I.base.free b o e n J)
 .obtain⟨o',B⟩:=I.base.there b o e J;exact T b o' (L b o e J) B
 .obtain⟨m1,B⟩:=I.base.tbls b ps e;obtain⟨m2,y⟩:=j b _ B;exact⟨m1++m2,by rw[y,Array.append_assoc]⟩
 .obtain⟨m,hn,hl⟩:=I.loc;refine⟨m,ns m hn,λi x v B y e3=>?_⟩;obtain⟨u,r,l⟩:=hl i x v B y e3;refine⟨u,r,?_⟩;rcases l with l|⟨k,c,e,z⟩
  .exact .inl l
  .exact .inr ⟨k,c,e,G x c e _ z⟩
 .obtain⟨v,z⟩:=I.cell x c e;exact⟨v,G x c e v z⟩
 .obtain⟨m,⟨o,_,_,w,_⟩,_⟩:=I.loc;exact U _ o (λz=>(N _ z).2.1 rfl) w I.free
 .obtain⟨v,o,w,hd⟩:=I.cell x c e;exact U c o (λz=>(N c z).2.2.1 x c e Z) w (I.freeC x c e)
 .obtain⟨e,n,ne,nf,d⟩:=I.pin p hp;have O:p.1 ∉ ch:=λz=>(N p.1 z).2.2.2 p hp Z;exact⟨C p.1 p.2 ne nf O e n,U p.1 p.2 O e n,ne,nf,d⟩
theorem Inv.un {t':Aj}(I:Inv X aa Y H s)(u:Un X.fs [] H H' s.heap h')(N:jm X.prog X.w H' h'):Inv X aa Y H' { s with heap:=h',toks:=t' }:=by
 obtain⟨m,⟨o,A,k,O,r⟩,_⟩:=id I.loc;obtain⟨j,L⟩:=u.any O I.free aA;exact I.step (g':=s.gens) (d':=s.drawn) (ch:=[]) (λ_ z=>nomatch z) (λb o _ G _ e n=>u.keep b o e n G aA) (λb o _ G _ e n=>u.slot b o e n G aA) (λb o _ e n=>u.free b o e n aA) (λb o _ e=>u.there b o e aA) u.tups u.frzs u.tbls (λy T=>by
  obtain⟨w,B,U,J,C⟩:=T;rw[O] at J;cases J;exact⟨_,B,U,L,C⟩) N I.bare
theorem Inv.call {t':Aj}{d':Drawn}(I:Inv X aa Y H s)(u:Un (gv X.stack) ch H H' s.heap h')(O:jm X.prog X.w H' h')(A:Nx g')
  (G:∀ b∈ch,(b∈X.ex\/X.s₀.heap.objs.size<=b)/\b≠X.env.locals/\(∀ x c,X.env.cells.lookup x=Aa c->c≠b)/\∀ p∈X.pn++aa,p.1≠b) :
  Inv X aa Y H' { s with heap:=h',gens:=g',drawn:=d',toks:=t' }:=by
 obtain⟨m,⟨o,y,g,B,r⟩,_⟩:=id I.loc;obtain⟨q,C⟩:=u.any B I.free λz=>(G _ z).2.1 rfl;exact I.step (ch:=ch) G (λb o C w J e n=>u.keep b o e n (λz=>(Ay.mp (I.stkSub b z)).elim C w) J) (λb o _ _ J e n=>u.any e n J) (λb o J e n=>u.free b o e n J) (λb o J e=>u.there b o e J) u.tups u.frzs u.tbls (λl j=>by
  obtain⟨k,T,N,U,L⟩:=j;rw[B] at U;cases U;exact⟨_,T,N,C,L⟩) O A
def Inv.turned {t':Aj}{it:Af}(I:Inv X aa Y H s)(k:∀ b o,b≠it->s.heap.get? b=Aa o->h'.get? b=Aa o)(w:H it=Zt)(G:it≠X.env.locals)
  (N:it∈X.ex\/X.s₀.heap.objs.size<=it) (C:∀ x c,X.env.cells.lookup x=Aa c->c≠it) (B:∀ p∈X.pn++aa,p.1≠it):Inv X aa Y H { s with heap:=h',toks:=t' }:=by
 have U:∀ b u,H b=Aa u->b≠it:=λb u e z=>by rw[z,w] at e;cases e
 refine I.step (g':=s.gens) (d':=s.drawn) (ch:=[it]) (λb T=>?_) (λb o _ _ J e _=>k b o (λz=>J (by simp[z])) e) (λb o _ _ J e _=>⟨o.slots,k b o (λz=>J (by simp[z])) e⟩) (λ_ _ _ _ n=>n)
  (λb o J e=>⟨o,k b o (λz=>J (by simp[z])) e⟩) (λ_ _ e=>e) (λ_ _ _ e=>e) (λb y e=>⟨#[],by rw[e];simp⟩) (λm j=>?_) (λb u e=>?_) I.bare
 .have e:b=it:=by simpa using T
  subst e;exact⟨N,G,C,B⟩
 .obtain⟨o,O,A,L,r⟩:=j;exact⟨o,O,A,k _ o (Di G) L,r⟩
 .refine(I.hok b u e).stay (λc v J q=>k c v ?_ q) (λ_ q=>q) λ_ _ q=>q;rcases J with z|z
  .rw[z];exact U b u e
  .exact U c _ z
def Inv.tok (I:Inv X aa Y H s)(t:Aj):Inv X aa Y H { s with toks:=t }:=I.un (h':=s.heap) (t':=t) Un.refl I.hok
def Inv.kept {t':Aj}(I:Inv X aa Y H s)(k:∀ b u,s.heap.get? b=Aa u->h'.get? b=Aa u):Inv X aa Y H { s with heap:=h',toks:=t' }:=I.un (Un.kept k) (I.hok.kept k)
def Inv.laid {a:Af}{t':Aj}(I:Inv X aa Y H s)(k:∀ b u,s.heap.get? b=Aa u->h'.get? b=Aa u)(hp:s.heap.objs.size<=a)(J:zR X.prog X.w (bx H a o) h' a o) :
  Inv X aa Y (bx H a o) { s with heap:=h',toks:=t' }:=I.un (Un.laid k hp (I.hok.fresh hp)) (I.hok.laid k hp J)
def Inv.write {x e:Af}{o:HO}{t':Aj}(I:Inv X aa Y H s)(N:Z9 (H x))(G:e=x\/H e=Aa (.own x))(k:∀ b u,b≠e->s.heap.get? b=Aa u->h'.get? b=Aa u)(J:∃ u,h'.get? e=Aa u)
  (U:zR X.prog X.w (bx H x o) h' x o):Inv X aa Y (bx H x o) { s with heap:=h',toks:=t' }:=I.un (Un.write N G k J) (I.hok.write N G k J U)
def Inv.pins_of {J:J0}(I:Inv X aa Y H s)(h:∀ p∈J,s.heap.get? p.1=Aa p.2/\H p.1=Zt/\p.1≠X.env.locals/\p.1 ∉ X.fs/\∀ v,p.2.data≠.cell v):Inv X J Y H s:=
 ⟨I.ok,I.os,I.bare,I.base,I.loc,I.cell,I.free,I.freeC,λp U=>(Cg.mp U).elim (λz=>I.pin p (Ds _ z)) (h p),I.hok,I.len⟩
def nD {N:Y0}(G:N.Nodup){i j:Aj}{x:Ah}(a:N[i]? = Aa x)(b:N[j]? = Aa x):i=j:=by obtain⟨O,J⟩:=Bv.mp a;obtain⟨C,U⟩:=Bv.mp b;exact(Sn G).mp (J.trans U.symm)
theorem eX {A:Bn}{i:Aj}(I:Inv X aa Y H s)(hN:X.N.Nodup)(f:X.N[i]? = Aa x)(N:Loc X.env.scope x)(r:qR v u)
  (h:∀ s',Inv X aa (Y.set i (Aa v)) H s'->(∃ a,Ex a s.heap s'.heap/\(a=X.env.locals\/X.env.cells.lookup x=Aa a))->Q () s') (hf:X.fn x=Vq\/X.env.scope.names.lookup x=Aa .local:=by first|exact .inl rfl|exact .inr rfl|assumption):Ap M A (storeName X.env x u) Q E s:=by
 obtain⟨m,hn,hl⟩:=id I.loc;have zc:(X.env.scope.kind == .class||(X.env.scope.kind == .module&&X.env.locals != X.env.globals))=false:=by rw[I.ok.kind];rfl
 have g:i<Y.length:=by rw[I.len];exact(Bv.mp f).1
 have B:=I.cne;have G:∀ {a:Af} {h':Bb},(∃ o,s.heap.get? a=Aa o/\H a=Zt)->Ex a s.heap h'->jm X.prog X.w H h':=λ{a h'} ha J b ob e=>by
  obtain⟨_,_,O⟩:=ha;refine(I.hok b ob e).stay (λc w' hc q=>(J.2 c ?_).trans q) (λ_ q=>q) λ_ _ q=>q;rintro rfl;rcases hc with rfl|hc
  .rw[O] at e;cases e
  .rw[O] at hc;cases hc
 rcases N with hk|hk
 .refine wpAny_storeName_local hk hn (λh' zs J=>?_) zc;obtain⟨oL,_,_,zo,_⟩:=id hn;refine h _ ⟨I.ok,I.os,I.bare,⟨λb o e n w N=>?_,λb o e n w N=>?_,I.base.free,λb o e N=>?_,I.base.tups,I.base.frzs,I.base.tbls⟩,⟨_,zs,λj y v' U C e3=>?_⟩,λy c e=>?_,I.free,I.freeC,λp hp=>?_,G ⟨oL,zo,I.free⟩ J,by simpa using I.len⟩ ⟨_,J,.inl rfl⟩
  .exact(J.2 b (Cn (Bo (Bh e) I.ok.above))).trans (I.base.keep b o e n w N)
  .obtain⟨sl,U⟩:=I.base.slot b o e n w N;exact⟨sl,(J.2 b (Cn (Bo (Bh e) I.ok.above))).trans U⟩
  .obtain⟨o',U⟩:=I.base.there b o e N;exact⟨o',(J.2 b (Cn (Bo (Bh e) I.ok.above))).trans U⟩
  .by_cases L:j=i
   .subst L;rw[f] at U;cases U;rw[Fn g] at C;cases C;exact⟨u,r,.inl ⟨hk,by simp⟩⟩
   .rw[De (Di L)] at C;obtain⟨u',r',q⟩:=hl j y v' U C e3;refine⟨u',r',?_⟩;rcases q with⟨k,e⟩|⟨k,c,e,z⟩
    .refine .inl ⟨k,?_⟩;have:y≠x:=λe=>L (nD hN U (e▸f));simp[this,e]
    .exact .inr ⟨k,c,e,z.sameBut J (B y c e)⟩
  .obtain⟨w',z⟩:=I.cell y c e;exact⟨w',z.sameBut J (B y c e)⟩
  .obtain⟨e,n,ne,nf,d⟩:=I.pin p hp;exact⟨(J.2 p.1 ne).trans e,n,ne,nf,d⟩
 .have T:X.fn x=true:=by
   rcases hf with z|z
   .exact z
   .rw[z] at hk;cases hk
  obtain⟨c,hc⟩:=I.ok.has x (.inl hk);obtain⟨w',z⟩:=I.cell x c hc;refine wpAny_storeName_cell I.ok.kind hk hc z (λh' t J=>?_);obtain⟨oc,zl,zn⟩:=id z;refine h { s with heap:=h' } ⟨I.ok,I.os,I.bare,⟨λb o e n w N=>?_,λb o e n w N=>?_,I.base.free,λb o e N=>?_,I.base.tups,I.base.frzs,I.base.tbls⟩,⟨m,hn.sameBut J (Di (B x c hc)),λj y v' U C e3=>?_⟩,λy c' e=>?_,I.free,I.freeC,λp hp=>?_,G ⟨oc,zl,I.freeC x c hc⟩ J,by simpa using I.len⟩ ⟨c,J,.inr hc⟩
  .exact(J.2 b (Cn (Bo (Bh e) (I.ok.cab x c T hc)))).trans (I.base.keep b o e n w N)
  .obtain⟨sl,U⟩:=I.base.slot b o e n w N;exact⟨sl,(J.2 b (Cn (Bo (Bh e) (I.ok.cab x c T hc)))).trans U⟩
  .obtain⟨o',U⟩:=I.base.there b o e N;exact⟨o',(J.2 b (Cn (Bo (Bh e) (I.ok.cab x c T hc)))).trans U⟩
  .by_cases L:j=i
   .subst L;rw[f] at U;cases U;rw[Fn g] at C;cases C;exact⟨u,r,.inr ⟨.inl hk,c,hc,t⟩⟩
   .rw[De (Di L)] at C;obtain⟨u',r',q⟩:=hl j y v' U C e3;refine⟨u',r',?_⟩;rcases q with q|⟨k,c',e,z'⟩
    .exact .inl q
    .refine .inr ⟨k,c',e,z'.sameBut J ?_⟩;rintro rfl;exact L (nD hN U (I.ok.inj _ _ _ e hc▸f))
  .by_cases l:c'=c
   .subst l;exact⟨_,t⟩
   .obtain⟨w2,z2⟩:=I.cell y c' e;exact⟨w2,z2.sameBut J l⟩
  .obtain⟨e,n,ne,nf,d⟩:=I.pin p hp;refine⟨(J.2 p.1 ?_).trans e,n,ne,nf,d⟩;intro q;rw[q,zl] at e;have q':oc=p.2:=Cw e;exact d w' (by rw[<- q'];exact zn)
def yL {A:Bn}{i:Aj}(I:Inv X aa Y H s)(G:X.N.Nodup)(N:X.N[i]? = Aa x)(J:Loc X.env.scope x)(r:qR v u)
  (h:∀ s',Inv X aa (Y.set i (Aa v)) H s'->Q () s') (U:X.fn x=Vq\/X.env.scope.names.lookup x=Aa .local:=by first|exact .inl rfl|exact .inr rfl|assumption):Ap M A (storeName X.env x u) Q E s:=
 eX I G N J r (λs' O _=>h s' O) U
def Inv.call' {s':Ai}(I:Inv X aa Y H s)(G:s'.os=s.os)(u:Un (gv X.stack) ch H H' s.heap s'.heap)(J:jm X.prog X.w H' s'.heap)(O:Nx s'.gens)
  (U:∀ b∈ch,(b∈X.ex\/X.s₀.heap.objs.size<=b)/\b≠X.env.locals/\(∀ x c,X.env.cells.lookup x=Aa c->c≠b)/\∀ p∈X.pn++aa,p.1≠b):Inv X aa Y H' s':=by
 obtain⟨h',g',d',t',N⟩:=s';have e:N=s.os:=G;subst e;exact I.call (g':=g') (t':=t') (d':=d') u J O U
end
abbrev XK:=Ac->Al Af->Hp->Prop
abbrev St:=Ab (Al V)
abbrev VK:=V->Hp->Prop
abbrev TE:=St->Hp->VK->Prop
abbrev TT:=St->Hp->(Ar->Hp->Prop)->Prop
abbrev TA:=St->Hp->(Ab V->Hp->Prop)->Prop
structure Ends where
 nx:St->Hp->Prop
 rt:VK
 bk:St->Hp->Prop:=λ_ _=>Fv
 ct:St->Hp->Prop:=λ_ _=>Fv
abbrev TS:=Ends->St->Hp->Prop
inductive EP (X:Cx)(pins:J0)(Y : St)(Q:VK)(u:Ac)(s':Ai):Prop
 |mk (v:V) (H':Hp) (I:Inv X pins Y H' s') (r:qR v u) (q:Q v H'):EP X pins Y Q u s'
inductive TP (X:Cx)(pins:J0)(Y : St)(Q:Ar->Hp->Prop)(b:Ar)(s':Ai):Prop
 |mk (H':Hp) (I:Inv X pins Y H' s') (q:Q b H'):TP X pins Y Q b s'
inductive AP (X:Cx)(pins:J0)(Y : St)(Q:Ab V->Hp->Prop)(us:Y8)(s':Ai):Prop
 |mk (vs:Ab V) (H':Hp) (I:Inv X pins Y H' s') (r:qQ vs us) (q:Q vs H'):AP X pins Y Q us s'
def SP (X:Cx)(aa:J0)(D:Ends)(f:Flow)(s':Ai):Prop:=
 match f with
 |.next=>∃ J Y,Inv X aa J Y s'/\D.nx J Y
 |.brk=>∃ J Y,Inv X aa J Y s'/\D.bk J Y
 |.cont=>∃ J Y,Inv X aa J Y s'/\D.ct J Y
 |.ret u=>∃ v J Y,Inv X aa J Y s'/\qR v u/\D.rt v Y
abbrev a8 (X:Cx){α:Type}(m:PySem.Sem α):=Ap (As X.prog X.w) X.A m
def PE (X:Cx)(e:Bl)(t:TE):Prop:=
 ∀ (J:J0) (s:Ai) (Y : St) (H:Hp) (Q:VK),Inv X J Y H s->t Y H Q->a8 X (eval e X.env) (EP X J Y Q) X.xe s
def PT (X:Cx)(e:Bl)(t:TT):Prop:=
 ∀ (J:J0) (s:Ai) (Y : St) (H:Hp) (Q:Ar->Hp->Prop),Inv X J Y H s->t Y H Q->a8 X (isTrue e X.env (eval e X.env)) (TP X J Y Q) X.xe s
def PW (X:Cx)(e:Bl)(t:TT):Prop:=
 ∀ (J:Kk Ac) (U:J0) (s:Ai) (Y : St) (H:Hp) (Q:Ar->Hp->Prop),Inv X U Y H s->t Y H Q->a8 X (isTrue e X.env J) (TP X U Y Q) X.xe s
def PA (X:Cx)(es:Ab Bl)(t:TA):Prop:=
 ∀ (U:Eb) (J:J0) (s:Ai) (Y : St) (H:Hp) (Q:Ab V->Hp->Prop),Inv X J Y H s->t Y H Q->a8 X (spliced (Eu U (Bc es X.env))) (AP X J Y Q) X.xe s
def PS (X:Cx)(st:Du)(t:TS):Prop:=
 ∀ (J:J0) (s:Ai) (Y : St) (H:Hp) (D:Ends),Inv X J Y H s->t D Y H->a8 X (exec st X.env) (SP X J D) X.xe s
def kg (X:Cx)(st:Ab Du)(t:TS):Prop:=
 ∀ (J:J0) (s:Ai) (Y : St) (H:Hp) (D:Ends),Inv X J Y H s->t D Y H->a8 X (execs st X.env) (SP X J D) X.xe s
def bi {J:Type}{t:Kk J}{Q Y:J->Ai->Prop}(h:Ap M A t Q E s)(U:∀ a s,Q a s->Y a s):Ap M A t Y E s:=Fm h U λ_ _ x=>x
end _L
namespace _L
variable {aa:J0}{u:Ac}{E Q:J7}
section
variable {X:Cx}
def bin (w:PE X a B)(k:PE X b L){aa:J0}{s:Ai}{Y : St}{H:Hp}{R:V->V->Hp->Prop}(I:Inv X aa Y H s)(h:B Y H λx C=>L Y C λy U=>R x y U)
  {J:Type} {Q:J->Ai->Prop} {f:Ac->Ac->Kk J}
  (A:∀ v u O x y U,Inv X aa Y U O->qR x v->qR y u->R x y U->a8 X (f v u) Q X.xe O) :
  a8 X (eval a X.env) (λv G=>a8 X (eval b X.env) (λu N=>a8 X (f v u) Q X.xe N) X.xe G) X.xe s:=by
 refine bi (w aa s Y H _ I h) λv M ⟨x,C,p,q,j⟩=>?_;refine bi (k aa M Y C _ p j) λu O ⟨y,U,z,o,T⟩=>?_;exact A v u O x y U z q o T
def OK (i:Aj):TE:=λY H Q=>∃ v,Y[i]? = Aa (Aa v)/\Q v H
def tC (v:V):TE:=λ_ H Q=>Q v H
def lP {i:Aj}(C:X.N[i]? = Aa x)(hv:qg X.env.scope x)(N:(x == ("__debug__" : Ah))=false:=by decide)(G:(x == ("__classdict__" : Ah))=false:=by decide):PE X (.Name x L) (OK i):=by
 intro aa s Y H Q I h;obtain⟨v,e,h⟩:=h;obtain⟨m,T,B⟩:=I.loc;obtain⟨u,r,l⟩:=B i x v C e hv;have U:EP X aa Y Q u s:=⟨v,H,I,r,h⟩;rcases l with⟨hk,A⟩|⟨hk,c,O,J⟩
 .exact wpAny_Name (wpAny_loadName_local I.ok.kind hk T A U) N
 .rcases hk with hk|hk
  .exact wpAny_Name (wpAny_loadName_cell I.ok.kind hk O J U) N
  .exact wpAny_Name (wpAny_loadName_free I.ok.kind hk O J U G) N
def IC:PE X (.Constant (.int i) j ai) (tC (.int i)):=λ_ _ _ H _ I h=>wpAny_Constant_int ⟨.int i,H,I.tok _,⟨_,Z⟩,h⟩
def qA1:PE X (.Constant (.bool b) j ai) (tC (.bl b)):=λ_ _ _ H _ I h=>Constant_bool ⟨.bl b,H,I,Z,h⟩
def ID:PE X (.Constant .none j ai) (tC .non):=λ_ _ _ H _ I h=>Constant_none ⟨.non,H,I,Z,h⟩
def IF:PE X (.Constant (.str x) j ai) (tC (.str x)):=λ_ _ _ H _ I h=>Qk ⟨.str x,H,I.tok _,⟨_,Z⟩,h⟩
def Gl (X:Cx)(x:Ah):Prop:=X.env.kindOf x=Aa .globalImplicit
def wA {U:Eb}(I:Inv X aa Y H s)(J:Gl X x)(hm:X.mg x=Aa u)(h:Q u s)
  (G:(x == ("__debug__" : Ah))=false:=by decide):a8 X (eval (.Name x U) X.env) Q E s:=
 Qr I.ok.kind J (Calls.loadGlobal_global (by rw[I.ok.glob];exact I.mod.glob.keeps I.bk) hm h) G
def uW {N:Eb}(I:Inv X aa Y H s)(G:Gl X x)(hm:X.mg x=Zt)(hv:Gc x=Aa u)(h:Q u s)
  (O:x ≠ "__name__":=by decide) (C:(x == ("__debug__" : Ah))=false:=by decide):a8 X (eval (.Name x N) X.env) Q E s:=by
 obtain⟨B,J,U⟩:=I.mod.blt;exact Qr I.ok.kind G (Calls.loadGlobal_builtin (by rw[I.ok.glob];exact I.mod.glob.keeps I.bk) hm (by rw[I.ok.blt];exact J.keeps I.bk) ((U x O).trans hv) h) C
def DJ (Y:Gl X x)(hm:X.mg x=Aa u)(r:qR v u)(U:(x == ("__debug__" : Ah))=false:=by decide):PE X (.Name x J) (tC v):=
 λ_ _ _ H _ I h=>wA I Y hm ⟨v,H,I,r,h⟩ U
def DH (Y:Gl X x)(hm:X.mg x=Zt)(hv:Gc x=Aa u)(r:qR v u)(U:x ≠ "__name__":=by decide)(G:(x == ("__debug__" : Ah))=false:=by decide):PE X (.Name x J) (tC v):=
 λ_ _ _ H _ I h=>uW I Y hm hv ⟨v,H,I,r,h⟩ U G
variable {a:Bl}{ai:Eb}
variable {tA:TT}
def SA (J:PT X a tA):PW X (.BoolOp .And [a] ai) tA:=by
 intro G aa s Y H Q I h;refine isTrue_and (bi (J aa s Y H Q I h) λc U e=>?_);cases c with
 |true=>exact isTrue_and_nil e
 |false=>exact e
def IU (J:PT X a tA):PW X (.BoolOp .Or [a] ai) tA:=by
 intro G aa s Y H Q I h;refine isTrue_or (bi (J aa s Y H Q I h) λc U e=>?_);cases c with
 |false=>exact isTrue_or_nil e
 |true=>exact e
def IE (h:PE X a t):PE X (.BoolOp op [a] ai) t:=λaa s Y H Q I J=>BoolOp_one (h aa s Y H Q I J)
end
end _L
namespace _L
variable {es:Ab Bl}{K:Ag}{P:Ba}{tg:Bl}{w:Bu}
def kr (K:Ag)(H:Hp)(a:Af)(xs:Ab V):Prop:=
 Rd H a (.lst xs) \/
  ∃ (o:Cd) (Q:Br Ac) (n:Aj),K.lookup a=Aa o/\o.cls=.type "list" /\ o.dict=Zt/\o.data=.seq Q n/\Q.size<=sizeLine/\qQ xs Q.toList
def j_ (K:Ag)(H:Hp)(a:Af)(xs:Ab V):Prop:=
 Rd H a (.tup xs) \/
  ∃ (o:Cd) (Q:Br Ac) (n:Aj),K.lookup a=Aa o/\o.cls=.type "tuple" /\ o.data=.seq Q n/\Q.size<=sizeLine/\qQ xs Q.toList
noncomputable def qBW:Ac->Al V
 |.none=>Aa .non
 |.bool b=>Aa (.bl b)
 |.int i _=>Aa (.int i)
 |.str x _=>Aa (.str x)
 |.bytes b _=>Aa (.byt b)
 |.float b _=>Aa (.flt b)
 |.ref a=>Aa (.ref a)
 |.type n=>Aa (.ty n)
 |_=>Zt
def qR.abs (r:qR x u):qBW u=Aa x:=by
 cases x with
 |non=>cases r;rfl
 |bl _=>cases r;rfl
 |int _=>obtain⟨t,rfl⟩:=r;rfl
 |str _=>obtain⟨t,rfl⟩:=r;rfl
 |byt _=>obtain⟨t,rfl⟩:=r;rfl
 |flt _=>obtain⟨t,rfl⟩:=r;rfl
 |ref _=>cases r;rfl
 |ty _=>cases r;rfl
def qR.inj (r:qR x u)(q:qR y u):x=y:=Cw (r.abs.symm.trans q.abs)
theorem qQ.inj (h:qQ xs us)(k:qQ ys us):xs=ys:=by
 induction h generalizing ys with
 |nil=>cases k;rfl
 |cons r t Y =>
  cases k with
  |cons J Q=>rw[r.inj J,Y Q]
section
variable {X:Cx}{aa:J0}{Y: St}{H:Hp}{s:Ai}{a:Af}{xs ys:Ab V}
def kr.of (h:H a=Aa (.lst xs)):kr K H a xs:=.inl (.inl h)
def j_.of (h:H a=Aa (.tup xs)):j_ K H a xs:=.inl (.inl h)
def Inv.list (I:Inv X aa Y H s)(h:kr X.K H a xs):∃ ah:Ab Ac,qQ xs ah/\PlainL s.heap a ah.toArray/\xs.length<=sizeLine:=by
 rcases h with h|⟨o,ah,n,J,G,U,Q,N,r⟩
 .obtain⟨z,ah,n,r,e⟩:=h.ok I.hok;exact⟨ah,r,⟨_,n,e,Z,Z,Z⟩,z⟩
 .refine⟨ah.toList,r,⟨o,n,I.kIn a o J,G,U,by simpa using Q⟩,?_⟩;have e:=r.length;simp only[Do] at e;lia
def Inv.tuple (I:Inv X aa Y H s)(h:j_ X.K H a xs):∃ ah:Ab Ac,qQ xs ah/\Tf s.heap a ah.toArray/\xs.length<=sizeLine:=by
 rcases h with h|⟨o,ah,n,J,U,Q,G,r⟩
 .obtain⟨z,ah,r,p⟩:=h.ok I.hok;exact⟨ah,r,p,z⟩
 .refine⟨ah.toList,r,⟨o,I.kIn a o J,U,n,by simpa using Q⟩,?_⟩;have e:=r.length;simp only[Do] at e;lia
def Inv.list_inj (I:Inv X aa Y H s)(h:kr X.K H a xs)(h':kr X.K H a ys):xs=ys:=by
 obtain⟨G,r,⟨o,n,e,_,_,d⟩,_⟩:=I.list h;obtain⟨U,N,⟨O,C,Q,_,_,J⟩,_⟩:=I.list h';rw[e] at Q;cases Q;rw[d] at J;injection J with d1 _
 have:G=U:=by simpa using congrArg AaK d1
 subst this;exact r.inj N
def Inv.tuple_inj (I:Inv X aa Y H s)(h:j_ X.K H a xs)(h':j_ X.K H a ys):xs=ys:=by
 obtain⟨G,r,⟨o,e,_,n,d⟩,_⟩:=I.tuple h;obtain⟨U,N,⟨O,Q,_,C,J⟩,_⟩:=I.tuple h';rw[e] at Q;cases Q;rw[d] at J;injection J with d1 _
 have:G=U:=by simpa using congrArg AaK d1
 subst this;exact r.inj N
end
section
variable {X:Cx}{st:Du}{aq:Ab Du}{t u:TS}
def qBF:TS:=λD Y H=>D.nx Y H
def OJ (t u:TS):TS:=λD Y H=>t { D with nx:=u D } Y H
def ZX:kg X [] qBF:=λ_ _ Y H _ I h=>Os ⟨Y,H,I,h⟩
def o3 (J:PS X st t)(G:kg X aq u):kg X (st::aq) (OJ t u):=by
 intro Q s Y H D I h;refine Yv (bi (J Q s Y H { D with nx:=u D } I h) λf U q=>?_);cases f with
 |next =>
  obtain⟨C,O,N,q⟩:=q;exact G Q U C O D N q
 |ret v=>exact q
 |brk=>exact q
 |cont=>exact q
def DY (Q:PS X st t):kg X [st] t:=by
 intro J s Y H D I h;refine Yv (bi (Q J s Y H D I h) λf U q=>?_);cases f with
 |next=>exact Os q
 |ret v=>exact q
 |brk=>exact q
 |cont=>exact q
def Inv.quiet (I:Inv X aa Y H s):interactive X.env=false:=by simp[interactive,I.ok.kind]
end
abbrev TG:=V->St->Hp->(St->Hp->Prop)->Prop
abbrev xg:=Ab V->St->Hp->(St->Hp->Prop)->Prop
def PG (X:Cx)(J:Bl)(t:TG):Prop:=
 ∀ (N:J0) (s:Ai) (Y : St) (H:Hp) (v:V) (u:Ac) (Q:St->Hp->Prop),Inv X N Y H s->qR v u->t v Y H Q ->
  a8 X (assign J X.env u) (λ_ O=>∃ G U,Inv X N G U O/\Q G U) X.xe s
def wf (X:Cx)(C:Ab Bl)(t:xg):Prop:=
 ∀ (O:J0) (s:Ai) (Y : St) (H:Hp) (G:Ab V) (U:Y8) (Q:St->Hp->Prop),Inv X O Y H s->qQ G U->t G Y H Q ->
  a8 X (Ny ((Gk C X.env).map (·.2)) U) (λ_ B=>∃ J N,Inv X O J N B/\Q J N) X.xe s
abbrev RK:=V->V->V->Hp->(Hp->Prop)->Prop
def cP (X:Cx)(t:RK):Prop:=
 ∀ (N:J0) (s:Ai) (Y : St) (H:Hp) (o i v:V) (G J u:Ac) (Q:Hp->Prop),Inv X N Y H s->qR o G->qR i J->qR v u->t o i v H Q ->
  a8 X (setItem G J u) (λ_ O=>∃ U,Inv X N Y U O/\Q U) X.xe s
section
variable {X:Cx}{ai:Eb}
def qAM (i:Aj):TG:=λv Y H Q=>Q (Y.set i (Aa v)) H
def DN {i:Aj}(N:X.N.Nodup)(O:X.N[i]? = Aa x)(J:Loc X.env.scope x)(U:X.fn x=Vq\/X.env.scope.names.lookup x=Aa .local:=by first|exact .inl rfl|exact .inr rfl|assumption):PG X (.Name x ai) (qAM i):=by intro B s Y H v u Q I r h;exact Xp (yL I N O J r (λC G=>⟨_,H,G,h⟩) U)
def qBg:xg:=λJ Y H Q=>J=[]/\Q Y H
def qAL (t:TG)(u:xg):xg:=λU Y H Q=>∃ v r,U=v::r/\t v Y H λJ G=>u r J G Q
def DP:wf X [] qBg:=by intro G s Y H J U Q I r h;obtain⟨e,h⟩:=h;subst e;cases r;exact Ra ⟨Y,H,I,h⟩
def BC (U:PG X e t)(B:wf X es u)
  (hs:(Gk (e::es) X.env).map (·.2)=assign e X.env::(Gk es X.env).map (·.2):=by rfl):wf X (e::es) (qAL t u):=by
 intro J s Y H z M Q I r h;obtain⟨v,A,N,h⟩:=h;subst N;cases r with
 |cons r T =>
  rw[hs];refine Ir (bi (U J s Y H _ _ _ I r h) λ_ G ⟨L,C,E,O⟩=>?_);exact B J G L C _ _ Q E T O
def qBh (K:Ag)(n:Aj)(t:xg):TG:=λv Y H Q=>∃ a J,v=.ref a/\j_ K H a J/\J.length=n/\t J Y H Q
def IH {k:Aj}{n:Aj}(A:X.calm=Vq)(h:wf X es t)
  (z:(Gk es X.env).length=n:=by rfl) (J:(Gk es X.env).findIdx? (·.1)=none:=by rfl):PG X (.Tuple es k ai) (qBh X.K n t):=by
 intro N s Y H v u Q I r U;obtain⟨a,C,T,E,M,U⟩:=U;subst T;cases r;obtain⟨y,G,B,q⟩:=I.tuple E;refine assign_Tuple_tuple (I.ok.hd A) B (by simp[z,<- M,G.length]) J λL O=>?_;have j:Inv X N Y H { s with heap:=L }:=I.kept (t':=s.toks) λb o e=>O b o (Cn (Bh e)) e;exact h N _ Y H C _ Q j (by simpa using G) U
def qCL (i j:Aj)(U:TA):TS:=λD Y H=>U Y H λJ Q=>∃ v w,J=[v,w]/\D.nx ((Y.set i (Aa v)).set j (Aa w)) Q
def IP {i j:Aj}{a b:Bl}{k:TA}{N T B:Eb}{kt k2 pt2}(f:X.calm=Vq) (z:X.N.Nodup) (m:X.N[i]? = Aa x) (t:X.N[j]? = Aa y) (C:i≠j)
  (E:X.env.scope.names.lookup x=Aa .local) (l:X.env.scope.names.lookup y=Aa .local) (ha:PA X [a,b] k)
  (hw:Ic [.Tuple [.Name x N,.Name y T] kt B] (.Tuple [a,b] k2 pt2) X.env=pure (Aa [x,y]))
  (hs:Ie [.Tuple [.Name x N,.Name y T] kt B] (.Tuple [a,b] k2 pt2) ai.line X.env=pure false:=by rfl) :
  PS X (.Assign [.Tuple [.Name x N,.Name y T] kt B] (.Tuple [a,b] k2 pt2) ai) (qCL i j k):=by
 intro M s Y H D I h;rw[Zv];refine Ad (Hk ?_);rw[hs];refine Ad (An ?_);rw[AT aC];refine Ad (Tuple_ (bi (ha _ M s Y H _ I h) λg Q ⟨vs,A,I1,r1,G⟩=>?_));obtain⟨v,w,c,G⟩:=G;subst c;obtain⟨U,J,rfl,d,O⟩:∃ U J,g=[U,J]/\qR v U/\qR w J:=by
  cases r1 with
  |cons p q =>
   cases q with
   |cons p' r =>
    cases r;exact⟨_,_,rfl,p,p'⟩
 refine Dh ?_ (by show 2<=sizeLine;decide);have n:Inv X M Y A { Q with heap:=Q.heap.push { cls:=.type "tuple",data:=.seq [U,J].toArray } }:=I1.kept (t':=Q.toks) λb o e=>Ak _ e;rw[hw];refine Ad (An ?_);show a8 X (do rule "assign.swapped-stores";let items <- unpackItems (.ref Q.heap.objs.size) 2 Zt;Ny [λv=>Lm X.env y v,λv=>Lm X.env x v] items.reverse;pure Xq) _ _ _;refine Ad (Kx (Ad (Xr (items:=#[U,J]) (I.ok.hd f) (Ur Q.heap _) λh' L=>?_)));have I3:=n.kept (h':=h') (t':=Q.toks) λb o e=>L b o (Cn (Bh e)) e;show Ap _ _ (Ny [λv=>Lm X.env y v,λv=>Lm X.env x v] [J,U] >>= λ_=>pure Xq) _ _ _;refine Ad (Ir (Ni (yL I3 z t (.inl l) O (λs2 I4=>?_) (.inr l))));refine Ir (Ni (yL I4 z m (.inl E) d (λs3 u=>Ra (An ?_)) (.inr E)));rw[Rb _ _ (Di C)] at u;exact⟨_,A,u,G⟩
end
structure It where
 go:Aj->Hp->Prop
 yld:Aj->Hp->V->Hp->Prop
 stop:Aj->Hp->Prop
def xJ (X:Cx)(aa:J0)(H:Hp)(b:Af):Prop:=
 H b=Zt/\b≠X.env.locals/\b ∉ X.fs/\(b∈X.ex\/X.s₀.heap.objs.size<=b)/\(∀ x c,X.env.cells.lookup x=Aa c->c≠b)/\∀ p∈X.pn++aa,p.1≠b
def Inv.fpOk {X:Cx}{H H':Hp}{b:Af}(I:Inv X aa Y H s)(Q:s.heap.objs.size<=b)(U:H' b=Zt):xJ X aa H' b:=by
 refine⟨U,Hj (Bo I.lt Q),I.nofs Q,.inr (By I.sz Q),λx c e z=>?_,λp J z=>?_⟩
 .obtain⟨v,q⟩:=I.cell x c e;exact absurd (Bo q.lt (by rw[z];exact Q)) (Fh _)
 .exact absurd (Bo (Bh (I.pin p J).1) (by rw[z];exact Q)) (Fh _)
structure n_ (P:Ba)(w:Bu)(K:Ag)(tg:Bl)(Jww:It)(fp:J9)(it:Af)(tn:Aj->Bb->Prop):Prop where
 mem:it∈fp
 obj:∀ i h,tn i h->∀ b∈fp,∃ o,h.get? b=Aa o/\∀ v,o.data≠.cell v
 keep:∀ i h h',tn i h->(∀ b∈fp,∀ o,h.get? b=Aa o->h'.get? b=Aa o)->tn i h'
 item:∀ (X:Cx),X.prog=P->X.w=w->X.K=K->X.calm=Vq->∀ (i:Aj) (pins:J0) (s:Ai) (Y : St) (H:Hp) (E:J7),Inv X pins Y H s->(∀ b∈fp,xJ X pins H b)->tn i s.heap->Jww.go i H ->
  Ap (As P w) X.A (Pd (.ref it)) (λr s1=>∃ u,r=Aa u /\
   Ap (As P w) X.A (Kl tg (.ref it) u) (λ_ s2=>∃ x H',Inv X pins Y H' s2/\qR x u/\Jww.yld i H x H'/\tn (i+1) s2.heap/\∀ b∈fp,H' b=Zt) E s1) E s
 done:∀ (X:Cx),X.prog=P->X.w=w->X.K=K->X.calm=Vq->∀ (i:Aj) (pins:J0) (s:Ai) (Y : St) (H:Hp) (E:J7),Inv X pins Y H s->(∀ b∈fp,xJ X pins H b)->tn i s.heap->Jww.stop i H ->
  Ap (As P w) X.A (Pd (.ref it)) (λr s1=>r=Zt/\Inv X pins Y H s1) E s
 self:∀ (A:Bn) (i:Aj) (s:Ai) (Q:J7) (E:J7),tn i s.heap->Q (.ref it) s->Ap (As P w) A (Pe (.ref it)) Q E s
abbrev TI:=St->Hp->(It->Hp->Prop)->Prop
inductive yc (X:Cx)(pins:J0)(Y : St)(tg:Bl)(R:It->Hp->Prop)(itv:Ac)(s2:Ai):Prop
 |mk (it:Af) (fp:J9) (tn:Aj->Bb->Prop) (Jww:It) (H':Hp) (e:itv=.ref it) (I:Inv X pins Y H' s2) (t:n_ X.prog X.w X.K tg Jww fp it tn) (z:tn 0 s2.heap) (f:∀ b∈fp,xJ X pins H' b) (q:R Jww H'):yc X pins Y tg R itv s2
def PI (X:Cx)(tg iter:Bl)(U:TI):Prop:=
 ∀ (Q:J0) (s:Ai) (Y : St) (H:Hp) (R:It->Hp->Prop),Inv X Q Y H s->U Y H R ->
  a8 X (eval iter X.env) (λv J=>a8 X (Pe v) (yc X Q Y tg R) X.xe J) X.xe s
def cB {M:Nk}{A:Bn}{E:J7}{s:Ai}{it:Af}{u:Ac}{Q:Nq->Ai->Prop}(J:s.heap.get? it=Aa o)(U:o.cls=.type n)(N:o.data=.fields vs)
    (G:["enumerate","zip","dict_itemiterator","dict_reverseitemiterator","odict_iterator","itertools.zip_longest","itertools.pairwise"].contains n=Yp) (Y:Q () s):Ap M A (Kl tg (.ref it) u) Q E s:=by
  unfold Kl;cases tg <;> first
    |exact An Y
    |(cases u <;> first
        |exact An Y
        | (refine Ad (wpAny_load J ?_)
           rw[U,N];show Ap M A (if (["enumerate","zip","dict_itemiterator","dict_reverseitemiterator","odict_iterator","itertools.zip_longest","itertools.pairwise"].contains n&&vs[0]? == Aa (Jr _))=Vq then _ else _) Q E s;rw[AT (by intro h;rw[G,Gp] at h;cases h)];exact An Y))
def _C (K:Ag)(a:Af):It:=
 ⟨λi H=>∃ Q x,kr K H a Q/\Q[i]? = Aa x,λi H x Y=>Y=H/\∀ Q,kr K H a Q->Q[i]? = Aa x,λi H=>∃ Q,kr K H a Q/\Q.length<=i⟩
def Itt (K:Ag)(a:Af):It:=
 ⟨λi H=>∃ Q x,j_ K H a Q/\Q[i]? = Aa x,λi H x Y=>Y=H/\∀ Q,j_ K H a Q->Q[i]? = Aa x,λi H=>∃ Q,j_ K H a Q/\Q.length<=i⟩
def E_ (lo:Aq)(n:Aj):It:=⟨λi _=>i<n,λi H x Q=>Q=H/\x=.int (lo+i),λi _=>n<=i⟩
theorem hJ (a it:Af):n_ P w K tg (_C K a) [it] it (λi h=>h.IsListIter it a i) where
 mem:=by simp
 obj:=λi h st b Q=>by
  have e:b=it:=by simpa using Q
  subst e;obtain⟨o,e,c,d⟩:=st;exact⟨o,e,λv z=>by rw[d] at z;cases z⟩
 keep:=λi h G st k=>st.at λo e=>k it aA o e
 item:=by intro X O A T g i f s Y H E I U st M;subst O A T;obtain⟨r,x,N,C⟩:=M;obtain⟨t,y,p,hz⟩:=I.list N;obtain⟨u,n,ru⟩:=y.get C;obtain⟨l,q,m,j,B,L⟩:=U it aA;refine wpAny_pyNext_list_item st p.isList (x:=u) (by simpa using n) λG J sb=>?_;have I1:Inv X f Y H { s with heap:=G }:=I.turned (t':=s.toks) (λb o Q e=>(sb.2 b Q).trans e) l q j B L;obtain⟨o,e,c,d⟩:=id J;exact⟨u,rfl,cB (s:={ s with heap:=G }) e c d aC ⟨x,H,I1,ru,⟨rfl,λys hy=>by rw[I.list_inj hy N];exact C⟩,J,λb Q=>(U b Q).1⟩⟩
 done:=by intro X O A T g i f s Y H E I U st M;subst O A T;obtain⟨r,N,C⟩:=M;obtain⟨t,y,p,hz⟩:=I.list N;obtain⟨l,q,m,j,B,L⟩:=U it aA;have hl:=y.length;exact wpAny_pyNext_list_end (I.ok.hd g) st p.isList (by simp;lia) λG eb=>⟨Z,I.turned (t':=s.toks) (λb o Q e=>eb b o Q e) l q j B L⟩
 self:=λ_ _ _ _ _ st h=>wpAny_pyIter_listiter st h
theorem YT (a it:Af):n_ P w K tg (Itt K a) [it] it (λi h=>h.IsTupleIter it a i) where
 mem:=by simp
 obj:=λi h st b Q=>by
  have e:b=it:=by simpa using Q
  subst e;obtain⟨o,e,c,d⟩:=st;exact⟨o,e,λv z=>by rw[d] at z;cases z⟩
 keep:=λi h G st k=>st.at λo e=>k it aA o e
 item:=by intro X O M T f i r s Y H E I U st j;subst O M T;obtain⟨t,x,N,C⟩:=j;obtain⟨A,q,p,hz⟩:=I.tuple N;obtain⟨u,n,ru⟩:=q.get C;obtain⟨g,l,m,y,B,L⟩:=U it aA;refine wpAny_pyNext_tuple_item st (show s.heap.IsTuple a A.toArray from p) (x:=u) (by simpa using n) λG J sb=>?_;have I1:Inv X r Y H { s with heap:=G }:=I.turned (t':=s.toks) (λb o Q e=>(sb.2 b Q).trans e) g l y B L;obtain⟨o,e,c,d⟩:=id J;exact⟨u,rfl,cB (s:={ s with heap:=G }) e c d aC ⟨x,H,I1,ru,⟨rfl,λys hy=>by rw[I.tuple_inj hy N];exact C⟩,J,λb Q=>(U b Q).1⟩⟩
 done:=by intro X O M T f i r s Y H E I U st j;subst O M T;obtain⟨t,N,C⟩:=j;obtain⟨A,q,p,hz⟩:=I.tuple N;obtain⟨g,l,m,y,B,L⟩:=U it aA;have hl:=q.length;exact wpAny_pyNext_tuple_end (I.ok.hd f) st (show s.heap.IsTuple a A.toArray from p) (by simp;lia) λG eb=>⟨Z,I.turned (t':=s.toks) (λb o Q e=>eb b o Q e) g l y B L⟩
 self:=λ_ _ _ _ _ st h=>wpAny_pyIter_tupleiter st h
def YS (it:Af)(lo:Aq)(n:Aj):n_ P w K tg (E_ lo n) [it] it (λi h=>IsRangeIter h it (lo+(i:Aj)*1) ((n:Aq)-(i:Aj)) 1) where
 mem:=by simp
 obj:=λi h st b Q=>by
  have e:b=it:=by simpa using Q
  subst e;exact⟨_,st,λv z=>by
   have p:Data.fields _=Data.cell v:=z;cases p⟩
 keep:=λi h G st k=>k it aA _ st
 item:=by intro X N L B j i q s Y H E I U st T;subst N L B;obtain⟨y,M,l,A,O,C⟩:=U it aA;have W:=Walks.range (prog:=X.prog) (w:=X.w) (I.ok.hd j) it lo 1 n;refine W.item i s _ _ T st λv G u hv J d=>?_;obtain⟨t,rfl⟩:=hv;have g:Inv X q Y H { s with heap:=G,toks:=u }:=I.turned (λb o Q e=>d b o (by simpa using Q) e) y M A O C;refine⟨_,Z,cB (s:={ s with heap:=G,toks:=u }) (n:="range_iterator") J Z Z aC ⟨.int (lo+i),H,g,⟨t,?_⟩,⟨Z,Z⟩,J,λb Q=>(U b Q).1⟩⟩;rw[Int.mul_one]
 done:=by intro X N L B j i q s Y H E I U st T;subst N L B;obtain⟨y,M,l,A,O,C⟩:=U it aA;exact wpAny_pyNext_range_end (I.ok.hd j) st (by have:n<=i:=T;lia) λG c=>⟨Z,I.turned (t':=s.toks) (λb o Q e=>c b o Q e) y M A O C⟩
 self:=λ_ _ _ _ _ st h=>wpAny_pyIter_rangeiter st h
end _L
namespace _L
variable {aa:J0}{fp:J9}{s:Ai}{H:Hp}{Y:St}
section
variable {X:Cx}{tg:Bl}
def o7 {R:It->Hp->Prop}{E:J7}{lo Q:Aq}{t u v:Ms}{J:Aj}(I:Inv X aa Y H s)(G : -(2 ^ 62)<=lo)(C:lo<2 ^ 62)(L : -(2 ^ 62)<=Q)(B:Q<2 ^ 62)
  (q:R (E_ lo (Q-lo).toNat) H):a8 X (Pe (.ref s.heap.objs.size)) (yc X aa Y tg R) E { s with heap:=s.heap.push { cls:=.type "range",data:=.fields #[.int lo t,.int Q u,.int 1 v] },toks:=J }:=by
 refine wpAny_pyIter_range (IsRange.new ..) (small_one G C L B) ?_;have U:Inv X aa Y H { s with heap:=s.heap.push { cls:=.type "range",data:=.fields #[.int lo t,.int Q u,.int 1 v] },toks:=J }:=I.kept λb o e=>Ak _ e;refine⟨(s.heap.push { cls:=.type "range",data:=.fields #[.int lo t,.int Q u,.int 1 v] }).objs.size,[(s.heap.push { cls:=.type "range",data:=.fields #[.int lo t,.int Q u,.int 1 v] }).objs.size],_,_,H,Z,
  U.kept (t':=J) λb o e=>Ak _ e,YS _ lo (Q-lo).toNat,?_,λb T=>?_,q⟩
 .have N:lo+((0:Aj):Aq)*1=lo:=by simp
  have O:(((Q-lo).toNat:Aj):Aq)-((0:Aj):Aq)=Builtin.Range.rangeSize lo Q 1:=by rw[rangeSize_one];split <;> lia
  show IsRangeIter _ _ (lo+((0:Aj):Aq)*1) ((((Q-lo).toNat:Aj):Aq)-((0:Aj):Aq)) 1;rw[N,O];exact Be _ Z
 .have e:b=(s.heap.push { cls:=.type "range",data:=.fields #[.int lo t,.int Q u,.int 1 v] }).objs.size:=by simpa using T
  subst e;exact U.fpOk (Ax _) (U.hok.fresh (Ax _))
def qCI (L:TI)(g:TG)(T:TS):TS:=λD Y H=>L Y H λJ C=>∃ W:Aj->Aj->St->Hp->Prop,(∃ m,W 0 m Y C)/\∀ i m Y H,W i m Y H ->
 (J.stop i H/\D.nx Y H)\/(J.go i H/\∃ N:St->Hp->Prop,(∀ G Q,N G Q->∃ U,U<m/\W (i+1) U G Q)/\∀ x Q,J.yld i H x Q->g x Y Q λO B=>T { D with nx:=N,ct:=N,bk:=D.nx } O B)
def v7 (fp:J9)(h:Bb):Ab (Af × Cd):=fp.filterMap λb=>(h.get? b).map λo=>(b,o)
def jE {h:Bb}{b:Af}(Q:b∈fp)(e:h.get? b=Aa o):(b,o)∈v7 fp h:=Iu.mpr ⟨b,Q,by rw[e];rfl⟩
def eI {p:Af × Cd}(hp:p∈v7 fp h):p.1∈fp/\h.get? p.1=Aa p.2:=by
 obtain⟨b,J,e⟩:=Iu.mp hp;cases q:h.get? b with
 |none=>rw[q] at e;cases e
 |some o =>
  rw[q] at e;have Q:(b,o)=p:=Cw e;subst Q;exact⟨J,q⟩
def Inv.pinned (I:Inv X aa Y H s)(U:∀ b∈fp,xJ X aa H b)(G:∀ b∈fp,∃ o,s.heap.get? b=Aa o/\∀ v,o.data≠.cell v):Inv X (aa++v7 fp s.heap) Y H s:=
 I.pins_of λp O=>(Cg.mp O).elim (λz=>I.pin p (Ce _ z)) λz=>by obtain⟨Q,e⟩:=eI z;obtain⟨B,N,C,_⟩:=U p.1 Q;obtain⟨o,J,d⟩:=G p.1 Q;rw[e] at J;cases J;exact⟨e,B,N,C,d⟩
def Inv.unpinned {pl:J0}(I:Inv X (aa++pl) Y H s):Inv X aa Y H s:=I.pins_of λp Q=>I.pin p (Ce _ (Ds _ Q))
inductive yh (X:Cx)(pins:J0)(fp:J9)(tn:Aj->Bb->Prop)(W:Aj->Aj->St->Hp->Prop)(n:Aj)(s':Ai):Prop
 |mk (i:Aj) (Y' : St) (H':Hp) (I:Inv X pins Y' H' s') (t:tn i s'.heap) (f:∀ b∈fp,H' b=Zt) (w:W i n Y' H'):yh X pins fp tn W n s'
def IM {ai:Eb}(hp:Us (As X.prog X.w) X.A X.env X.xe)(hc:X.calm=Vq)(hi:PI X tg iter wi)(hg:PG X tg g)(O:kg X er tb)
  (hs:∀ x,Gs iter X.env x=pure x:=by intro _;rfl):PS X (.For tg iter er [] ai) (qCI wi g tb):=by
 intro aa s Y H D I h;refine wpAny_For (bi (hi aa s Y H _ I h) λv s1 h1=>bi h1 λzc s2 h2=>?_) hs;obtain⟨it,fp,tn,ci,H2,e,I2,T,k,l,W,⟨m0,w0⟩,L⟩:=h2;subst e;have U:∀ {t:Hp},(∀ b∈fp,t b=Zt)->∀ b∈fp,xJ X aa t b:=λhn b O=>⟨hn b O,(l b O).2⟩;refine codeAny_forLoop_any (yh X aa fp tn W) ?_ m0 ⟨0,Y,H2,I2,k,λb O=>(l b O).1,w0⟩;rintro n a ⟨i,A,j,I3,w,M,w3⟩;rcases L i n A j w3 with⟨E,qn⟩|⟨go,N,hN,step⟩
 .refine Mf hp (bi (T.done X Z Z Z hc i aa a A j X.xe I3 (U M) w E) λr s4 ⟨q,I4⟩=>?_);subst q;exact Os ⟨A,j,I4,qn⟩
 .refine Mf hp (bi (T.item X Z Z Z hc i aa a A j X.xe I3 (U M) w go) λr s4 ⟨u,q,h4⟩=>?_);subst q;refine Mf hp (bi h4 λ_ c ⟨x,H5,I5,r5,y5,B,p⟩=>?_);have y:=I5.pinned (U p) (T.obj _ _ B);refine Mf hp (bi (hg _ c A H5 x u _ y r5 (step x H5 y5)) λ_ s6 ⟨Y6,H6,I6,q6⟩=>?_);refine Mf hp (bi (O _ s6 Y6 H6 _ I6 q6) λf s7 C=>?_);have again:∀ {J:St} {Q:Hp},Inv X (aa++v7 fp c.heap) J Q s7->N J Q->∃ m,m<n/\yh X aa fp tn W m s7:=λ{J Q} G z=>by
   obtain⟨m',hm,w7⟩:=hN J Q z;refine⟨m',hm,i+1,J,Q,G.unpinned,T.keep _ _ _ B λb O o e=>(G.pin (b,o) (Ce _ (Ce _ (jE O e)))).1,λb O=>?_,w7⟩;obtain⟨o,e,d⟩:=T.obj _ _ B b O;exact(G.pin (b,o) (Ce _ (Ce _ (jE O e)))).2.1
  cases f with
  |next=>obtain⟨J,Q,G,z⟩:=C;exact again G z
  |cont=>obtain⟨J,Q,G,z⟩:=C;exact again G z
  |brk=>obtain⟨J,Q,G,C⟩:=C;exact⟨J,Q,G.unpinned,C⟩
  |ret v=>obtain⟨x7,J,Q,G,r7,C⟩:=C;exact⟨x7,J,Q,G.unpinned,r7,C⟩
end
end _L
namespace _L
variable {us:Y8}{f:Ac->Ac->Kk Ac}{g:Aq->Aq->Aq}
abbrev R2:=V->V->Hp->VK->Prop
def o_ (X:Cx)(f:Ac->Ac->Kk Ac)(r:R2):Prop:=
 ∀ (J:J0) (s:Ai) (Y : St) (H:Hp) (x y:V) (v u:Ac) (Q:VK),Inv X J Y H s->qR x v->qR y u->r x y H Q ->
  a8 X (f v u) (EP X J Y Q) X.xe s
def _Y (X:Cx)(f:Ac->Kk Ac)(r:V->Hp->VK->Prop):Prop:=
 ∀ (J:J0) (s:Ai) (Y : St) (H:Hp) (x:V) (v:Ac) (Q:VK),Inv X J Y H s->qR x v->r x H Q ->
  a8 X (f v) (EP X J Y Q) X.xe s
def nM (X:Cx)(f:Ac)(r:Ab V->Hp->VK->Prop):Prop:=
 ∀ (U:J0) (s:Ai) (Y : St) (H:Hp) (J:Ab V) (us:Y8) (Q:VK),Inv X U Y H s->qQ J us->r J H Q ->
  a8 X (call f us) (EP X U Y Q) X.xe s
def qBV (X:Cx)(r:V->Hp->(Ar->Hp->Prop)->Prop):Prop:=
 ∀ (J:J0) (s:Ai) (Y : St) (H:Hp) (x:V) (v:Ac) (Q:Ar->Hp->Prop),Inv X J Y H s->qR x v->r x H Q ->
  a8 X (truthy v) (TP X J Y Q) X.xe s
def tOp (r:R2)(U N:TE):TE:=λY H Q=>U Y H λx J=>N Y J λy G=>r x y G Q
def rI (C:Aq->Aq->Prop)(g:Aq->Aq->V):R2:=λx y H Q=>∃ i j,x=.int i/\y=.int j/\C i j/\Q (g i j) H
def vq (g:Aq->Aq->V):R2:=λx y H Q=>∃ i j,x=.int i/\y=.int j/\Q (g i j) H
def rU (g:Aq->V):V->Hp->VK->Prop:=λx H Q=>∃ i,x=.int i/\Q (g i) H
section
variable {X:Cx}{a b:Bl}{ta tb:TE}
def qBZ (E:PE X a ta)(z:PE X b tb){aa:J0}{s:Ai}{Y : St}{H:Hp}{R:V->V->Hp->Prop}(I:Inv X aa Y H s)
  (h:ta Y H λx O=>tb Y O λy J=>R x y J) {Q:J7} {f:Ac->Ac->Kk Ac}
  (C:∀ v u N x y J,Inv X aa Y J N->qR x v->qR y u->R x y J->a8 X (f v u) Q X.xe N) :
  a8 X (eval a X.env) (λv U=>a8 X (eval b X.env) (λu G=>a8 X (f v u) Q X.xe G) X.xe U) X.xe s:=by
 refine bi (E aa s Y H _ I h) λv B ⟨x,O,w,j,A⟩=>?_;refine bi (z aa B Y O _ w A) λu N ⟨y,J,L,M,T⟩=>?_;exact C v u N x y J L j M T
def U_ {f:Ac->Ac->Kk Ac}{C:Aq->Aq->Prop}
  (rule:∀ (i j:Aq) (t u:Ms) (s:Ai) (Q:J7) (E:J7),C i j->Q (.int (g i j) s.toks) { s with toks:=s.toks+1 } -> a8 X (f (.int i t) (.int j u)) Q E s) :
  o_ X f (rI C λi j=>.int (g i j)):=by
 intro O s Y H x y v u Q I U N h;obtain⟨i,j,rfl,rfl,G,q⟩:=h;obtain⟨t,rfl⟩:=U;obtain⟨J,rfl⟩:=N;exact rule i j t J s _ _ G ⟨.int (g i j),H,I.tok _,⟨_,rfl⟩,q⟩
def AS {f:Ac->Ac->Kk Ac}
  (rule:∀ (i j:Aq) (t u:Ms) (s:Ai) (Q:J7) (E:J7),Q (.int (g i j) s.toks) { s with toks:=s.toks+1 } -> a8 X (f (.int i t) (.int j u)) Q E s) :
  o_ X f (vq λi j=>.int (g i j)):=by
 intro N s Y H x y v u Q I U G h;obtain⟨i,j,rfl,rfl,q⟩:=h;obtain⟨t,rfl⟩:=U;obtain⟨J,rfl⟩:=G;exact rule i j t J s _ _ ⟨.int (g i j),H,I.tok _,⟨_,rfl⟩,q⟩
def wb {g:Aq->Aq->Ar}
  (rule:∀ (i j:Aq) (t u:Ms) (s:Ai) (Q:J7) (E:J7),Q (.bool (g i j)) s->a8 X (f (.int i t) (.int j u)) Q E s) :
  o_ X f (vq λi j=>.bl (g i j)):=by
 intro N s Y H x y v u Q I U G h;obtain⟨i,j,rfl,rfl,q⟩:=h;obtain⟨t,rfl⟩:=U;obtain⟨J,rfl⟩:=G;exact rule i j t J s _ _ ⟨.bl (g i j),H,I,rfl,q⟩
def qBP (i j:Aq):Prop:=0<j/\j<1073741824
def qBQ (i j:Aq):Prop:=0<=j/\j<=1000000/\i.natAbs<2 ^ 64
def KD (i j:Aq):Prop:=(-(2 ^ 64)<i/\i<2 ^ 64)\/(-(2 ^ 64)<j/\j<2 ^ 64)
def KD.ok (h:KD i j):IntMulOk i j:=by
 rcases h with⟨Q,Y⟩|⟨Q,Y⟩
 .exact .of_left (intBits_le_64 Q Y)
 .exact .of_right (intBits_le_64 Q Y)
def AU:o_ X (Ec .Add) (vq λi j=>.int (i+j)):=AS λ_ _ _ _ _ _ _ q=>add_int q
def IA:o_ X (Ec .Sub) (vq λi j=>.int (i-j)):=AS λ_ _ _ _ _ _ _ q=>sub_int q
def AY:o_ X (Ec .Mult) (rI KD λi j=>.int (i*j)):=U_ λ_ _ _ _ _ _ _ Q q=>mul_int q Q.ok
def D9:o_ X (Ec .FloorDiv) (rI qBP λi j=>.int (i/j)):=U_ λi j _ _ _ _ _ Q q=>by have Y:(0:Aq)<j:=Q.1;have J:j<1073741824:=Q.2;exact floordiv_int li (by rw[Int.fdiv_eq_ediv_of_nonneg i li];exact q) (.inl (PyProof.noPylong_small li))
def AX:o_ X (Ec .Mod) (rI (λ_ j=>0<j) λi j=>.int (i % j)):=U_ λi j _ _ _ _ _ Q q=>by have Y:(0:Aq)<j:=Q;exact mod_int' li (by rw[Int.fmod_eq_emod_of_nonneg i li];exact q)
def AZ:o_ X (Ec .Pow) (rI qBQ λi j=>.int (i ^ j.toNat)):=U_ λ_ _ _ _ _ _ _ Q q=>pow_int_small Q.1 Q.2.1 Q.2.2 q
def unI {f:Ac->Kk Ac}{g:Aq->Aq}
  (rule:∀ (i:Aq) (t:Ms) (s:Ai) (Q:J7) (E:J7),Q (.int (g i) s.toks) { s with toks:=s.toks+1 } -> a8 X (f (.int i t)) Q E s) :
  _Y X f (rU λi=>.int (g i)):=by
 intro U s Y H x v Q I J h;obtain⟨i,rfl,q⟩:=h;obtain⟨t,rfl⟩:=J;exact rule i t s _ _ ⟨.int (g i),H,I.tok _,⟨_,rfl⟩,q⟩
def OO:_Y X (Yw .USub) (rU λi=>.int (-i)):=unI λ_ _ _ _ _ q=>neg_int q
end
section
variable {X:Cx}{b:Bl}
def HY {Q:VK}{k J:Ar}(I:Inv X aa Y H s)(q:Q (.bl k) H)(e:k=J):EP X aa Y Q (.bool J) s:=by subst e;exact⟨.bl k,H,I,rfl,q⟩
def qAw:o_ X (Cs .Lt) (vq λi j=>.bl (decide (i<j))):=wb λ_ _ _ _ _ _ _ q=>lt_int q
def qAv:o_ X (Cs .LtE) (vq λi j=>.bl (decide (i<=j))):=wb λ_ _ _ _ _ _ _ q=>le_int q
def qAu:o_ X (Cs .Gt) (vq λi j=>.bl (decide (j<i))):=wb λ_ _ _ _ _ _ _ q=>gt_int q
def qAt:o_ X (Cs .GtE) (vq λi j=>.bl (decide (j<=i))):=wb λ_ _ _ _ _ _ _ q=>ge_int q
def AW:o_ X (Cs .Is) (λx y H Q=>y=.non/\Q (.bl (decide (x=.non))) H):=by
 intro G s Y H x y v u Q I J U h;obtain⟨rfl,q⟩:=h;cases U;refine is_none_gen (HY I q ?_);cases x <;> first
  |(cases J;rfl)
  |(obtain⟨t,rfl⟩:=J;rfl)
def lI (b:Bl){op:Aab}(h:op≠.In:=by decide)(Q:op≠.NotIn:=by decide):Lu op b=false:=by
 have Y:(op == CmpOp.In)=false:=by cases op <;> first|rfl|exact absurd rfl h
 have J:(op == CmpOp.NotIn)=false:=by cases op <;> first|rfl|exact absurd rfl Q
 cases b <;> simp[Lu,Y,J]
def XZ (K:Ag)(x:V)(H:Hp)(k:Ar):Prop:=
 match x with
 |.non=>k=Yp
 |.bl b=>k=b
 |.int i=>k=(i != 0)
 |.str y=>y.length<=sizeLine/\k=((y.length:Aq) != 0)
 |.byt y=>y.size<=sizeLine/\k=((y.size:Aq) != 0)
 |.ref p=>(∃ Q,kr K H p Q/\k=!Q.isEmpty)\/(∃ Q,j_ K H p Q/\k=!Q.isEmpty)\/∃ Y,H p=Aa (.dK Y)/\k=!Y.isEmpty
 |_=>Fv
def WN {κ:Type}{Q:Ab (κ × V)}{vs:Ab (κ × Ac)}(r:KV Q vs):(!vs.isEmpty)=!Q.isEmpty:=by cases r <;> rfl
def l8 (r:qQ xs ah):(!ah.toArray.isEmpty)=!xs.isEmpty:=by cases r <;> simp
def p9:(sizeLine:Aj)<2 ^ 63:=by rw[Dv];decide
def m8:qBV X (λx H Q=>∃ k,XZ X.K x H k/\Q k H):=by
 intro z s Y H x v Q I O h;obtain⟨k,e,q⟩:=h;have w:=p9;have M:sizeLine=16777216:=Dv;cases x with
 |non =>
  cases O;have J:k=false:=e;subst J;exact truthy_none ⟨H,I,q⟩
 |bl b =>
  cases O;have J:k=b:=e;subst J;exact Nl ⟨H,I,q⟩
 |int i =>
  obtain⟨t,rfl⟩:=O;have J:k=(i != 0):=e;subst J;exact PySem.P.truthy_int ⟨H,I,q⟩
 |str y =>
  obtain⟨t,rfl⟩:=O;obtain⟨A,J⟩:y.length<=sizeLine/\k=((y.length:Aq) != 0):=e;subst J;exact PySem.P.truthy_str li ⟨H,I.tok _,q⟩
 |byt y =>
  obtain⟨t,rfl⟩:=O;obtain⟨A,J⟩:y.size<=sizeLine/\k=((y.size:Aq) != 0):=e;subst J;exact PySem.W.truthy_bytes li ⟨H,I.tok _,q⟩
 |ref p =>
  cases O;have J:(∃ N,kr X.K H p N/\k=!N.isEmpty)\/(∃ N,j_ X.K H p N/\k=!N.isEmpty)\/∃ U,H p=Aa (.dK U)/\k=!U.isEmpty:=e;rcases J with⟨N,C,J⟩|⟨N,C,J⟩|⟨U,C,J⟩
  .subst J;obtain⟨T,r,pl,L⟩:=I.list C;have G:=r.length;exact wpAny_truthy_list pl.isList (by simp only[Bf];lia) ⟨H,I.tok _,by rw[l8 r];exact q⟩
  .subst J;obtain⟨T,r,pl,L⟩:=I.tuple C;have G:=r.length;exact truthy_tuple pl (by simp only[Bf];lia) ⟨H,I.tok _,by rw[l8 r];exact q⟩
  .subst J;obtain⟨L,E,B,r,m⟩:U.length<=sizeLine/\(p == Pj)=Yp/\∃ B,KV U B/\s.heap.DictOf (sL X.prog X.w) p B:=I.hok p _ C;have G:U.length=B.length:=Paired.length r;exact wpAny_truthy_dict E m li ⟨H,I.tok _,by rw[WN r];exact q⟩
 |_=>exact(show Fv from e).elim
def YA:o_ X (Ec .Add) (λx y H Q=>∃ i j,x=.str i/\y=.str j/\i.length+j.length<=sizeLine/\Q (.str (i++j)) H):=by intro C s Y H x y v u Q I U N h;obtain⟨i,j,rfl,rfl,G,q⟩:=h;obtain⟨t,rfl⟩:=U;obtain⟨J,rfl⟩:=N;exact add_str (λJ O=>⟨.str (i++j),H,I.tok _,⟨_,rfl⟩,q⟩) G
def jJ {x:V}(r:qQ [x] us):∃ u,us=[u]/\qR x u:=by
 cases r with
 |cons Y Q=>cases Q;exact⟨_,rfl,Y⟩
def MP {x y:V}(r:qQ [x,y] us):∃ u Q,us=[u,Q]/\qR x u/\qR y Q:=by
 cases r with
 |cons G U =>
  cases U with
  |cons J Y=>cases Y;exact⟨_,_,rfl,G,J⟩
def rQ:nM X (.type "int") (λxs H Q=>(∃ i,xs=[.int i]/\Q (.int i) H)\/∃ k,xs=[.bl k]/\Q (.int (if k then 1 else 0)) H):=by
 intro U s Y H xs us Q I r h;rcases h with⟨i,rfl,q⟩|⟨k,rfl,q⟩
 .obtain⟨u,rfl,t,rfl⟩:=jJ r;exact call_int_int ⟨.int i,H,I,⟨_,Z⟩,q⟩
 .obtain⟨u,rfl,J⟩:=jJ r;cases J;exact call_int_bool ⟨.int (if k then 1 else 0),H,I.tok _,⟨_,rfl⟩,q⟩
def cX:nM X (.type "str") (λxs H Q=>∃ i,xs=[.int i]/\i.natAbs.log2<1920/\Q (.str (toString i)) H):=by intro U s Y H xs us Q I r h;obtain⟨i,rfl,J,q⟩:=h;obtain⟨u,rfl,t,rfl⟩:=jJ r;exact PySem.P.str_of_int J ⟨.str _,H,I.tok _,⟨_,rfl⟩,q⟩
def RH (K:Ag)(x:V)(H:Hp)(n:Aj):Prop:=
 match x with
 |.str y=>y.length<=sizeLine/\n=y.length
 |.byt y=>y.size<=sizeLine/\n=y.size
 |.ref p=>(∃ Q,kr K H p Q/\n=Q.length)\/∃ Q,j_ K H p Q/\n=Q.length
 |_=>Fv
def KS:nM X (.builtin "len") (λxs H Q=>∃ x n,xs=[x]/\RH X.K x H n/\Q (.int n) H):=by
 intro A s Y H xs us Q I r h;obtain⟨x,n,rfl,e,q⟩:=h;obtain⟨u,rfl,N⟩:=jJ r;have E:=p9;have T:sizeLine=16777216:=Dv;cases x with
 |str y =>
  obtain⟨t,rfl⟩:=N;obtain⟨L,U⟩:y.length<=sizeLine/\n=y.length:=e;subst U;exact len_str li ⟨.int _,H,I.tok _,⟨_,rfl⟩,q⟩
 |byt y =>
  obtain⟨t,rfl⟩:=N;obtain⟨L,U⟩:y.size<=sizeLine/\n=y.size:=e;subst U;exact PySem.W.len_bytes li ⟨.int _,H,I.tok _,⟨_,rfl⟩,q⟩
 |ref p =>
  cases N;have U:(∃ xs,kr X.K H p xs/\n=xs.length)\/∃ xs,j_ X.K H p xs/\n=xs.length:=e;rcases U with⟨xs,G,U⟩|⟨xs,G,U⟩
  .subst U;obtain⟨C,O,pl,B⟩:=I.list G;have J:=O.length;exact Calls.call_len_list pl.isList (by simp only[Bf];lia) ⟨.int xs.length,H,I.tok _,⟨_,by simp only[Bf];rw[J]⟩,q⟩
  .subst U;obtain⟨C,O,pl,B⟩:=I.tuple G;have J:=O.length;exact len_tuple pl (by simp only[Bf];lia) ⟨.int xs.length,H,I.tok _,⟨_,by simp only[Bf];rw[J]⟩,q⟩
 |_=>exact(show Fv from e).elim
end
end _L
namespace _L
variable {u:Ac}
structure qr (h:Bb)(x dx C:Af)(mA:J8):Prop where
 obj:h.get? x=Aa (Hy C dx)
 ns:h.Ns1 dx mA
 ne:dx≠x
set_option tactic.hygienic true in
def fS {h:Bb}(n:h.Ns1 U mA):∃ Y,h.get? U=Aa Y/\∀ name,Pv name Y=Aa (mA name):=by
 obtain⟨o,J,T,N,L,C,_,B⟩:=n;refine⟨o,N,λname=>?_⟩;have e:=B name;unfold nsFind findBy at e;rw[<- Wu] at e;unfold Pv;rw[L];dsimp only;split
 .rename_i y q;rw[q] at e;exact congrArg Aa e
 .rename_i q;rw[q] at e;have a:J.toList.any (·.refKey)=false:=by
   rw[List.any_eq_false];intro y G;obtain⟨z,t,Q⟩:=C y (Oo.mp G);simp[DictEntry.refKey,Q]
  have O:¬ J.toList.any (·.refKey)=true:=by rw[a];exact Fc
  rw[AT O];exact congrArg Aa e
theorem qr.look (I:qr h x Y C mA):∃ Q,PySem.W.InstAt h x (Hy C Y) C (Aa Q)/\∀ name,Pv name Q=Aa (mA name):=
 let ⟨Q,J,U⟩:=fS I.ns
 ⟨Q,⟨I.obj,Z,Z,J⟩,U⟩
section
variable {prog:Ba}{w:Bu}{A:Bn}{E:J7}{s:Ai}{K:Ag}{x dx C f:Af}{mA:J8}{name:Ah}{v:Ac}
def NS {Y:Ar}{Q:J7}(X:K.In s.heap)(I:qr s.heap x dx C mA)(G:Lr K C name=Vq)(U:KT K C=Vq)
  (N:Dd K (.ref C) name=Aa Zt) (hv:mA name=Aa v) (J:Yx v=Vq) (h:Q v { s with toks:=s.toks+1 }) :
  Ap (As prog w) A (Yy (.ref x) name Y) Q E s:=by
 obtain⟨L,O,B⟩:=I.look;exact PySem.W.get_value X O (Pm G).1 (PySem.W.findObj_own U N rfl (by rw[B,hv])) J h
def GX {pl:Kk Ar}{Q:Ac × Ab Ac->Ai->Prop}(X:K.In s.heap)(I:qr s.heap x dx C mA)(Y:Lr K C name=Vq)
  (J:Dd K (.ref C) name=Aa (Aa (.ref f))) (U:Tg K (.ref f)=Vq) (hv:mA name=Zt) (h:Q (.ref f,[.ref x]) s) :
  Ap (As prog w) A (Rc (.ref x) name pl) Q E s:=by
 obtain⟨G,N,O⟩:=I.look;exact PySem.W.method_fn X N (Pm Y).1 (Pm Y).2 J (Ig.mp U) (by show (Pv name G).map (·.isSome)=Aa Yp;rw[O,hv];rfl) h
def SN {ns:Y0}{Q:Nq->Ai->Prop}(X:K.In s.heap)(I:qr s.heap x dx C mA)
  (hs:Dd K (.ref C) "__setattr__" = Aa (Aa (.builtin "object.__setattr__"))) (hp:Re K C=Vq) (H:Tv K C name=Aa Zt) (T:KT K C=Vq)
  (hw:Mw mA ns) (M:ns.length<=sizeLine)
  (h:∀ h',qr h' x dx C (λy=>if y=name then Aa v else mA y)->Ex dx s.heap h'->Q () { s with heap:=h',toks:=s.toks+2 }) :
  Ap (As prog w) A (setAttr (.ref x) name v) Q E s:=by
 obtain⟨q,B,l⟩:=I.look;refine PySem.W.set_plain X B hs (PySem.W.osa_open (s:={ s with toks:=s.toks+1 }) (r:=Zt) X B hp H λb=>?_);obtain⟨p,j,N⟩:=PySem.W.any_some T;have L:s.heap.get? x=Aa ⟨.ref C,Aa dx,.plain,#[]⟩:=I.obj;refine Ad (An (Ad (Ad (Pw L (Ad (PySem.W.Looks.here (s:={ s with toks:=s.toks+1 }) (PySem.W.looks_clsIn X j) ?_))))));rw[N];refine An (a:=Aa dx) (Ad (An (Ad ?_)));refine Xb (s:={ s with toks:=s.toks+1 }) I.ns λh' J Y=>?_;obtain⟨o,z,k,U,O,G⟩:=J.count (Rf name v hw);refine Ad (So U (by rw[O];exact Sr (By G (by rw[Aw];lia))) ?_);exact An (h _ ⟨(Y.2 _ (Di I.ne)).trans I.obj,J,I.ne⟩ Y)
def PZ {R:Qs->Ai->Prop}{vs:Y8}{Y:Ab (Ah × Ac)}(X:K.In s.heap)(hm:Ot K C=Vq)
  (U:Dd K (.ref C) "__init__" = Aa (Aa (.ref f))) (J:PySem.W.typeIn K (.ref f)=Aa (.type "function"))
  (h:Gn (As prog w) (A.under (.builtin "type.__call__" ⟨.ref C::vs,Y⟩)) (.call (.ref f) ⟨.ref (s.heap.objs.size+1)::vs,Y⟩) (PySem.W.InitBack (s.heap.objs.size+1) R)
   { s with heap:=(s.heap.push Fy).push (Hy C s.heap.objs.size) }) :
  Gn (As prog w) A (.call (.ref C) ⟨vs,Y⟩) R s:=by
 obtain⟨G,g,d,t,os⟩:=s;exact PySem.W.make_core (PySem.W.makes_of X hm) (PySem.W.looks_findIn X U) (λQ=>PySem.W.bind_fn X Q J) (.inl rfl) h
end
noncomputable def yA (f:Ah)(v:V):Ab (Ah × V)->Ab (Ah × V)
 |[]=>[(f,v)]
 |(g,x)::r=>if g=f then (g,v)::r else (g,x)::yA f v r
theorem tG (f g:Ah)(v:V):∀ fs:Ab (Ah × V),(yA f v fs).lookup g=if g=f then Aa v else fs.lookup g
 |[]=>by
  show Ev g [(f,v)]=_;by_cases h:g=f
  .have Q:(g == f)=true:=Ig.mpr h;simp only[Ev,Q,Au h]
  .have Q:(g == f)=false:=Fx.mpr h;simp only[Ev,Q,AT h]
 |(k,x)::r=>by
  have J:=tG f g v r;rw[show yA f v ((k,x)::r)=(if k=f then (k,v)::r else (k,x)::yA f v r) from Z];by_cases Y:k=f
  .rw[Au Y];by_cases h:g=k
   .have Q:(g == k)=true:=Ig.mpr h;simp only[Ev,Q,Au (h.trans Y)]
   .have Q:(g == k)=false:=Fx.mpr h;simp only[Ev,Q,AT (λe:g=f=>h (e.trans Y.symm))]
  .rw[AT Y];by_cases h:g=k
   .have Q:(g == k)=true:=Ig.mpr h;simp only[Ev,Q,AT (λe:g=f=>Y (h.symm.trans e))]
   .have Q:(g == k)=false:=Fx.mpr h;simp only[Ev,Q];exact J
theorem fQ (f:Ah)(v:V):∀ fs:Ab (Ah × V),f∈(yA f v fs).map (·.1)/\∀ g,g∈fs.map (·.1)->g∈(yA f v fs).map (·.1)
 |[]=>⟨by simp[yA],λg h=>by simp at h⟩
 |(k,x)::r=>by
  obtain⟨Y,i2⟩:=fQ f v r;rw[show yA f v ((k,x)::r)=(if k=f then (k,v)::r else (k,x)::yA f v r) from rfl];by_cases Q:k=f
  .rw[Au Q];subst Q;exact⟨by simp,λg h=>by simpa using h⟩
  .rw[AT Q];refine⟨?_,λg h=>?_⟩
   .rw[Ee];exact Bm _ Y
   .rw[Ee] at h ⊢;rcases Ay.mp h with e|e
    .exact Ay.mpr (.inl e)
    .exact Bm _ (i2 g e)
theorem tF (f:Ah)(v:V):∀ fs:Ab (Ah × V),(yA f v fs).length<=fs.length+1
 |[]=>by simp[yA]
 |(k,x)::r=>by
  have Y:=tF f v r;rw[show yA f v ((k,x)::r)=(if k=f then (k,v)::r else (k,x)::yA f v r) from Z];by_cases Q:k=f
  .rw[Au Q,Aw,Aw];lia
  .rw[AT Q,Aw,Aw];lia
def uH.some_of (r:uH (Aa v) o):∃ u,o=Aa u/\qR v u:=by
 cases o with
 |none=>exact(show Fv from r).elim
 |some u=>exact⟨u,rfl,r⟩
def uH.none_of (r:uH Zt o):o=none:=by
 cases o with
 |none=>rfl
 |some u=>exact(show Fv from r).elim
def eB (r:qR v u):Yx u=true:=by
 cases v with
 |non=>cases (show u=El from r);rfl
 |bl b=>cases (show u=Fb b from r);rfl
 |int i=>obtain⟨t,e⟩:=(show ∃ t,u=Uo i t from r);cases e;rfl
 |str x=>obtain⟨t,e⟩:=(show ∃ t,u=Xo x t from r);cases e;rfl
 |byt b=>obtain⟨t,e⟩:=(show ∃ t,u=Value.bytes b t from r);cases e;rfl
 |flt b=>obtain⟨t,e⟩:=(show ∃ t,u=Yu b t from r);cases e;rfl
 |ref a=>cases (show u=Ca a from r);rfl
 |ty n=>cases (show u=Ht n from r);rfl
section
variable {P:Ba}{w:Bu}{H:Hp}{h:Bb}{a C dx:Af}{fs:Ab (Ah × V)}
def mM (Q:jm P w H h)(e:H a=Aa (.ins C dx fs)):∃ mA,qr h a dx C mA/\(∀ f,uH (fs.lookup f) (mA f))/\Mw mA (fs.map (·.1))/\fs.length<=1000/\H dx=Aa (.own a):=by
 obtain⟨d,z,J,Y,mA,n,r,q⟩:=(show zR P w H h a (.ins C dx fs) from Q a _ e)
 exact⟨mA,⟨Y,n,J⟩,r,q,z,d⟩
end
structure ub (K:Ag)(C:Af):Prop where
 pg:Lr K C Ou=Vq
 hd:KT K C=Vq
 po:Re K C=Vq
 sa:Dd K (.ref C) "__setattr__" = Aa (Aa (.builtin "object.__setattr__"))
def ub.get {K:Ag}(c:ub K C)(f:Ah):Lr K C f=true:=c.pg
def vS (K:Ag)(C:Af)(f:Ah):Prop:=Dd K (.ref C) f=Aa Zt
def vS.taker {K:Ag}(n:vS K C f):Tv K C f=Aa none:=by unfold Tv;rw[show Dd K (.ref C) f=Aa Zt from n];rfl
structure ye (K:Ag)(C:Af)(m:Ah)(f:Af):Prop where
 at_:Dd K (.ref C) m=Aa (Aa (.ref f))
 fn:Tg K (.ref f)=Vq
 kp:Da K (.ref f)=Vq
section
variable {X:Cx}{aa:J0}{Y: St}{H:Hp}{s:Ai}{a C dx:Af}{fs:Ab (Ah × V)}{f:Ah}{v:V}{A:Bn}{E:J7}
def WJ {b:Ar}{Q:J7}(I:Inv X aa Y H s)(e:H a=Aa (.ins C dx fs))(c:ub X.K C)(n:vS X.K C f)(l:fs.lookup f=Aa v)
  (h:∀ u s',Inv X aa Y H s'->qR v u->Q u s'):Ap (As X.prog X.w) A (Yy (.ref a) f b) Q E s:=by
 obtain⟨G,O,r,_,_,_⟩:=mM I.hok e;obtain⟨u,U,J⟩:=uH.some_of (v:=v) (o:=G f) (by rw[<- l];exact r f);exact NS I.kIn O (c.get f) c.hd n U (eB J) (h u _ (I.tok _) J)
def l5 {pl:Kk Ar}{Q:Ac × Ab Ac->Ai->Prop}(I:Inv X aa Y H s)(e:H a=Aa (.ins C dx fs))(c:ub X.K C)(k:ye X.K C m g)(l:fs.lookup m=Zt)
  (h:Q (.ref g,[.ref a]) s):Ap (As X.prog X.w) A (Rc (.ref a) m pl) Q E s:=by
 obtain⟨U,O,r,_,_,_⟩:=mM I.hok e;have J:U m=none:=uH.none_of (by rw[<- l];exact r m);exact GX I.kIn O (c.get m) k.at_ k.fn J h
def YL {Q:Nq->Ai->Prop}(I:Inv X aa Y H s)(e:H a=Aa (.ins C dx fs))(c:ub X.K C)(n:vS X.K C f)(l:fs.length<1000)(k:qR y u)
  (h:∀ s',Inv X aa Y (bx H a (.ins C dx (yA f y fs))) s'->Q () s'):Ap (As X.prog X.w) A (setAttr (.ref a) f u) Q E s:=by
 obtain⟨G,O,r,U,_,N⟩:=mM I.hok e;have M:(fs.map (·.1)).length<=sizeLine:=by rw[Ao,Dv];lia
 refine SN I.kIn O c.sa c.po n.taker c.hd U M λB J j=>h _ ?_;have p:∃ o,B.get? dx=Aa o:=let ⟨o,_,_,T,_⟩:=J.ns;⟨o,T⟩;refine I.write (x:=a) (e:=dx) (by rw[e];exact Js) (.inr N) (λb q w z=>(j.2 b w).trans z) p ?_;refine⟨by rw[qN O.ne];exact N,?_,O.ne,J.obj,_,J.ns,λg=>?_,λg L=>?_⟩
 .have:=tF f y fs;lia
 .show uH ((yA f y fs).lookup g) (if g=f then Aa u else G g);rw[tG];by_cases q:g=f
  .rw[Au q,Au q];exact k
  .rw[AT q,AT q];exact r g
 .by_cases q:g=f
  .rw[q];exact(fQ f y fs).1
  .refine(fQ f y fs).2 g (U g λz=>L ?_);show (if g=f then Aa u else G g)=Zt;rw[AT q];exact z
def Inv.made (I:Inv X aa Y H s):Inv X aa Y (bx (bx H s.heap.objs.size (.own (s.heap.objs.size+1))) (s.heap.objs.size+1) (.ins C s.heap.objs.size []))
  { s with heap:=(s.heap.push Fy).push (Hy C s.heap.objs.size) }:=by
 have J:(s.heap.push Fy).get? s.heap.objs.size=Aa Fy:=Be s.heap Z;have G:((s.heap.push Fy).push (Hy C s.heap.objs.size)).get? (s.heap.objs.size+1)=Aa (Hy C s.heap.objs.size):=by have:=Be (s.heap.push Fy) (o:=Hy C s.heap.objs.size) Z;rwa [Er] at this
 have O:(s.heap.push Fy).Ns s.heap.objs.size (λ_=>Zt):=⟨Fy,#[],_,J,Z,(λe U=>absurd U aA),λ_=>rfl⟩
 have B:=I.laid (a:=s.heap.objs.size) (o:=.own (s.heap.objs.size+1)) (h':=s.heap.push Fy) (t':=s.toks) (λb u q=>Ak _ q) (Ax _) ⟨_,J⟩;refine B.laid (a:=s.heap.objs.size+1) (o:=.ins C s.heap.objs.size []) (t':=s.toks) (λb u q=>Ak _ q) (Nat.le_of_eq (Er _ _)) ?_;have Q:s.heap.objs.size≠s.heap.objs.size+1:=Cn (Hl _);refine⟨by rw[qN Q,qT],Fi _,Q,G,λ_=>Zt,(Xs O).at λo q=>Ak _ q,λ_=>Js,λy N=>absurd Z N⟩
def Q4 {prog:Ba}{w:Bu}{G:Eb}{Q:J7}(U:Fz e f ac (eval e ac)=eval e ac)
  (h:Ap (As prog w) A (eval e ac) (λo J=>Ap (As prog w) A (Yy o f Vq) Q E J) E s):Ap (As prog w) A (eval (.Attribute e f G) ac) Q E s:=
 Attribute_any_ h (by rw[arm_eval_Attribute,U])
end
section
variable {X:Cx}{aa:J0}{Y: St}{H:Hp}{s:Ai}{A:Bn}{E:J7}{Q:J7}{c:Ac}{b:Ar}
inductive ko (K:Ag)(H:Hp):V->Ac->Prop where
 |non:ko K H .non (.type "NoneType")
 |bl (x:Ar):ko K H (.bl x) (.type "bool")
 |int (i:Aq):ko K H (.int i) (.type "int")
 |str (x:Ah):ko K H (.str x) (.type "str")
 |flt (x:UInt64):ko K H (.flt x) (.type "float")
 |lst {a:Af} {xs:Ab V} (e:H a=Aa (.lst xs)):ko K H (.ref a) (.type "list")
 |frz {a:Af} {o:Cd} {xs:Ab V} (e:H a=Aa (.frz o (.lst xs))):ko K H (.ref a) (.type "list")
 |tup {a:Af} {xs:Ab V} (e:H a=Aa (.tup xs)):ko K H (.ref a) (.type "tuple")
 |dK {a:Af} {kvs:Ab (ku × V)} (e:H a=Aa (.dK kvs)):ko K H (.ref a) (.type "dict")
 |dT {a:Af} {kvs:Ab (Ab ku × V)} (e:H a=Aa (.dT kvs)):ko K H (.ref a) (.type "dict")
 |ins {a C dx:Af} {fs:Ab (Ah × V)} (e:H a=Aa (.ins C dx fs)) (cl:ub K C) (ha:Dd K (.ref C) "__class__" = Aa (Aa (.builtin "object.__class__")))
   (hn:Xt K (.builtin "object.__class__") "__get__" = Aa (Aa (.builtin "getset_descriptor.__get__"))) (htk:Zw K (.builtin "object.__class__")=Aa Vq)
   (hm:Vr K C (.type "object")=Aa Vq):ko K H (.ref a) (.ref C)
def U7 (I:Inv X aa Y H s)(U:qR x u)(ty:ko X.K H x t)(e:Li X.K t c=Aa b)(h:∀ k,Q (.bool b) { s with toks:=k }) :
  Ap (As X.prog X.w) A (call (.builtin "isinstance") [u,c]) Q E s:=by
 cases ty with
 |non=>cases (show u=El from U);exact Ea PySem.W.kitx_none I.kIn Js e (λz=>nomatch z) h
 |bl y=>cases (show u=Fb y from U);exact Ea PySem.W.kitx_bool I.kIn Js e (λz=>nomatch z) h
 |int i=>obtain⟨t,q⟩:=(show ∃ t,u=Uo i t from U);cases q;exact Ea PySem.W.kitx_int I.kIn Js e (λz=>nomatch z) h
 |str y=>obtain⟨t,q⟩:=(show ∃ t,u=Xo y t from U);cases q;exact Ea PySem.W.kitx_str I.kIn Js e (λz=>nomatch z) h
 |flt y=>obtain⟨t,q⟩:=(show ∃ t,u=Yu y t from U);cases q;exact Ea PySem.W.kitx_float I.kIn Js e (λz=>nomatch z) h
 |@lst a B J =>
  cases (show u=Ca a from U);obtain⟨_,_,n,_,G⟩:=(show zR X.prog X.w H s.heap a (.lst B) from I.hok a _ J)
  exact Ea Rg I.kIn ⟨_,G,Z⟩ e (λz=>nomatch z) h
 |@frz a j B J =>
  cases (show u=Ca a from U);obtain⟨_,_,_,n,_,G⟩:=(show zR X.prog X.w H s.heap a (.frz j (.lst B)) from I.hok a _ J)
  exact Ea Rg I.kIn ⟨_,G,Z⟩ e (λz=>nomatch z) h
 |@tup a B J =>
  cases (show u=Ca a from U);obtain⟨_,_,_,p⟩:=(show zR X.prog X.w H s.heap a (.tup B) from I.hok a _ J)
  obtain⟨o,G,L,_⟩:=p;exact Ea Wv I.kIn ⟨o,G,L⟩ e (λz=>nomatch z) h
 |@dK a N J =>
  cases (show u=Ca a from U);obtain⟨_,_,vs,_,p⟩:=(show zR X.prog X.w H s.heap a (.dK N) from I.hok a _ J)
  obtain⟨o,w,d,G,L,_⟩:=p;exact Ea Xu I.kIn ⟨o,G,L.1⟩ e (λz=>nomatch z) h
 |@dT a N J =>
  cases (show u=Ca a from U);obtain⟨_,_,B,_,o,w,d,G,L,_⟩:=(show zR X.prog X.w H s.heap a (.dT N) from I.hok a _ J)
  exact Ea Xu I.kIn ⟨o,G,L.1⟩ e (λz=>nomatch z) h
 |@ins a C dx r J M l v T f =>
  cases (show u=Ca a from U);obtain⟨mA,O,_⟩:=mM I.hok J;obtain⟨m,g,_⟩:=O.look;exact Ea (PySem.W.kitx_own (M.get _) M.hd l v T f) I.kIn g e (λz=>nomatch z) h
end
end _L
namespace _L
variable {kw:Ab (Ah × Ac)}{us:Y8}{aj:Ab Hg}{K:Ag}{mg:J8}{kindOf:Ah->Al Hz}{A:Bn}
structure nj (k:Aj)(A:Bn):Prop where
 hd:A.handled=Zt
 dp:A.depth+3*k+5<Ve
 un:A.units+16*k+200<Fk
 gd:A.guards=Aa []
def WX:(A.under (.builtin "type.__call__" ⟨.ref C::us,kw⟩)).depth=A.depth+1:=by
 first|rfl|simp[Th,Code.weight,Code.isCreation,Code.isGuard,Code.isCaller,Code.frames,Xc,guardIds]
def WY:(A.under (.builtin "type.__call__" ⟨.ref C::us,kw⟩)).units=A.units+1:=by
 first|rfl|simp[Th,Code.cUnits,Code.frames,Xc]
def nj.make {k:Aj}(r:nj (k+1) A)(C:Af)(us:Y8)(kw:Ab (Ah × Ac)):nj k (A.under (.builtin "type.__call__" ⟨.ref C::us,kw⟩)):=
 ⟨r.hd,by have:=r.dp;rw[WX];lia,by have:=r.un;rw[WY];lia,by simp[Th,Code.guards,Code.isGuard,guardIds,pushGuards,r.gd]⟩
def qCK:TA:=λ_ H Q=>Q [] H
section
variable {X:Cx}{e:Bl}{es:Ab Bl}{t:TA}{ai:Eb}
def IB:PA X [] qCK:=λ_ _ _ _ H Q I h=>Lb ⟨[],H,I,.nil,h⟩
def qCM (t:TA):TE:=λY H Q=>t Y H λU J=>U.length<=sizeLine/\∀ p,J p=Zt->Q (.ref p) (bx J p (.tup U))
def qCJ (t:TA):TE:=λY H Q=>t Y H λU J=>U.length<=sizeLine/\∀ p,J p=Zt->Q (.ref p) (bx J p (.lst U))
def IG  (h:PA X es t):PE X (.Tuple es x1 ai) (qCM t):=by intro B s Y H Q I C;refine wpAny_Tuple_spliced (bi (h ai B s Y H _ I C) λus J ⟨N,U,G,r,z,q⟩=>⟨by rw[<- r.length];exact z,?_⟩);have O:U J.heap.objs.size=none:=G.hok.fresh (Ax _);refine⟨.ref J.heap.objs.size,bx U J.heap.objs.size (.tup N),G.laid (t':=J.toks) (λb u e=>Ak _ e) (Ax _) ?_,Z,q _ O⟩;exact⟨z,us,r,⟨_,Be _ Z,Z,_,Z⟩⟩
def JD (h:PA X es t):PE X (.List es ai) (qCJ t):=by intro B s Y H Q I C;refine wpAny_List_spliced (bi (h ai B s Y H _ I C) λus J ⟨N,U,G,r,z,q⟩=>⟨by rw[<- r.length];exact z,?_⟩);have O:U J.heap.objs.size=none:=G.hok.fresh (Ax _);refine⟨.ref J.heap.objs.size,bx U J.heap.objs.size (.lst N),G.laid (t':=J.toks) (λb u e=>Ak _ e) (Ax _) ?_,Z,q _ O⟩;exact⟨z,us,0,r,Be _ Z⟩
end
abbrev Sp:=Ab V->Hp->VK->XK->Prop
abbrev wl:=Ab Hg->Hp->Ai->XK->Ac->Ai->Prop
structure oh (P:Ba)(w:Bu)(K:Ag)(mg:J8)(base:Bb)(A:Bn)(outer:Ab Hg)(s:Ai)(H:Hp):Prop where
 frames:A.frames=Aa outer
 mod:Mod K mg base
 bs:∀ b o,base.get? b=Aa o->s.heap.get? b=Aa o/\H b=Zt
 bsz:base.objs.size<=s.heap.objs.size
 funs:s.heap.FunFrames base outer
 frf:∀ b∈gv outer,H b=Zt
 hok:jm P w H s.heap
 bare:Nx s.gens
def CE (aj:Ab Hg)(P:Ba)(w:Bu)(H:Hp)(s:Ai)(Q:VK)(u:Ac)(s':Ai):Prop:=
 ∃ v Y,s'.os=s.os/\Nx s'.gens/\Un (gv aj) [] H Y s.heap s'.heap/\jm P w Y s'.heap/\qR v u/\Q v Y
def CR (CX:wl)(aj:Ab Hg)(P:Ba)(w:Bu)(H:Hp)(s:Ai)(Q:VK)(E:XK)(r:Qs)(s':Ai):Prop:=
 match r with
 |.ok (.ret u)=>CE aj P w H s Q u s'
 |.ok _=>Fv
 |.error e=>CX aj H s E e s'
structure qt (P:Ba)(w:Bu)(K:Ag)(mg:J8)(base:Bb)(CX:wl)(k:Aj)(f:Af)(fd:Ft)(ps:Y0)(sp:Sp):Prop where
 len:∀ vs H Q E,sp vs H Q E->vs.length=ps.length
 run:∀ (A:Bn) (outer:Ab Hg) (s:Ai) (H:Hp) (args:Args) (us:Y8) (vs:Ab V) (Q:VK) (E:XK),nj k A->oh P w K mg base A outer s H->Nz s fd args (ps.zip us)->qQ vs us->sp vs H Q E ->
  Gn (As P w) A (.call (.ref f) args) (CR CX outer P w H s Q E) s
def oh.make {P:Ba}{base:Bb}(e:oh P w K mg base A aj s H)(C:Af)(us:Y8)(kw:Ab (Ah × Ac)) :
  oh P w K mg base (A.under (.builtin "type.__call__" ⟨.ref C::us,kw⟩)) aj s H:=⟨by first|exact e.frames|(simpa [Th,Code.envs,Xc,pushEnvs] using e.frames),e.mod,e.bs,e.bsz,e.funs,e.frf,e.hok,e.bare⟩
section
variable {X:Cx}{aa:J0}{Y: St}{H:Hp}{s s':Ai}
def Inv.env0 (I:Inv X aa Y H s):oh X.prog X.w X.K X.mg X.base X.A X.stack s H:=
 ⟨I.ok.frames,I.ok.mod,I.bs,By I.ok.bsz I.sz,I.stack,I.stkFree,I.hok,I.bare⟩
def Inv.after (I:Inv X aa Y H s)(h:CE X.stack X.prog X.w H s Q u s'):EP X aa Y Q u s':=by obtain⟨v,C,os,J,O,G,r,q⟩:=h;obtain⟨N,g,d,t,U⟩:=s';obtain rfl:U=s.os:=os;exact⟨v,C,I.call (h':=N) (g':=g) (d':=d) (t':=t) (ch:=[]) O G J (λb z=>absurd z aA),r,q⟩
end
def yC (K:Ag)(fd:Ft)(ps:Y0)(ds:Y8):Prop:=
 ∀ (s:Ai) (us:Y8),K.In s.heap->(us++ds).length=ps.length->Nz s fd ⟨us,[]⟩ (ps.zip (us++ds))
def yC.all {ps:Y0}(h:∀ us:Ab Ac,us.length=ps.length->Tw fd ⟨us,[]⟩=pure (ps.zip us)):yC K fd ps []:=λs us _ Q=>by rw[Gg] at Q ⊢;exact .of_eq (h us Q)
def RJ (CX:wl)(X:Cx)(E:XK):Prop:=∀ (J:J0) (Y : St) (H:Hp) (s:Ai) (e:Ac) (Q:Ai),Inv X J Y H s->CX X.stack H s E e Q->X.xe e Q
section
variable {X:Cx}{CX:wl}{k:Aj}{f C:Af}{fd:Ft}{ps:Y0}{sp:Sp}{Y_:Ab V}{ds:Y8}{E:XK}{x:Ah}{e:Bl}
structure Mk (K:Ag)(C f:Af):Prop where
 makes:Ot K C=Vq
 init:Dd K (.ref C) "__init__" = Aa (Aa (.ref f))
 fn:Tg K (.ref f)=Vq
 kp:Da K (.ref C)=Vq
def BS {aa:J0}{Y:St}{H:Hp}{s:Ai}{Q:VK}{vs:Ab V}(M:Mk X.K C f)(F:qt X.prog X.w X.K X.mg X.base CX k f fd ps sp)(B:nj (k+1) X.A)(l:yC X.K fd ps ds)(n:qQ Y_ ds)
  (L:RJ CX X E) (I:Inv X aa Y H s) (r:qQ vs us)
  (h:∀ x G,H x=Zt->H G=Zt->G≠x->sp (.ref x::(vs++Y_)) (bx (bx H G (.own x)) x (.ins C G [])) (λv w=>v=.non/\Q (.ref x) w) E) :
  a8 X (call (.ref C) us) (EP X aa Y Q) X.xe s:=by
 have N:=h (s.heap.objs.size+1) s.heap.objs.size (I.hok.fresh (Jt _)) (I.hok.fresh (Ax _)) (Cn (Hl _));have U:=Inv.made (C:=C) I;have O:qQ (V.ref (s.heap.objs.size+1)::(vs++Y_)) (Ca (s.heap.objs.size+1)::(us++ds)):=.cons Z (r.append n);have g:(Ca (s.heap.objs.size+1)::us++ds).length=ps.length:=by have e:=O.length;rw[F.len _ _ _ _ N] at e;exact e.symm
 refine Kz (PZ (f:=f) I.kIn M.makes M.init (Ig.mp M.fn) (Ka (F.run _ X.stack _ _ ⟨Ca (s.heap.objs.size+1)::us,[]⟩ (Ca (s.heap.objs.size+1)::(us++ds)) _ _ E (B.make C us [])
  (U.env0.make C us []) (l _ (Ca (s.heap.objs.size+1)::us) U.kIn g) O N) λr q J=>?_))
 cases r with
 |error e=>exact L aa Y _ _ e q U J
 |ok z =>
  cases z with
  |ret u =>
   obtain⟨v,j,c,y,d,T⟩:=U.after J;subst d;exact⟨y,⟨V.ref (s.heap.objs.size+1),j,c,rfl,T⟩⟩
  |next=>exact Am J
  |brk=>exact Am J
  |cont=>exact Am J
end
structure cz (N P:Y0)(sc:Ez):Prop where
 kind:sc.kind=.function
 co:sc.isCoroutine=Yp
 gen:sc.isGenerator=Yp
 nd:N.Nodup
 pre:N.take P.length=P
 par:∀ x∈P,sc.names.lookup x=Aa .local \/ sc.names.lookup x=Aa .cell
 nofree:∀ y∈sc.names,y.2≠.free
theorem rN {x:Ah}:∀ {Q:Ab (Ah × Ac)} {m:J8},(∀ v,(x,v) ∉ Q)->Vs kindOf Q m x=m x
 |[],_,_=>rfl
 |(n,v)::r,m,h=>by
  unfold Vs;rw[rN λw Y=>h w (Bm _ Y)];split
  .have:x≠n:=by rintro rfl;exact h v Cr
   simp[this]
  .rfl
theorem rL {x:Ah}:∀ {Q:Ab (Ah × Ac)} {m:J8},(∀ v,(x,v) ∉ Q)->Vt kindOf Q m x=m x
 |[],_,_=>rfl
 |(n,v)::r,m,h=>by
  unfold Vt;rw[rL λw Y=>h w (Bm _ Y)];split
  .rfl
  .have:x≠n:=by rintro rfl;exact h v Cr
   simp[this]
theorem rM:∀ {P:Y0} {vs:Y8} {i:Aj} {m:J8},P.Nodup->P[i]? = Aa x->vs[i]? = Aa v->kindOf x=Aa .local ->
  Vs kindOf (P.zip vs) m x=Aa v
 |[],_,_,_,_,h,_,_=>by simp at h
 |_::_,[],_,_,_,_,h,_=>by simp at h
 |p::P,w::vs,0,m,J,Q,Y,U=>by
  simp at Q Y;subst Q;subst Y;show Vs kindOf ((p,w)::P.zip vs) m p=_;unfold Vs;rw[rN λv hv=>(Gx.mp J).1 (Tx hv).1,Au U];simp
 |p::P,w::vs,i+1,m,J,Q,Y,U=>by show Vs kindOf ((p,w)::P.zip vs) m x=_;unfold Vs;exact rM (i:=i) (Gx.mp J).2 (by simpa using Q) (by simpa using Y) U
theorem rK:∀ {P:Y0} {vs:Y8} {i:Aj} {m:J8},P.Nodup->P[i]? = Aa x->vs[i]? = Aa v->kindOf x≠Aa .local ->
  Vt kindOf (P.zip vs) m x=Aa v
 |[],_,_,_,_,h,_,_=>by simp at h
 |_::_,[],_,_,_,_,h,_=>by simp at h
 |p::P,w::vs,0,m,J,Q,Y,U=>by
  simp at Q Y;subst Q;subst Y;show Vt kindOf ((p,w)::P.zip vs) m p=_;unfold Vt;rw[rL λv hv=>(Gx.mp J).1 (Tx hv).1,AT U];simp
 |p::P,w::vs,i+1,m,J,Q,Y,U=>by show Vt kindOf ((p,w)::P.zip vs) m x=_;unfold Vt;exact rK (i:=i) (Gx.mp J).2 (by simpa using Q) (by simpa using Y) U
def yS (N:Y0)(vs:Ab V):St:=vs.map Aa++Cu (N.length-vs.length) Zt
noncomputable def E7 (CX:wl)(P:Ba)(w:Bu)(K:Ag)(mg:J8)(base:Bb)(N:Y0)(J:Ah)(ae:Ez)(f:Af)(Y:Ac)(A:Bn)(aj:Ab Hg)(s:Ai)(H:Hp)(E:XK):Cx where
 prog:=P
 w:=w
 K:=K
 mg:=mg
 base:=base
 A:=A.deeper (Fu J ae s.heap.objs.size f Y)
 N:=N
 s₀:=s
 H₀:=H
 env:=Fu J ae s.heap.objs.size f Y
 outer:=aj
 stack:=Fu J ae s.heap.objs.size f Y::aj
 ex:=[]
 calm:=Vq
 fn:=λ_=>Vq
 pn:=[]
 xe:=λe G=>Ap (As P w) (A.deeper (Fu J ae s.heap.objs.size f Y)) (leaving (Fu J ae s.heap.objs.size f Y) e) (λ_ Q=>CX aj H s E e Q) (λU Q=>CX aj H s E U Q) G
def cY {Q:Ez}(h:Q.names.lookup x=Aa .cell):∃ c,(HT n Q.names []).lookup x=Aa c:=by have q:=Nr Q.names n [] (.inl h);exact Mo.mp q
def U3 {CX:wl}{P:Ba}{w:Bu}{base:Bb}{N ps:Y0}{L:Ah}{ae:Ez}{f:Af}{B:Ac}{s T:Ai}{H:Hp}{E:XK}{vs:Ab V}
  (S:cz N ps ae) (l:A.handled=Zt) (Y:oh P w K mg base A aj s H) (t:vs.length=ps.length) (r:qQ vs us)
  (x:InCallC s s.heap.objs.size (Vs (Fu L ae s.heap.objs.size f B).kindOf (ps.zip us) λ_=>Zt) (HT (s.heap.objs.size+1) ae.names []) (Vt (Fu L ae s.heap.objs.size f B).kindOf (ps.zip us) λ_=>Zt) T) :
  Inv (E7 CX P w K mg base N L ae f B A aj s H E) [] (yS N vs) H T:=by
 have j:ps.length<=N.length:=by have:=congrArg Gh S.pre;rw[Fo] at this;lia
 obtain⟨O,m,rfl,M⟩:=x.done;have J:∀ b:Af,b ∉ (E7 CX P w K mg base N L ae f B A aj s H E).ex:=λb z=>absurd (show b∈([]:J9) from z) aA;refine⟨⟨Y.mod,S.kind,Z,Z,Ax _,λy z c O Q=>?_,λy hy=>?_,λy c _ h=>?_,λ_=>l,Vj Y.frames,.inr ⟨Z,Z⟩,λb z=>absurd z (J b),Y.bs,Y.bsz,λb _ _=>J b,λb z=>absurd z (J b),Y.funs,Y.frf⟩,
  rfl,Y.bare,Un.kept M,⟨_,x.toInCall.ns,λi y v O Q d=>?_⟩,λy c h=>⟨_,x.cell y c h⟩,Y.hok.fresh (Ax _),λy c h=>?_,λp G=>absurd (show p∈([]:J0) from G) aA,Y.hok.kept M,?_⟩
 .exact name_of_addr x.apart (Ga O) (Ga Q)
 .have hy:ae.names.lookup y=Aa .cell\/ae.names.lookup y=Aa .free:=hy;rcases hy with hy|hy
  .exact cY hy
  .exact absurd Z (S.nofree _ (Ga hy))
 .exact Hi (x.above y c (Ga h))
 .have C:i<vs.length:=by
   unfold yS at Q;by_cases C:i<vs.length
   .exact C
   .rw[Eg (by simpa using C)] at Q;rw[Mx] at Q;split at Q <;> cases Q
  have g:vs[i]? = Aa v:=by
   unfold yS at Q;rw[Co (by simpa using C),Es] at Q;cases e:vs[i]? with
   |none=>rw[e] at Q;cases Q
   |some a=>rw[e] at Q;cases Q;rfl
  obtain⟨u,I,o⟩:=r.get g;have G:ps[i]? = Aa y:=by rw[<- S.pre,Sd li];exact O
  have U:ps.Nodup:=by rw[<- S.pre];exact S.nd.sublist (List.take_sublist _ _)
  refine⟨u,o,?_⟩;rcases S.par y (Cb G) with k|k
  .exact .inl ⟨k,rM U G I k⟩
  .obtain⟨c,e⟩:=cY (n:=s.heap.objs.size+1) k;refine .inr ⟨.inl k,c,e,?_⟩;have q:=x.cell y c e;rw[rK U G I (by show ae.names.lookup y≠_;rw[k];decide)] at q;exact q
 .exact Y.hok.fresh (Hi (x.above y c (Ga h)))
 .unfold yS;show _=N.length;rw[Bj,Ao,List.length_replicate];lia
end _L
namespace _H
variable {Q:J7}{lo hi:Al Aq}{items:Br Ac}
noncomputable def lexLt:Ab Aq->Ab Aq->Ar
 |[],[]=>Yp
 |[],_::_=>Vq
 |_::_,[]=>Yp
 |x::Y,y::J=>if x=y then lexLt Y J else decide (x<y)
def dy (x y:Aq)(xs ys:Ab Aq):lexLt (x::xs) (y::ys)=if x=y then lexLt xs ys else decide (x<y):=Z
def je:lexLt [] []=false:=Z
def sJ (y:Aq)(ys:Ab Aq):lexLt [] (y::ys)=true:=Z
def sI (x:Aq)(xs:Ab Aq):lexLt (x::xs) [] = false:=Z
def GQ (A:Bn)(s:Ai)(a:Aq)(t:Ms)(c:Aq)(u:Ms):∃ e,SeqAt.EqAt A s (.int a t) (.int c u) e/\(e=Vq↔a=c):=
 ⟨(a == c),SeqAt.EqAt.int_int a t c u,by simp⟩
def BO (A:Bn)(s:Ai)(a:Aq)(t:Ms)(c:Aq)(u:Ms)(prog:Ba)(w:Bu)(E:J7)(Q:J7)(h:Q (.bool (decide (a<c))) s) :
  Ap (As prog w) A (richCompare .Lt (.int a t) (.int c u)) Q E s:=
 (Vu h:Ap (As prog w) A (Cs .Lt (.int a t) (.int c u)) Q E s)
section
open PySem.SeqAt
open PySem.AutoSeq1 (wpAny_loadPart')
open PySem.MeetsSeq PySem.MeetsSeq2 PySem.MeetsSeq3
def c7 (l b:Af)(items Y:Br Ac)(n n2:Aj)(dd f:Al Af)(sl m:Br (Al Ac))(ns j:Ab Aq)(hi:Lj items.toList ns)(hj:Lj Y.toList j) :
  Meets (Ih.«tuple.__lt__» ⟨[.ref l,.ref b],[]⟩)
   (λ_ R s=>s.heap.get? l=Aa { cls:=.type "tuple",dict:=dd,data:=.seq items n,slots:=sl } /\ s.heap.get? b=Aa { cls:=.type "tuple",dict:=f,data:=.seq Y n2,slots:=m } /\
    R (.ok (.ret (.bool (lexLt ns j)))) s):=
 .of_wp λC w A R s h=>by
  obtain⟨o,g,d,z,os⟩:=s;obtain⟨hl,hb,h⟩:=h;have f2:=AutoSeq1.sub_tuple_tuple;have z1:items.size=ns.length:=by rw[<- hi.length];simp
  have z2:Y.size=j.length:=by rw[<- hj.length];simp
  wp_walk using wpAny_loadPart' hl,wpAny_loadPart' hb,NE _ (λaq b i=>b.1=Zt/\i=⟨o,g,d,z,os⟩/\∃ (p k:Y8) (G U:Ab Aq),aq=p.zip k /\
   Lj p G/\Lj k U/\G.length+Y.size=U.length+items.size/\R (.ok (.ret (.bool (lexLt G U)))) ⟨o,g,d,z,os⟩) _
  case turn =>
   rintro⟨y,x⟩ aq b i ⟨E,rfl,p,k,G,U,N,I,O,J,B⟩;cases I with
   |nil=>rw[List.zip_nil_left] at N;cases N
   |cons a t M =>
    cases O with
    |nil=>rw[List.zip_nil_right] at N;cases N
    |cons c u H =>
     rw[Kg] at N;injection N with v T
     injection v with hy hx
     subst hy hx;rw[dy] at B;simp only[Aw] at J;obtain⟨e,he,L⟩:=GQ A.in1 ⟨o,g,d,z,os⟩ a t c u;refine Ad (he C w _ _ ?_);cases e with
     |true =>
      rw[Au (L.mp Z)] at B;wp_walk;exact⟨Z,Z,_,_,_,_,T,M,H,by lia,B⟩
     |false =>
      rw[AT (λq=>absurd (L.mpr q) Fc)] at B;have r:=BO A.in1 ⟨o,g,d,z,os⟩ a t c u C w;wp_walk using r;exact⟨_,Z,by simpa using B⟩
  case fin =>
   rintro⟨b1,b2⟩ i ⟨E,rfl,p,k,G,U,N,I,O,J,B⟩;simp only at E;subst E;have hv:lexLt G U=decide (items.size<Y.size):=by
    cases I with
    |nil =>
     cases O with
     |nil =>
      simp only[Cy] at J;rw[je];exact(Bq li).symm
     |cons c u hw =>
      simp only[Cy,Aw] at J;rw[sJ];exact(Cm li).symm
    |cons a t hv =>
     cases O with
     |nil =>
      simp only[Cy,Aw] at J;rw[sI];exact(Bq li).symm
     |cons c u hw =>
      rw[Kg] at N;cases N
   rw[hv] at B;wp_walk;exact⟨_,Z,by simpa [Yz] using B⟩
  case h =>
   exact⟨Z,Z,items.toList,Y.toList,ns,j,Z,hi,hj,by lia,h⟩
end
section
variable {prog:Ba}{w:Bu}{A:Bn}{E:J7}{s:Ai}
theorem qm {l b:Af}(y:Tf s.heap l items)(j:Tf s.heap b Y)(hi:Lj items.toList ns)(u:Lj Y.toList U)
  (M:A.units<Fk) (h:Q (.bool (lexLt ns U)) s):Ap (As prog w) A (Cs .Lt (.ref l) (.ref b)) Q E s:=by
 obtain⟨⟨cls,z,data,H⟩,L,T,n,I⟩:=id y;obtain⟨⟨B,O,data2,C⟩,G,J,k,N⟩:=id j;simp only at T I J N;subst T I J N;exact richCompare_meets_room (op:=.Lt) ⟨_,L,rfl⟩ ⟨_,G,rfl⟩ PySem.F.slot_tuple_lt PySem.F.entry_tuple_lt (PySem.F.args_tuple_lt_2 _ _) (c7 l b items Y n k z O H C ns U hi u)
  ⟨L,G,show Fb (lexLt ns U)≠Value.notImplemented/\Q (.bool (lexLt ns U)) s from⟨(λx=>nomatch x),h⟩⟩ M
theorem v_ {vs ws:Y8}(y:Tf s.heap t vs.toArray)(u:Tf s.heap b ws.toArray)(hv:vs≠[])
  (j:ws=[]->Q (.ref t) s) (k:ws≠[]->Q (.ref s.heap.objs.size) { s with heap:=s.heap.push { cls:=.type "tuple",data:=.seq (vs++ws).toArray } })
  (B:vs.length+ws.length<=sizeLine):Ap (As prog w) A (Ec .Add (.ref t) (.ref b)) Q E s:=by
 obtain⟨⟨cls,I,data,L⟩,C,H,n,z⟩:=id y;obtain⟨⟨T,U,data2,G⟩,Y,J,M,N⟩:=id u;simp only at H z J N;subst H z J N;have e:vs.toArray++ws.toArray=(vs++ws).toArray:=by simp
 by_cases O:ws=[]
 .exact Xd ⟨_,C,Z⟩ ⟨_,Y,Z⟩ Ss Vv Nt My (Mp _ _)
   (tuple_addW1 t b vs.toArray ws.toArray n M I U L G (by simpa using hv) (by simp[O])) ⟨C,Y,j O⟩
 .refine Xd ⟨_,C,Z⟩ ⟨_,Y,Z⟩ Ss Vv Nt My (Mp _ _)
   (tuple_addW2 t b vs.toArray ws.toArray n M I U L G (by simpa using hv) (by simpa using O) (by rw[Bf,Bf];exact B)) ⟨C,Y,?_⟩
  rw[e];exact k O
noncomputable def di (n d:Aj):Al Aq->Aj
 |none=>d
 |some v=>if v<0 then (v+(n:Aq)).toNat else min v.toNat n
def O8 (n d:Aj)(Y:d<=n)(o:Al Aq):di n d o<=n:=by
 cases o with
 |none=>exact Y
 |some v =>
  show (if v<0 then (v+(n:Aq)).toNat else min v.toNat n)<=n;by_cases hv:v<0
  .rw[Au hv];lia
  .rw[AT hv];exact Nat.min_le_right _ _
def Q8 (v:Aq)(n d:Aj):(if v<0 then max (v+(n:Aq)) 0 else min v (n:Aq))=((di n d (Aa v):Aj):Aq):=by
 show (if v<0 then max (v+(n:Aq)) 0 else min v (n:Aq))=(((if v<0 then (v+(n:Aq)).toNat else min v.toNat n):Aj):Aq);by_cases hv:v<0
 .simp only[Au hv];lia
 .simp only[AT hv];lia
def W1 (lo hi:Al Aq)(n:Aj):Lv lo hi 1 (n:Aq)=(((di n 0 lo:Aj):Aq),((di n n hi:Aj):Aq)):=by
 have Y:¬ ((1:Aq)<0):=by lia
 unfold Lv;simp only[Y,Dp];refine Zx ?_ ?_
 .cases lo with
  |none=>rfl
  |some v=>exact Q8 v n 0
 .cases hi with
  |none=>rfl
  |some v=>exact Q8 v n n
def YB (i j:Aj):Jh (i:Aq) (j:Aq) 1=j-i:=by
 unfold Jh;have Y:(1:Aq)>0:=by lia
 simp only[Y,Dw,Xe];split <;> lia
def d0 {Q:Al Aq->Ai->Prop}(p:Pg v o)(h:Q o s):Ap (As prog w) A (Builtin.Slice.slicePartIndex v) Q E s:=by
 cases p with
 |none=>exact slicePart_none h
 |int i t=>exact slicePart_int h
theorem kB {n:Aj}{Q:Aq × Aq × Aj->Ai->Prop}(hs:s.heap.IsSliceOf N U G .none)(pl:Pg U lo)(O:Pg G hi)
  (h:Q (((di n 0 lo:Aj):Aq),1,di n n hi-di n 0 lo) s):Ap (As prog w) A (Qt (.ref N) (pure (n:Aq))) Q E s:=by
 obtain⟨os,J,C,Y⟩:=id hs;unfold Qt Builtin.Slice.sliceFields;refine Ad (Ad (Dr J Y (x:=U) rfl (Ad (Dr J Y (x:=G) rfl (Ad (Dr J Y (x:=.none) rfl (An ?_)))))));refine Ad (slicePart_none ?_);show Ap _ _ (if ((1:Aq) == 0)=Vq then _ else _) _ _ s;rw[AT aC];refine Ad (d0 pl (Ad (d0 O (Ad (An ?_)))));show Ap _ _ (match Lv lo hi 1 (n:Aq) with|(lo,hi)=>pure (lo,(1:Aq),Jh lo hi 1)) _ _ s;rw[W1 lo hi n];show Ap _ _ (pure (((di n 0 lo:Aj):Aq),(1:Aq),Jh ((di n 0 lo:Aj):Aq) ((di n n hi:Aj):Aq) 1)) _ _ s;rw[YB];exact An h
def BD (xs:Br Ac)(i k:Aj):((Ch k).filterMap λ(m:Aj)=>xs[((i:Aq)+(m:Aq)*1).toNat]?).toArray=((xs.toList.drop i).take k).toArray:=by
 have e:(λ(m:Aj)=>xs[((i:Aq)+(m:Aq)*1).toNat]?)=λm=>xs[i+m]?:=by
  funext m;have:((i:Aq)+(m:Aq)*1).toNat=i+m:=by lia
  rw[this]
 rw[e];have:=pick_run xs i k;rw[Ql] at this;have Y:((λx=>xs[x]?)∘λx=>i+x)=λm=>xs[i+m]?:=Z;rw[Y] at this;rw[this]
theorem js (J:Tf s.heap t items)(hs:s.heap.IsSliceOf G L B .none)(pl:Pg L lo)(H:Pg B hi)
  (hw:¬ (di items.size 0 lo=0/\di items.size items.size hi=items.size))
  (h:Q (.ref s.heap.objs.size) { s with heap:=s.heap.push { cls:=.type "tuple",data:=.seq ((items.toList.drop (di items.size 0 lo)).take (di items.size items.size hi-di items.size 0 lo)).toArray } })
  (I:items.size<=sizeLine):Ap (As prog w) A (Oa (.ref t) (.ref G)) Q E s:=by
 have Y:sizeOk (.seq ((items.toList.drop (di items.size 0 lo)).take (di items.size items.size hi-di items.size 0 lo)).toArray):=by show ((items.toList.drop (di items.size 0 lo)).take (di items.size items.size hi-di items.size 0 lo)).toArray.size<=sizeLine;rw[Bf,Fo,Hm,Do];lia
 have j:di items.size items.size hi<=items.size:=O8 _ _ (Ax _) hi;obtain⟨os,C,N,T⟩:=id hs;have O:s.TypeIs (.ref G) "slice":=⟨os,C,N⟩;unfold Oa
 try with_reducible refine Dc ?_
 first|refine Ad (An ?_)|skip
 refine Ad (Rh J.typeIs aC ?_);refine Ad (Dt (name:=Fd "__getitem__") J.typeIs Fj
  (Dx Fj J.typeIs Vw ?_ (Ww _ _)))
 show Ap _ _ (Qu (.ref t) >>= _) _ _ s;refine Ad (tupleItemsOf_ J ?_);refine Ad (Lo O ?_);rw[Au aC];refine Ad (kB hs pl H ?_);have U:¬ ((((di items.size 0 lo:Aj):Aq) == 0&&(1:Aq) == 1&&(di items.size items.size hi-di items.size 0 lo) == items.size)=Vq):=by intro q;rw[Av,Av] at q;have z:((di items.size 0 lo:Aj):Aq)=0:=eq_of_beq q.1.1;have M:di items.size items.size hi-di items.size 0 lo=items.size:=eq_of_beq q.2;exact hw ⟨by lia,by lia⟩
 show Ap _ _ (if (((di items.size 0 lo:Aj):Aq) == 0&&(1:Aq) == 1&&(di items.size items.size hi-di items.size 0 lo) == items.size)=Vq then _ else _) _ _ s;rw[AT U,BD]
 first
  |exact Ad (m:=Jo _) (Dh (An ⟨_,rfl,An h⟩) Y)
  |exact Ad (m:=Jo _) (Dh (Ad (An (An ⟨_,rfl,An h⟩))) Y)
  |exact Ad (Ad (m:=Jo _) (Dh (An (An ⟨_,rfl,An h⟩)) Y))
  |exact Ad (Ad (m:=Jo _) (Dh (An ⟨_,rfl,An h⟩) Y))
end
end _H
namespace _L
abbrev TO:=St->Hp->(Al Aq->Hp->Prop)->Prop
def PO (X:Cx)(e:Al Bl)(t:TO):Prop:=
 ∀ (U:J0) (s:Ai) (Y : St) (H:Hp) (Q:Al Aq->Hp->Prop),Inv X U Y H s->t Y H Q ->
  a8 X (evalPart e X.env) (λu G=>∃ o J,Inv X U Y J G/\Pg u o/\Q o J) X.xe s
def SX:TO:=λ_ H Q=>Q Zt H
def qBG (t:TE):TO:=λY H Q=>t Y H λx J=>∃ i,x=.int i/\Q (Aa i) J
def WL {ns:Ab Aq}:∀ {us:Y8},qQ (ns.map V.int) us->Lj us ns:=by
 induction ns with
 |nil=>intro us r;rw[Xf] at r;cases r;exact .nil
 |cons n ns J =>
  intro us r;rw[Ee] at r;cases r with
  |cons Y Q =>
   obtain⟨t,e⟩:=Y;subst e;exact .cons n t (J Q)
section
variable {X:Cx}{e:Bl}{te:TE}{lo hi:Al Bl}{tl th:TO}{ai p2:Eb}
def DU:PO X Zt SX:=by intro J s Y H Q I h;rw[Vx];exact An ⟨Zt,H,I,.none,h⟩
def DV (h:PE X e te):PO X (Aa e) (qBG te):=by intro C s Y H Q I G;rw[evalPart_some];refine bi (h C s Y H _ I G) λu B ⟨x,U,N,O,J⟩=>?_;obtain⟨i,rfl,q⟩:=J;obtain⟨t,rfl⟩:=O;exact⟨Aa i,U,N,.int i t,q⟩
def zr (X:Cx)(r:V->Al Aq->Al Aq->Hp->VK->Prop):Prop:=
 ∀ (N:J0) (s:Ai) (Y : St) (H:Hp) (x:V) (v G U:Ac) (lo hi:Al Aq) (J:Af) (Q:VK),Inv X N Y H s->qR x v->s.heap.IsSliceOf J G U .none->Pg G lo->Pg U hi->r x lo hi H Q ->
  ∃ T id,typeLookup (.type T) "__getitem__" = pure (Aa (.builtin id))/\s.TypeIs v T/\a8 X (Oa v (.ref J)) (EP X N Y Q) X.xe s
def tSl (r:V->Al Aq->Al Aq->Hp->VK->Prop)(te:TE)(tl th:TO):TE:=λY H Q=>te Y H λx J=>tl Y J λl G=>th Y G λu U=>r x l u U Q
def iY {r:V->Al Aq->Al Aq->Hp->VK->Prop}(C:zr X r)(t:PE X e te)(z:PO X lo tl)(g:PO X hi th):PE X (.Subscript e (.Slice lo hi Zt p2) ai) (tSl r te tl th):=by intro U s Y H Q I h;refine Vy (bi (t U s Y H _ I h) λv B ⟨x,M,c,n,A⟩=>?_);refine wpAny_Slice (bi (z U B Y M _ c A) λN d ⟨l,p,y,pl,k⟩=>bi (g U d Y p _ y k) λG J ⟨u,O,m,w,E⟩=>?_);rw[Vx];refine An ?_;have f:Inv X U Y O { J with heap:=J.heap.push { cls:=.type "slice",data:=.fields #[N,G,.none] } }:=m.kept (t':=J.toks) λb i q=>Ak _ q;obtain⟨T,id,j,L,o⟩:=C U { J with heap:=J.heap.push { cls:=.type "slice",data:=.fields #[N,G,.none] } } Y O x v N G l u J.heap.objs.size Q f n (AaP ..) pl w E;show a8 X (Ri e (.Slice lo hi Zt p2) v (.ref J.heap.objs.size)) (EP X U Y Q) X.xe { J with heap:=J.heap.push { cls:=.type "slice",data:=.fields #[N,G,.none] } };exact tail_any (ops:=[.ref J.heap.objs.size,v]) L j o (by with_unfolding_all rfl)
def fE (xs:Ab V)(lo hi:Al Aq):Ab V:=(xs.drop (_H.di xs.length 0 lo)).take (_H.di xs.length xs.length hi-_H.di xs.length 0 lo)
def t9 (xs:Ab V)(lo hi:Al Aq):(fE xs lo hi).length<=xs.length:=by unfold fE;rw[Fo,Hm];lia
def qCG (K:Ag):V->Al Aq->Al Aq->Hp->VK->Prop:=λx lo hi H Q=>∃ a Y,x=.ref a/\j_ K H a Y /\
 ¬ (_H.di Y.length 0 lo=0/\_H.di Y.length Y.length hi=Y.length)/\∀ p,H p=Zt->Q (.ref p) (bx H p (.tup (fE Y lo hi)))
def OA:zr X (qCG X.K):=by
 intro j s Y H x v z w lo hi M Q I C E pl T h;obtain⟨a,U,rfl,O,L,q⟩:=h;cases C;obtain⟨B,r,G,N⟩:=I.tuple O;have J:B.toArray.size=U.length:=by rw[Bf];exact r.length.symm
 refine⟨"tuple",_,Fj.lookup,G.typeIs,?_⟩;refine _H.js G E pl T (by rw[J];exact L) ?_ (by rw[J];exact N);rw[J];refine⟨.ref s.heap.objs.size,_,I.laid (t':=s.toks) (o:=.tup (fE U lo hi)) (λb A q=>Ak _ q) (Ax _) ?_,Z,q _ (I.hok.fresh (Ax _))⟩;exact⟨By (t9 U lo hi) N,_,(r.drop (_H.di U.length 0 lo)).take (_H.di U.length U.length hi-_H.di U.length 0 lo),Ur _ _⟩
end
end _L
namespace _L
variable {aa:J0}{s:Ai}{H:Hp}{Y:St}
noncomputable def qe (n:Aj)(i:Aq):Al Aj:=if 0<=i then (if i<n then Aa i.toNat else Zt) else if -(n:Aq)<=i then Aa (i+n).toNat else Zt
def ji {J:Type}(xs:Ab J)(i:Aq):Al J:=(qe xs.length i).bind λj=>xs[j]?
def ZD (h:qe n i=Aa j):seqIndex? i n=Aa j/\j<n /\ -(n:Aq)<=i/\i<n:=by
 unfold qe at h;by_cases J:0<=i
 .rw[Au J] at h;by_cases Q:i<n
  .rw[Au Q] at h;have e:i.toNat=j:=Cw h;exact⟨by rw[Za J Q,e],by lia,by lia,Q⟩
  .rw[AT Q] at h;cases h
 .rw[AT J] at h;by_cases Q : -(n:Aq)<=i
  .rw[Au Q] at h;have e:(i+n).toNat=j:=Cw h;exact⟨by rw[seqIndex_neg li Q,e],by lia,Q,by lia⟩
  .rw[AT Q] at h;cases h
def dF {J:Type}{xs:Ab J}{v:J}(h:ji xs i=Aa v):∃ j,seqIndex? i xs.length=Aa j/\xs[j]? = Aa v/\j<xs.length /\ -(xs.length:Aq)<=i/\i<xs.length:=by
 unfold ji at h;cases e:qe xs.length i with
 |none=>rw[e] at h;cases h
 |some j =>
  rw[e] at h;obtain⟨Q,G,U,N⟩:=ZD e;exact⟨j,Q,h,G,U,N⟩
def cS {J:Type}(xs:Ab J)(v:J):ji (xs++[v]) (-1)=Aa v:=by
 have Q:(xs++[v]).length=xs.length+1:=by simp
 have e:qe (xs++[v]).length (-1)=Aa xs.length:=by unfold qe;rw[Q,AT aC,Au li];congr 1;lia
 unfold ji;rw[e];show (xs++[v])[xs.length]? = Aa v;simp
def gJ (b:Bl):Prop:=∀ o i,subscripted b Yp o i=operate [o,i] (Oa o i)
def D_ (X:Cx)(r:R2):Prop:=
 ∀ (U J:Bl) (aa:J0) (s:Ai) (Y : St) (H:Hp) (x y:V) (v u:Ac) (Q:VK),Inv X aa Y H s->qR x v->qR y u->r x y H Q ->
  subscripted J Yp v u=operate [v,u] (Oa v u)->a8 X (Ri U J v u) (EP X aa Y Q) X.xe s
section
variable {X:Cx}{a b:Bl}{ta tb:TE}{ai:Eb}
def qA2 (J:D_ X r)(O:PE X a ta)(C:PE X b tb)(hs:gJ b):PE X (.Subscript a b ai) (tOp r ta tb):=by intro aa s Y H Q I h;exact Vy (qBZ O C I h λv u G x y L N U B q=>J a b aa G Y L x y v u Q N U B q (hs _ _))
def qB9 (K:Ag):R2:=λx y H Q=>∃ p J i v,x=.ref p/\y=.int i/\kr K H p J/\ji J i=Aa v/\Q v H
def qCB (K:Ag):R2:=λx y H Q=>∃ p J i v,x=.ref p/\y=.int i/\j_ K H p J/\ji J i=Aa v/\Q v H
def qCA:R2:=λx y H Q=>∃ z i c,x=.str z/\y=.int i/\z.length<=sizeLine/\ji z.cps.toList i=Aa c/\Q (.str ⟨#[c]⟩) H
def ZE:D_ X (qB9 X.K):=by
 intro cq G aa s Y H x y v u Q I T c h B;obtain⟨p,f,i,z,rfl,rfl,E,d,q⟩:=h;cases T;obtain⟨t,rfl⟩:=c;obtain⟨A,r,pl,m⟩:=I.list E;obtain⟨j,U,M,n,k,o⟩:=dF d;obtain⟨w,L,O⟩:=r.get M;have g:=r.length;have e:=p9;have J:EP X aa Y Q w s:=⟨z,H,I,O,q⟩;by_cases C:0<=i
 .have N:i.toNat=j:=by
   rw[Za C o] at U;exact Cw U
  exact item_listR pl.isList C li (by rw[N];simpa using L) J B
 .have N:(i+(A.toArray.size:Aq)).toNat=j:=by
   rw[seqIndex_neg li k] at U;rw[Bf,<- g];exact Cw U
  exact Tz (x:=w) pl.isList.typeIs Xv.lookup
   (wpAny_getItem_list_neg (Q:=λr l=>r=w/\EP X aa Y Q r l) pl.isList li (by rw[Bf] <;> lia) li (by rw[N];simpa using L) ⟨Z,J⟩) B
def CL:D_ X (qCB X.K):=by
 intro n J aa s Y H x y v u Q I O M h L;obtain⟨p,o,i,z,rfl,rfl,C,k,q⟩:=h;cases O;obtain⟨t,rfl⟩:=M;obtain⟨l,r,pl,g⟩:=I.tuple C;obtain⟨j,N,B,d,c,f⟩:=dF k;obtain⟨w,T,G⟩:=r.get B;have A:=r.length;have m:=p9;have U:EP X aa Y Q w s:=⟨z,H,I,G,q⟩;exact Tz (x:=w) pl.typeIs slot_tuple_getitem.lookup
  (getItem_tuple (j:=j) (Q:=λr E=>r=w/\EP X aa Y Q r E) pl li li (by rw[Bf,<- A];exact N) (by simpa using T) ⟨Z,U⟩) L
def CK:D_ X qCA:=by
 intro l J aa s Y H x y v u Q I G A h T;obtain⟨z,i,c,rfl,rfl,k,M,q⟩:=h;obtain⟨t,rfl⟩:=G;obtain⟨w,rfl⟩:=A;obtain⟨j,U,C,o,B,L⟩:=dF M;have E:z.cps.toList.length=z.length:=by simp[Ju]
 rw[E] at U B L;have p:=p9;exact tail_any (Lw s z t) slot_str_getitem.lookup (getItem_str (c:=c) (by
  have N:decide (i < -(2 ^ 63:Aq))=false:=Bq li;have O:decide (i>=2 ^ 63)=false:=Bq li;rw[N,O,Bool.or_false]) (by rw[U];simpa using C) ⟨.str ⟨#[c]⟩,H,I.tok _,⟨_,Z⟩,q⟩) T
def WZ (ah:Y8)(n j:Aj)(u:Ac):Ey (·.setIfInBounds j u) { cls:=.type "list",data:=.seq ah.toArray n } = { cls:=.type "list",data:=.seq (ah.set j u).toArray n }:=by simp[Ey]
def Inv.lst {p:Af}{xs:Ab V}(I:Inv X aa Y H s)(h:H p=Aa (.lst xs)) :
  ∃ (ah:Y8) (n:Aj),qQ xs ah/\s.heap.get? p=Aa { cls:=.type "list",data:=.seq ah.toArray n } /\ xs.length<=sizeLine:=by
 obtain⟨z,ah,n,r,e⟩:=I.hok p _ h;exact⟨ah,n,r,e,z⟩
def Inv.lstUpd {xs ys:Ab V}{ah jq:Y8}{n Q:Aj}{f:Cd->Cd}(I:Inv X aa Y H s)(h:H p=Aa (.lst xs))
  (U:s.heap.get? p=Aa { cls:=.type "list",data:=.seq ah.toArray n }) (J:f { cls:=.type "list",data:=.seq ah.toArray n } = { cls:=.type "list",data:=.seq jq.toArray Q }) (r:qQ ys jq) (hz:ys.length<=sizeLine) (t:Aj) :
  Inv X aa Y (bx H p (.lst ys)) { s with heap:=s.heap.update p f,toks:=t }:=by
 have e:(s.heap.update p f).get? p=Aa { cls:=.type "list",data:=.seq jq.toArray Q }:=by rw[Dy f U (by rw[J] <;> rfl),J]
 refine I.write (x:=p) (e:=p) (by rw[h];trivial) (.inl Z) (λb u G q=>(Ci _ _ (Di G)).trans q) ⟨_,e⟩ ?_;exact⟨hz,jq,Q,r,e⟩
def qA4:V->V->V->Hp->(Hp->Prop)->Prop:=λo i v H Q=>∃ p J k j,o=.ref p/\i=.int k/\H p=Aa (.lst J)/\qe J.length k=Aa j/\Q (bx H p (.lst (J.set j v)))
def BX:cP X qA4:=by
 intro aa s Y H o i v d g u Q I z l w h;obtain⟨p,A,k,j,rfl,rfl,E,y,q⟩:=h;cases z;obtain⟨t,rfl⟩:=l;obtain⟨C,n,r,U,M⟩:=I.lst E;obtain⟨J,c,T,L⟩:=ZD y;have G:=r.length;have f:=p9;have B:Inv X aa Y (bx H p (.lst (A.set j v))) { s with heap:=s.heap.update p (Ey (·.setIfInBounds j u)) }:=
  I.lstUpd E U (WZ C n j u) (r.set w j) (by rw[Ov];exact M) s.toks
 by_cases O:0<=k
 .have N:k.toNat=j:=by
   rw[Za O L] at J;exact Cw J
  exact PySem.W.ki_setAt U O li (by rw[Bf,<- G];exact L) (by rw[N];exact⟨_,B,q⟩)
 .have N:(k+(C.toArray.size:Aq)).toNat=j:=by
   rw[seqIndex_neg li T] at J;rw[Bf,<- G];exact Cw J
  exact PySem.W.ki_setBack U li (by rw[Bf,<- G];exact T) li (by rw[N];exact⟨_,B,q⟩)
def oG (lo Q:Al Aq)(n:Aj):(Mg lo Q Zt n).1=((_H.di n 0 lo:Aj):Aq)/\(Mg lo Q Zt n).2.1=((_H.di n n Q:Aj):Aq)/\(Mg lo Q Zt n).2.2=1:=by
 refine⟨?_,?_,Z⟩
 .cases lo with
  |none=>simp[Mg,_H.di]
  |some i =>
   simp only[Mg,_H.di,Zb,show (1:Aq)>0 by decide,Dw];by_cases h:i<0
   .simp only[h,Dw] <;> lia
   .simp only[h,Dp] <;> lia
 .cases Q with
  |none=>simp[Mg,_H.di]
  |some i =>
   simp only[Mg,_H.di,Zb,show (1:Aq)>0 by decide,Dw];by_cases h:i<0
   .simp only[h,Dw] <;> lia
   .simp only[h,Dp] <;> lia
def c6 (ah:Y8)(lo Q:Al Aq):slicePick ah.toArray lo Q Zt=((ah.drop (_H.di ah.length 0 lo)).take (_H.di ah.length ah.length Q-_H.di ah.length 0 lo)).toArray:=by obtain⟨J,U,G⟩:=oG lo Q ah.toArray.size;unfold slicePick;rw[J,U,G];simp only[sliceRange_one,pick_run,Bf] <;> rfl
def qCE (K:Ag):V->Al Aq->Al Aq->Hp->VK->Prop:=λx lo U H Q=>∃ a J,x=.ref a/\kr K H a J/\∀ p,H p=Zt->Q (.ref p) (bx H p (.lst (fE J lo U)))
def XB:zr X (qCE X.K):=by intro aa s Y H x v z w lo G A Q I C T pl L h;obtain⟨a,J,rfl,O,q⟩:=h;cases C;obtain⟨M,r,N,B⟩:=I.list O;have U:=r.length;refine⟨"list",_,Xv.lookup,N.isList.typeIs,?_⟩;refine wpAny_getItem_list_slice N.isList T pl L .none aA ?_ (by rw[Bf] <;> lia);rw[c6,<- U];refine⟨.ref s.heap.objs.size,_,I.laid (t':=s.toks) (o:=.lst (fE J lo G)) (λb E q=>Ak _ q) (Ax _) ?_,Z,q _ (I.hok.fresh (Ax _))⟩;exact⟨By (t9 J lo G) B,_,0,(r.drop (_H.di J.length 0 lo)).take (_H.di J.length J.length G-_H.di J.length 0 lo),Be _ Z⟩
def iV:o_ X (Cs .NotIn) (λx y H Q=>∃ i j,x=.str i/\y=.str j/\Q (.bl (!(!(Go j i 0 j.length 1).isEmpty))) H):=by intro aa s Y H x y v u Q I J U h;obtain⟨i,j,rfl,rfl,q⟩:=h;obtain⟨t,rfl⟩:=J;obtain⟨G,rfl⟩:=U;exact notIn_str ⟨.bl _,H,I,rfl,q⟩
def fB:nM X (.type "list") (λxs H Q=>∃ p ys,xs=[.ref p]/\(kr X.K H p ys\/j_ X.K H p ys)/\∀ l,H l=Zt->Q (.ref l) (bx H l (.lst ys))):=by
 intro aa s Y H xs z Q I r h;obtain⟨p,ys,rfl,hq,q⟩:=h;obtain⟨u,rfl,w⟩:=jJ r;cases w;have L:∀ (U:Y8),qQ ys U->ys.length<=sizeLine->∀ (J:Bb) (N:Aj),(∀ b M,s.heap.get? b=Aa M->J.get? b=Aa M) ->
   J.get? s.heap.objs.size=Aa { cls:=.type "list",dict:=Zt,data:=.seq U.toArray N,slots:=#[] } -> EP X aa Y Q (.ref s.heap.objs.size) { s with heap:=J }:=λU G B J N O e =>
  ⟨.ref s.heap.objs.size,_,I.laid (t':=s.toks) O (Ax _) (show zR X.prog X.w _ J _ (.lst ys) from⟨B,U,N,G,e⟩),Z,q _ (I.hok.fresh (Ax _))⟩
 rcases hq with hq|hq
 .obtain⟨U,G,pl,B⟩:=I.list hq;have C:=G.length;obtain⟨o,T,E,n,A⟩:=pl.isList;exact call_list_seq p (.inl rfl) T E A (λJ N O e=>L U G B J N O e) (by simp only[Bf] <;> lia)
 .obtain⟨U,G,pl,B⟩:=I.tuple hq;have C:=G.length;obtain⟨o,T,E,n,A⟩:=pl;exact call_list_seq p (.inr rfl) T E A (λJ N O e=>L U G B J N O e) (by simp only[Bf] <;> lia)
def bW:nM X (.type "tuple") (λxs H Q=>∃ p ys,xs=[.ref p]/\((kr X.K H p ys/\∀ l,H l=Zt->Q (.ref l) (bx H l (.tup ys)))\/(j_ X.K H p ys/\Q (.ref p) H))):=by
 intro aa s Y H xs A Q I r h;obtain⟨p,ys,rfl,h⟩:=h;obtain⟨u,rfl,T⟩:=jJ r;cases T;rcases h with⟨U,q⟩|⟨U,q⟩
 .obtain⟨N,G,pl,C⟩:=I.list U;have O:=G.length;refine call_tuple_list pl.isList (λJ L=>?_) (by simp only[Bf] <;> lia);have B:Inv X aa Y H { s with heap:=J }:=I.kept (t':=s.toks) L;have E:Inv X aa Y (bx H J.objs.size (.tup ys)) { s with heap:=J.push { cls:=.type "tuple",data:=.seq N.toArray } }:=
   B.laid (t':=s.toks) (λb o e=>Ak _ e) (Ax _) (show zR X.prog X.w _ _ _ (.tup ys) from⟨C,N,G,Ur _ _⟩)
  exact⟨.ref J.objs.size,_,E,Z,q _ (B.hok.fresh (Ax _))⟩
 .obtain⟨N,G,pl,C⟩:=I.tuple U;exact call_tuple_same pl ⟨.ref p,H,I,Z,q⟩
def _M (K:Ag)(T:Em)(x:V)(H:Hp):Prop:=match x with
 |.str _=>T = "str"
 |.int _=>T = "int"
 |.ref p=>(T = "list" /\ ∃ J,kr K H p J)\/(T = "tuple" /\ ∃ o,K.lookup p=Aa o/\o.cls=.type "tuple" /\ o.dict=Zt) \/
   (T = "dict" /\ ((∃ Q,H p=Aa (.dK Q))\/∃ Q,H p=Aa (.dT Q)))\/(T = "set" /\ ∃ S n,H p=Aa (.set S n))
 |_=>Fv
def K1 (I:Inv X aa Y H s)(r:qR x v)(ty:_M X.K T x H) :
  s.TypeIs v T/\∀ a,v=.ref a->∃ O,s.heap.get? a=Aa O/\O.dict=none:=by
 cases x with
 |str z =>
  obtain⟨t,rfl⟩:=r;cases (show T = "str" from ty);exact⟨Lw s z t,λ_ e=>nomatch e⟩
 |int i =>
  obtain⟨t,rfl⟩:=r;cases (show T = "int" from ty);exact⟨typeIs_int s i t,λ_ e=>nomatch e⟩
 |ref p =>
  cases r;rcases ty with⟨rfl,L,C⟩|⟨rfl,o,Q,B,N⟩|⟨rfl,Q⟩|⟨rfl,S,n,Q⟩
  .obtain⟨E,_,pl,_⟩:=I.list C;refine⟨pl.isList.typeIs,λa e=>?_⟩;cases e;obtain⟨o,n,e,c,N,_⟩:=pl;exact⟨o,e,N⟩
  .refine⟨⟨o,I.kIn p o Q,B⟩,λa e=>?_⟩;cases e;exact⟨o,I.kIn _ o Q,N⟩
  .have z:∃ o,s.heap.get? p=Aa o/\o.ExactDict:=by
    rcases Q with⟨U,Q⟩|⟨U,Q⟩
    .obtain⟨_,_,_,_,o,_,_,e,J,_⟩:=I.hok p _ Q;exact⟨o,e,J⟩
    .obtain⟨_,_,_,_,o,_,_,e,J,_⟩:=I.hok p _ Q;exact⟨o,e,J⟩
   obtain⟨o,e,J⟩:=z;refine⟨⟨o,e,J.1⟩,λa G=>?_⟩;cases G;exact⟨o,e,J.2.1⟩
  .obtain⟨o,_,_,_,e,J,_⟩:=I.hok p _ Q;refine⟨⟨o,e,J.1⟩,λa G=>?_⟩;cases G;exact⟨o,e,J.2.1⟩
 |_=>exact Am ty
variable {e:Bl}
/- xs.append(e),list.index on a module's tuple .. are MtR facts of 06m -/
end
end _L
namespace _L
variable {us:Y8}
def MtM (X:Cx)(id:Em)(r:V->Ab V->Hp->VK->Prop):Prop:=
 ∀ (U:J0) (s:Ai) (Y : St) (H:Hp) (x:V) (J:Ab V) (v:Ac) (us:Y8) (Q:VK),Inv X U Y H s->qR x v->qQ J us->r x J H Q ->
  a8 X (call (.builtin id) (v::us)) (EP X U Y Q) X.xe s
def qQ.one {x:V}(h:qQ [x] us):∃ u,us=[u]/\qR x u:=jJ h
def qQ.zero:∀ {us:Y8},qQ [] us->us=[]
 |_,.nil=>rfl
theorem qQ.dropLast (h:qQ xs us):qQ xs.dropLast us.dropLast:=by
 induction h with
 |nil=>exact .nil
 |cons r t Q =>
  cases t with
  |nil=>exact .nil
  |cons q Y=>exact .cons r Q
theorem qQ.rep (h:qQ xs us):∀ k:Aj,qQ (Cu k xs).flatten (Cu k us).flatten
 |0=>.nil
 |k+1=>by rw[Gy,Gy,Ji,Ji];exact qQ.append h (qQ.rep h k)
def WG {J:Type}(l:Ab J) : l.eraseIdx (l.length-1)=l.dropLast:=by
 induction l with
 |nil=>rfl
 |cons a r Q =>
  cases r with
  |nil=>rfl
  |cons b r =>
   have e:(a::b::r).length-1=((b::r).length-1)+1:=by have Y:(a::b::r).length=r.length+2:=Z;have U:(b::r).length=r.length+1:=Z;lia
   rw[e,Ti,Q]
   all_goals rfl
theorem rZ (ah:Y8):∀ (k:Aj) (ao:Y8),
  Aa0 (λY Q=>Y++Q) ao.toArray (Cu k ah.toArray)=(ao++(Cu k ah).flatten).toArray
 |0,ao=>by simp
 |k+1,ao=>by
  have e:ao.toArray++ah.toArray=(ao++ah).toArray:=by simp
  have J:(ao++ah)++(Cu k ah).flatten=ao++(Cu (k+1) ah).flatten:=by rw[Gy,Ji,Jj]
  rw[<- J,<- rZ ah k (ao++ah),<- e,Gy,T0]
section
variable {X:Cx}{aa:J0}{Y: St}{H:Hp}{s:Ai}{l:Af}{xs ys:Ab V}
def Inv.lset {ah jq:Y8}{n:Aj}{f:Br Ac->Br Ac}{t':Aj}(I:Inv X aa Y H s)(G:H l=Aa (.lst xs))
  (e:s.heap.get? l=Aa { cls:=.type "list",data:=.seq ah.toArray n }) (Q:f ah.toArray=jq.toArray) (hv:qQ ys jq) (hz:ys.length<=sizeLine) :
  Inv X aa Y (bx H l (.lst ys)) { s with heap:=s.heap.update l (Ey f),toks:=t' }:=by
 have q:=Zc e f;rw[Q] at q;refine I.write (x:=l) (e:=l) (by rw[G];exact trivial) (.inl Z) (λN u U J=>(Ci s.heap (Ey f) (Di U)).trans J) ⟨_,q⟩ ?_;exact⟨hz,jq,_,hv,q⟩
def Inv.lstM (I:Inv X aa Y H s)(Q:H l=Aa (.lst xs)):xs.length<=sizeLine/\∃ (ah:Y8) (n:Aj),qQ xs ah/\xs.length=ah.length/\s.heap.get? l=Aa { cls:=.type "list",data:=.seq ah.toArray n }:=by obtain⟨z,ah,n,r,e⟩:=I.hok l _ Q;exact⟨z,ah,n,r,r.length,e⟩
def B7 {n:Aj}(h:n<=sizeLine):Mq n=false:=by unfold Mq;exact Bq li
end
section
variable {X:Cx}
def SH:V->Ab V->Hp->VK->Prop:=λx J H Q=>∃ l Y y,x=.ref l/\J=[y]/\H l=Aa (.lst Y)/\Y.length<sizeLine/\Q .non (bx H l (.lst (Y++[y])))
def UQ:MtM X "list.append" SH:=by intro E s Y H x T v us Q I G N h;obtain⟨l,C,y,rfl,rfl,U,B,q⟩:=h;cases G;obtain⟨u,rfl,O⟩:=N.one;obtain⟨z,J,n,r,L,e⟩:=I.lstM U;refine Jv Wx ⟨_,e,rfl⟩ Vz (Vk _ _) (Xw l J.toArray n u (by rw[Bf];lia)) ⟨e,?_⟩;refine⟨.non,_,I.lset (jq:=J++[u]) U e aA (r.append (.cons O .nil)) ?_,Z,q⟩;rw[Bj,Df];lia
def qCC:V->Ab V->Hp->VK->Prop:=λx J H Q=>∃ l Y y,x=.ref l/\J=[]/\H l=Aa (.lst Y)/\Y[Y.length-1]? = Aa y/\Q y (bx H l (.lst Y.dropLast))
def A2:MtM X "list.pop" qCC:=by
 intro w s Y H x M v us Q I O L h;obtain⟨l,A,y,rfl,rfl,N,B,q⟩:=h;cases O;have G:=L.zero;subst G;obtain⟨z,J,n,r,T,e⟩:=I.lstM N;obtain⟨u,C,E⟩:=r.get B;have U:J.toArray[J.toArray.size-1]? = Aa u:=by show J.toArray[J.length-1]? = Aa u;rw[<- Bw,<- T];exact C
 refine Jv F.slot_list_pop ⟨_,e,Z⟩ F.entry_list_pop (F.args_list_pop_1 _) (MeetsSeq.list_pop_last l J.toArray n u U (by rw[Bf];lia)) ⟨e,?_⟩;refine⟨y,_,I.lset (jq:=J.dropLast) N e ?_ r.dropLast ?_,E,q⟩
 .show J.toArray.eraseIdxIfInBounds (J.toArray.size-1)=J.dropLast.toArray;rw[Bf,List.eraseIdxIfInBounds_toArray,WG]
 .rw[List.length_dropLast];lia
def sH {J:Type}(xs:Ab J)(k:Aj):(Cu k xs).flatten.length=k*xs.length:=by
 induction k with
 |zero=>simp
 |succ k Q=>rw[Gy,Ji,Bj,Q,Nat.succ_mul,Ph]
end
end _L
namespace _A
open PySem.W PySem.Calls
def l7 {P:Params}:∀ (ns:Ab Aq) (vs:Y8),WellAll P h vs (ns.map WData.int)->Lj vs ns:=by
 intro ns
 induction ns with
 |nil =>
  intro vs w;rw[Xf] at w;cases w;exact .nil
 |cons n ns Q =>
  intro vs w;rw[Ee] at w;cases w with
  |cons a b =>
   cases a;exact .cons _ _ (Q _ b)
def JO {l:OpenLaw}(w:l.most=Aa n){P:Params}{h:Bb}{args:Ab WData}{Q:Y8}
  (Y:l.row.toRowW.claim.pre args=Vq) (C:WellAll P h Q args) :
  ∃ a vs ns,Q=[Ca a]/\args=[WData.list (ns.map WData.int)]/\h.get? a=Aa { cls:=.type "list",data:=.seq vs.toArray } /\ Lj vs ns/\ns.length<=n:=by
 have O:WShape.hasAll [] args [.list .int]=true:=(pre_splitW Y).1;have B:l.pre.holds [] { args:=args } = true:=(pre_splitW Y).2;obtain⟨d,r,rfl,L,E⟩:=hasAllW_cons O;obtain rfl:=hasAllW_nil E;obtain⟨z,rfl,H⟩:=hasW_list L;obtain⟨ns,rfl⟩:=items_int H;have J:ns.length<=n:=by
  unfold OpenLaw.pre at B;have G:(WTm.not (.lt (.lit (.int (n:Aq))) (.len (.arg 0)))).holds [] { args:=[.list (ns.map .int)] } = true:=by have G:=(holds_andW B).1;rw[w] at G;exact G
  have N:=condW_of G (w_not (w_lt w_lit (w_len_list (w_arg Z))));rw[Ao] at N;refine Nat.le_of_not_lt λq=>?_;have M:(n:Aq)<((ns.length:Aj):Aq):=by lia
  first
   |(rw[Cm M] at N;exact absurd N aC)
   |(simp at N;lia)
 cases C with
 |cons T I =>
  cases I;cases T with
  |list A U=>exact⟨_,_,ns,rfl,rfl,A,l7 ns _ U,J⟩
def JG (l:OpenLaw)(args:Ab WData):l.row.toRowW.claim.post args (.bool Vq) args=true:=
 postW_of (r:=l.row.toRowW) (X:=(Vq == Vq))
  (show WShape.has [] (.bool Vq) .bool=Vq by first|rfl|decide|simp[WShape.has,WShape.arms,WShape.armsAll])
  (show (WTm.eq .res (.lit (.bool Vq))).value [] { args:=args,res:=Aa (.bool Vq),after:=args } = Aa (.bool (Vq == Vq)) from w_eq_bool (w_res Z) w_lit) Z
def pv {l:OpenLaw}{n:Aj}{q:Ba}{u:Y0}{z:(Ah->Al Ac)->Bb->Prop}{k:Bu->Bb->Prop}{d:DefRec}
  (h:l.most=Aa n) (E:d.params.defaults=[])
  (call:∀ (w:Bu) (Y Q:Ai) (mg H:J8) (O:Af) (o:Cd) (I L U:Ac) (a:Af) (vs:Y8) (ns:Ab Aq),
   Ground q u [] z w Y mg H Q.heap->k w Q.heap ->
   Q.heap.get? O=Aa o->o.data=.func (docDef d.name d.params d.body d.scope I L U)->Q.heap.CodeRec L d.name->mg d.name=Aa (.ref O) ->
   Q.heap.get? a=Aa { cls:=.type "list",data:=.seq vs.toArray } -> Lj vs ns->ns.length<=n->Q.gens=#[] ->
   Gn (As l.prog w) Rj (.call (.ref O) ⟨[.ref a],[]⟩) (λr s'=>r=.ok (.ret (.bool Vq))/\OldK Q.heap s'.heap/\s'.os=Q.os/\Nx s'.gens) Q) :
  WalkO q u z k l.row.toRowW d [] (λf vs=>Aa1 f vs):=by
 intro w Y Q mg H G az O o I L U m kV b hd T g M i j y as C p v A x;obtain rfl:m=.none:=Dflts.none g E;obtain rfl:kV=.none:=Dflts.noKw g;obtain⟨a,vs,ns,rfl,rfl,B,J,N⟩:=JO h C A;refine enter_call (Ka (call w Y Q mg H O o I L U a vs ns G az b (fd_plain hd) T M B J N i) λr s' c=>?_);obtain⟨rfl,t,s,e⟩:=c;exact⟨.inl ⟨.bool Vq,.bool Vq,[],rfl,λ_=>rfl,.bool Vq,JG l _,λ_=>⟨Nm,λ_ hm=>(nomatch hm)⟩⟩,t,s,e⟩
end _A
namespace _L
def K4 (h:Lj vs ns):qQ (ns.map V.int) vs:=by
 induction h with
 |nil=>exact .nil
 |cons n t h Q=>exact .cons ⟨t,rfl⟩ Q
def so (K:Ag)(H:Hp)(a:Af)(xs:Ab V):Prop:=
 Rd H a (.lst xs)\/∃ (Q:Y8) (n:Aj),K.lookup a=Aa { cls:=.type "list",data:=.seq Q.toArray n } /\ xs.length<=sizeLine/\qQ xs Q
def so.l {K:Ag}(h:so K H a xs):kr K H a xs:=by
 rcases h with h|⟨Q,n,e,l,v⟩
 .exact .inl h
 .exact .inr ⟨_,Q.toArray,n,e,Z,Z,Z,by rw[Bf,<- v.length];exact l,by simpa using v⟩
end _L
namespace _L
noncomputable def xW (s:Du):Arguments:=match s with
 |.FunctionDef _ a _ _ _ _ _ _ _ _=>a
 |_=>{ posonlyargs:=[],args:=[],vararg:=Zt,kwonlyargs:=[],kw_defaults:=[],kwarg:=Zt,defaults:=[] }
def zG (s:Du):Ab Du:=match s with
 |.FunctionDef _ _ b _ _ _ _ _ _ _=>b
 |_=>[]
def qF (s:Du):Ez:=match s with
 |.FunctionDef _ _ _ _ _ _ Q _ _ _=>Q
 |_=>{ kind:=.function,names:=[],isGenerator:=Yp,isCoroutine:=Yp }
structure uj (K:Ag)(x qual:Ah)(st:Du)(f:Af)(fd:Ft):Prop where
 ex:∃ (oc:Ac) (od:Al Af) (kV doc pm:Ac) (an:Al Af) (cdv ct:Ac) (osl:Br (Al Ac)),
  fd=Fp x qual (xW st) (zG st) (qF st) .none kV doc pm an cdv ct/\K.lookup f=Aa ⟨oc,od,.func fd,osl⟩/\Jp K cdv qual=Vq
 kp:Da K (.ref f)=Vq
section
variable {K:Ag}
def uj.binds {st:Du}{ps:Y0}(F:uj K x N st f fd)
  (h:∀ (kV Q J:Ac) (U:Al Af) (Y G:Ac) (us:Y8),us.length=ps.length->Tw (Fp x N (xW st) (zG st) (qF st) .none kV Q J U Y G) ⟨us,[]⟩=pure (ps.zip us)):yC K fd ps []:=by
 obtain⟨L,B,kV,Q,J,U,Y,G,C,rfl,lk,O⟩:=F.ex;exact .all (h kV Q J U Y G)
def nY {st:Du}{B:Ac}{C O:Al Af}{J:Br (Al Ac)}{kV Y G Q N:Ac}(l:K.lookup f=Aa ⟨B,C,.func (Fp x U (xW st) (zG st) (qF st) .none kV Y G O Q N),J⟩)
  (c:Jp K Q U=Vq) (k:Da K (.ref f)=Vq):uj K x U st f (Fp x U (xW st) (zG st) (qF st) .none kV Y G O Q N):=⟨⟨B,C,kV,Y,G,O,Q,N,J,Z,l,c⟩,k⟩
end
def qP (H H':Hp):Prop:=∀ b o,H b=Aa o->H' b=Aa o
def qP.refl (H:Hp):qP H H:=λ_ _ h=>h
def qP.trans (a:qP H Q)(b:qP Q Y):qP H Y:=λc o h=>b c o (a c o h)
def qP.seq {K:Ag}(e:qP H H')(h:kr K H a xs):kr K H' a xs:=by
 rcases h with (h|⟨o,h⟩)|h
 .exact .inl (.inl (e _ _ h))
 .exact .inl (.inr ⟨o,e _ _ h⟩)
 .exact .inr h
end _L
end
section
namespace _D
open _L
inductive D where
 |non|bl (b:Ar)|int (i:Aq)|str (x:Ah)|ty (n:Em)|obj (a:Af)|tup (xs:Ab D)|lst (xs:Ab D)|dct0|loc (i:Aj)|exn (c:Ac)|fd (ks:Ab ku) (ds:Ab D)|clo (a:Af) (vs:Ab V) (ds:Ab D)|exl (c:Ac) (ns:Y0) (ds:Ab D)
def HV (a:Af)(c:Ac):HO:=.ext λh=>∃ Q,h.get? a=Aa Q/\Q.cls=c
def WH (a:Af)(c:Ac)(J:Af):HO:=.ext λh=>∃ Q,h.get? a=Aa Q/\Q.cls=c/\Q.dict=Aa J/\∃ Y,Q.data=.fields Y
def KL (a:Af)(fs:Ab (Ah × V))(h:Bb):Prop:=∃ Q,h.Ns1 a Q/\(∀ f,uH (fs.lookup f) (Q f))/\Mw Q (fs.map (·.1))
def oq (a:Af)(fs:Ab (Ah × V)):HO:=.ext (KL a fs)
inductive MO where
 |dead|lst (xs:Ab D)|dct (kvs:Ab (ku × D))|dcT (kvs:Ab (Ab Aq × D))|ins (C:Af) (fs:Ab (Ah × D))
abbrev ag:=Ab MO
inductive ax (β : Type) where
 |ok (d:β) (S:ag)|ex (c:Ac) (x:D) (S:ag)|bad
@[inline] noncomputable def ax.bind {β γ:Type}(r:ax β)(f:β->ag->ax γ) : ax γ:=
 match r with
 |.ok d S=>f d S
 |.ex c x S=>.ex c x S
 |.bad=>.bad
def ax.bind_ok {β γ:Type}(d:β)(S:ag)(f:β->ag->ax γ) : (ax.ok d S).bind f=f d S:=Z
section
variable (K:Ag)(P:Hp)(J: Ab Af)
mutual
def am:D->V->Prop
 |.non,v=>v=.non
 |.bl b,v=>v=.bl b
 |.int i,v=>v=.int i
 |.str x,v=>v=.str x
 |.ty n,v=>v=.ty n
 |.obj a,v=>v=.ref a/\Da K (.ref a)=Vq
 |.tup Y,v=>∃ a Q,v=.ref a/\j_ K P a Q/\qJ Y Q
 |.lst Y,v=>∃ a Q,v=.ref a/\so K P a Q/\qJ Y Q
 |.dct0,v=>∃ a,v=.ref a/\P a=Aa (.dK [])
 |.loc i,v=>∃ a,v=.ref a/\J[i]? = Aa a
 |.exn c,v=>∃ a,v=.ref a/\P a=Aa (HV a c)
 |.fd G Y,v=>∃ a o Q,v=.ref a/\P a=Aa (.frz o (.dK (G.zip Q)))/\G.length=Q.length/\qJ Y Q
 |.clo a Q Y,v=>v=.ref a/\qJ Y Q
 |.exl c N Y,v=>∃ a U Q,v=.ref a/\P a=Aa (WH a c U)/\P U=Aa (oq U (N.zip Q))/\N.length=Q.length/\qJ Y Q
def qJ:Ab D->Ab V->Prop
 |[],Q=>Q=[]
 |d::U,Q=>∃ w Y,Q=w::Y/\am d w/\qJ U Y
end
end
section
variable {K:Ag}{P P':Hp}{J J':J9}
def vL (e:qP P P'){a:Af}{xs:Ab V}(h:j_ K P a xs):j_ K P' a xs:=by
 rcases h with (h|⟨o,h⟩)|h
 .exact .inl (.inl (e _ _ h))
 .exact .inl (.inr ⟨o,e _ _ h⟩)
 .exact .inr h
def X2 (e:qP P P'){a:Af}{u:HO}(h:Rd P a u):Rd P' a u:=by
 rcases h with h|⟨o,h⟩
 .exact .inl (e _ _ h)
 .exact .inr ⟨o,e _ _ h⟩
def xX (e:qP P P'){a:Af}{xs:Ab V}(h:so K P a xs):so K P' a xs:=by
 rcases h with h|h
 .exact .inl (X2 e h)
 .exact .inr h
def pD {i:Aj}(h:J<+:J')(e:J[i]? = Aa a):J'[i]? = Aa a:=by obtain⟨r,rfl⟩:=h;rw[Co (Bv.mp e).1];exact e
mutual
theorem am.mono (e:qP P P')(h:J<+:J'):∀ (d:D) (v:V),am K P J d v->am K P' J' d v
 |.non,_,r=>by simpa only [am] using r
 |.bl _,_,r=>by simpa only [am] using r
 |.int _,_,r=>by simpa only [am] using r
 |.str _,_,r=>by simpa only [am] using r
 |.ty _,_,r=>by simpa only [am] using r
 |.obj _,_,r=>by simpa only [am] using r
 |.tup Y,v,r=>by
  simp only[am] at r ⊢;obtain⟨a,Q,rfl,q,t⟩:=r;exact⟨a,Q,rfl,vL e q,qJ.mono e h Y Q t⟩
 |.lst Y,v,r=>by
  simp only[am] at r ⊢;obtain⟨a,Q,rfl,q,t⟩:=r;exact⟨a,Q,rfl,xX e q,qJ.mono e h Y Q t⟩
 |.dct0,v,r=>by
  simp only[am] at r ⊢;obtain⟨a,rfl,q⟩:=r;exact⟨a,rfl,e _ _ q⟩
 |.loc i,v,r=>by
  simp only[am] at r ⊢;obtain⟨a,rfl,q⟩:=r;exact⟨a,rfl,pD h q⟩
 |.exn c,v,r=>by
  simp only[am] at r ⊢;obtain⟨a,rfl,q⟩:=r;exact⟨a,rfl,e _ _ q⟩
 |.fd O Y,v,r=>by
  simp only[am] at r ⊢;obtain⟨a,o,Q,rfl,q,U,t⟩:=r;exact⟨a,o,Q,rfl,e _ _ q,U,qJ.mono e h Y Q t⟩
 |.clo a Q Y,v,r=>by
  simp only[am] at r ⊢;exact⟨r.1,qJ.mono e h Y Q r.2⟩
 |.exl c C Y,v,r=>by simp only[am] at r ⊢;obtain⟨a,N,Q,rfl,q,G,U,t⟩:=r;exact⟨a,N,Q,rfl,e _ _ q,e _ _ G,U,qJ.mono e h Y Q t⟩
theorem qJ.mono (e:qP P P')(h:J<+:J'):∀ (ds:Ab D) (vs:Ab V),qJ K P J ds vs->qJ K P' J' ds vs
 |[],vs,r=>by simpa only [qJ] using r
 |d::ds,vs,r=>by simp only[qJ] at r ⊢;obtain⟨w,Q,rfl,U,Y⟩:=r;exact⟨w,Q,rfl,am.mono e h d w U,qJ.mono e h ds Q Y⟩
end
def qJ.nil:qJ K P J [] []:=by simp only[qJ]
def qJ.cons {d:D}{v:V}{ds:Ab D}{vs:Ab V}(r:am K P J d v)(t:qJ K P J ds vs):qJ K P J (d::ds) (v::vs):=by simp only[qJ];exact⟨v,vs,Z,r,t⟩
def qJ.nil_inv {vs:Ab V}(r:qJ K P J [] vs):vs=[]:=by simpa only [qJ] using r
def qJ.cons_inv {d:D}{ds:Ab D}(r:qJ K P J (d::ds) vs):∃ w ws,vs=w::ws/\am K P J d w/\qJ K P J ds ws:=by simpa only [qJ] using r
theorem qJ.length:∀ {ds:Ab D} {vs:Ab V},qJ K P J ds vs->ds.length=vs.length
 |[],vs,r=>by rw[r.nil_inv];rfl
 |d::ds,vs,r=>by obtain⟨w,Q,rfl,_,t⟩:=r.cons_inv;rw[Aw,Aw,t.length]
theorem qJ.append:∀ {ds es:Ab D} {vs ws:Ab V},qJ K P J ds vs->qJ K P J es ws->qJ K P J (ds++es) (vs++ws)
 |[],es,vs,ws,r,t=>by rw[r.nil_inv];exact t
 |d::ds,es,vs,ws,r,t=>by obtain⟨w,U,rfl,Y,Q⟩:=r.cons_inv;exact .cons Y (Q.append t)
theorem qJ.get:∀ {ds:Ab D} {vs:Ab V} {i:Aj} {d:D},qJ K P J ds vs->ds[i]? = Aa d->∃ v,vs[i]? = Aa v/\am K P J d v
 |[],_,_,_,_,e=>by simp at e
 |d::ds,vs,i,Y,r,e=>by
  obtain⟨w,O,rfl,N,G⟩:=r.cons_inv;cases i with
  |zero=>simp at e;subst e;exact⟨w,rfl,N⟩
  |succ i =>
   obtain⟨v,Q,U⟩:=G.get (i:=i) (d:=Y) (by simpa using e);exact⟨v,by simpa using Q,U⟩
theorem qJ.drop:∀ {ds:Ab D} {vs:Ab V} (n:Aj),qJ K P J ds vs->qJ K P J (ds.drop n) (vs.drop n)
 |ds,vs,0,r=>by simpa using r
 |[],vs,n+1,r=>by rw[r.nil_inv];exact .nil
 |d::ds,vs,n+1,r=>by obtain⟨w,Y,rfl,_,Q⟩:=r.cons_inv;simpa using Q.drop n
theorem qJ.take:∀ {ds:Ab D} {vs:Ab V} (n:Aj),qJ K P J ds vs->qJ K P J (ds.take n) (vs.take n)
 |ds,vs,0,r=>by simpa using qJ.nil
 |[],vs,n+1,r=>by rw[r.nil_inv];exact .nil
 |d::ds,vs,n+1,r=>by obtain⟨w,U,rfl,Y,Q⟩:=r.cons_inv;simpa using qJ.cons Y (Q.take n)
theorem qJ.set (q:am K P J d v):∀ {ds:Ab D} {vs:Ab V} (n:Aj),qJ K P J ds vs->qJ K P J (ds.set n d) (vs.set n v)
 |[],vs,n,r=>by rw[r.nil_inv];exact .nil
 |e::ds,vs,0,r=>by
  obtain⟨w,U,rfl,Y,Q⟩:=r.cons_inv;exact .cons q Q
 |e::ds,vs,n+1,r=>by obtain⟨w,U,rfl,Y,Q⟩:=r.cons_inv;exact .cons Y (Q.set q n)
end
abbrev qG:=Ab (Al D)
def zH (K:Ag)(P:Hp)(J : Ab Af)(Y : _L.St)(ac:qG):Prop:=ac.length=Y.length/\∀ (i:Aj) (d:D),ac[i]? = Aa (Aa d)->∃ v,Y[i]? = Aa (Aa v)/\am K P J d v
def uv (K:Ag)(P:Hp)(J : Ab Af){κ : Type}:Ab (κ × D)->Ab (κ × V)->Prop:=Paired λ(p:κ × D) (q:κ × V)=>p.1=q.1/\am K P J p.2 q.2
def WK (ns:Ab Aq):Aq:=reduceHash (Builtin.Tuple.tupleHashOf (ns.map hashInt))
def qBR (a:Af)(xs:Ab (Ab Aq × Af × V))(h:Bb):Prop:=∃ Q:Ab (Ab Aq × Af × Ac),Paired (λ(p:Ab Aq × Af × V) (q:Ab Aq × Af × Ac)=>p.1=q.1/\p.2.1=q.2.1/\qR p.2.2 q.2.2) xs Q /\
 ∃ o Y J,h.get? a=Aa o/\o.ExactDict/\o.data=.dict Y J/\Y.toList=Q.map λx=>⟨WK x.1,.ref x.2.1,x.2.2⟩
abbrev dtO (a:Af)(xs:Ab (Ab Aq × Af × V)):HO:=.ext (qBR a xs)
def _d (K:Ag)(P:Hp)(J : Ab Af):Ab (Ab Aq × D)->Ab (Ab Aq × Af × V)->Prop:=Paired λ(p:Ab Aq × D) (q:Ab Aq × Af × V)=>p.1=q.1/\j_ K P q.2.1 (q.1.map V.int)/\am K P J p.2 q.2.2
def yp (K:Ag)(H P:Hp)(J : Ab Af)(a:Af):MO->Prop
 |.dead=>Jg
 |.lst N=>∃ Q,H a=Aa (.lst Q)/\qJ K P J N Q
 |.dct Y=>∃ Q,H a=Aa (.dK Q)/\uv K P J Y Q
 |.dcT Y=>∃ U,H a=Aa (dtO a U)/\(a == Pj)=Yp/\U.length<=sizeLine/\(U.map (·.1)).Nodup/\_d K P J Y U
 |.ins C G=>∃ O Q,H a=Aa (.ins C O Q)/\uv K P J G Q
inductive zm (x:Ah)(H P:Hp)(J : Ab Af)(T:Af):Prop
 |mk (ps:Br Ac) (e:H T=Aa (.tbl ps)) (pn:P T=Zt) (an:T ∉ J) (ok:TriplesOk ps.toList) (cd:∀ pos cv,codeAmong pos ps.toList=Aa cv->∃ c oc vs t,cv=.ref c/\H c=Aa (.frz oc (.frz oc (.own 0)))/\oc.data=.fields vs/\vs[1]? = Aa (.str (x ++ ".<locals>." ++ "<lambda>") t)):zm x H P J T
def XY (K:Ag)(H P:Hp)(J : Ab Af):Prop:=∀ x∈u9,∀ c T,Dm K x=Aa (c,T)->zm x H P J T
def CH (u:HO):Prop:=(∃ Q,u=.tbl Q)\/∃ o,u=.frz o (.frz o (.own 0))
def XY.keep {K:Ag}{H H' P U:Hp}{J Y:J9}(r:XY K H P J)(e:∀ b u,H b=Aa u->CH u->H' b=Aa u)(hp:∀ b u,H b=Aa u->CH u->P b=Zt->b ∉ J->U b=Zt/\b ∉ Y):XY K H' U Y:=λx G c T h =>
 let ⟨A,Q,O,C,ok,B⟩:=r x G c T h;let z:=hp _ _ Q (.inl ⟨_,Z⟩) O C
 ⟨A,e _ _ Q (.inl ⟨_,Z⟩),z.1,z.2,ok,λE N q=>let ⟨c,I,L,t,a,b,d⟩:=B E N q;⟨c,I,L,t,a,e _ _ b (.inr ⟨_,Z⟩),d⟩⟩
structure bf (K:Ag)(H P:Hp)(J : Ab Af)(S:ag):Prop where
 tb:XY K H P J
 sub:qP P H
 len:J.length=S.length
 nd:J.Nodup
 sep:∀ (i:Aj) (a:Af) (o:MO),J[i]? = Aa a->S[i]? = Aa o->o≠.dead->P a=Zt
 at':∀ (i:Aj) (a:Af) (o:MO),J[i]? = Aa a->S[i]? = Aa o->yp K H P J a o
 own:∀ (i:Aj) (a:Af),J[i]? = Aa a->H a≠Zt
section
variable {K:Ag}{H P P':Hp}{J J':J9}{S:ag}
def zH.mono (e:qP P P')(h:J<+:J')(r:zH K P J Y ac):zH K P' J' Y ac:=
 ⟨r.1,λi d q=>let ⟨v,Q,U⟩:=r.2 i d q;⟨v,Q,am.mono e h d v U⟩⟩
def uv.mono {κ : Type}(e:qP P P')(h:J<+:J'){Q:Ab (κ × D)}{vs:Ab (κ × V)}(r:uv K P J Q vs):uv K P' J' Q vs:=by refine Paired.mapP r λp q z=>⟨z.1,am.mono e h _ _ z.2⟩
def _d.mono (e:qP P P')(h:J<+:J'){Q:Ab (Ab Aq × D)}{xs:Ab (Ab Aq × Af × V)}(r:_d K P J Q xs):_d K P' J' Q xs:=
 Paired.mapP r λp q z=>⟨z.1,vL e z.2.1,am.mono e h _ _ z.2.2⟩
theorem yp.mono (e:qP P P')(h:J<+:J'):∀ {o:MO},yp K H P J a o->yp K H P' J' a o
 |.dead,_=>trivial
 |.lst _,⟨Q,q,r⟩=>⟨Q,q,qJ.mono e h _ _ r⟩
 |.dct _,⟨Q,q,r⟩=>⟨Q,q,r.mono e h⟩
 |.dcT _,⟨Q,q,d,l,n,r⟩=>⟨Q,q,d,l,n,r.mono e h⟩
 |.ins _ _,⟨Y,Q,q,r⟩=>⟨Y,Q,q,r.mono e h⟩
def bf.grow (r:bf K H P J S)(e:qP H H'):bf K H' P J S where
 tb:=r.tb.keep (λb u q _=>e _ _ q) λ_ _ _ _ p n=>⟨p,n⟩
 sub:=r.sub.trans e
 len:=r.len
 nd:=r.nd
 sep:=r.sep
 at':=λi a o G U=>by
  have m:=r.at' i a o G U;cases o with
  |dead=>trivial
  |lst B=>obtain⟨Q,q,t⟩:=m;exact⟨Q,e _ _ q,t⟩
  |dct Y=>obtain⟨Q,q,t⟩:=m;exact⟨Q,e _ _ q,t⟩
  |dcT Y=>obtain⟨Q,q,t⟩:=m;exact⟨Q,e _ _ q,t⟩
  |ins C O=>obtain⟨N,Q,q,t⟩:=m;exact⟨N,Q,e _ _ q,t⟩
 own:=λi a q=>by
  have m:=r.own i a q;cases z:H a with
  |none=>exact absurd z m
  |some o=>rw[e _ _ z];intro w;cases w
def bI {H:Hp}(h:H a=Zt):qP H (bx H a o):=λb u e=>by rw[qN (zE e h)];exact e
def bf.pure (r:bf K H P J S)(h:H a=Zt):bf K (bx H a o) (bx P a o) J S/\qP P (bx P a o):=by
 have O:P a=none:=by
  cases z:P a with
  |none=>rfl
  |some u=>rw[r.sub _ _ z] at h;cases h
 have G:qP P (bx P a o):=bI O;have N:=r.grow (bI (o:=o) h);refine⟨⟨r.tb.keep (λb u q _=>(qN (zE q h)).trans q) λb u q _ p n=>⟨(qN (zE q h)).trans p,n⟩,λb u e=>?_,r.len,r.nd,λi b u Q U C=>?_,λi b u Q U=>(N.at' i b u Q U).mono G (Bt _),N.own⟩,G⟩
 .by_cases Y:b=a
  .subst Y;rw[qT] at e ⊢;exact e
  .rw[qN Y] at e ⊢;exact r.sub _ _ e
 .have Y:b≠a:=by rintro rfl;exact r.own i b Q h
  rw[qN Y];exact r.sep i b u Q U C
def bf.new (r:bf K H P J S)(h:H a=Zt)(hm:yp K (bx H a o) P (J ++ [a]) a m):bf K (bx H a o) P (J ++ [a]) (S++[m]):=by
 have C:P a=none:=by
  cases z:P a with
  |none=>rfl
  |some u=>rw[r.sub _ _ z] at h;cases h
 have G:=r.grow (bI (o:=o) h);have T:J<+:J++[a]:=Kh _ _;have split:∀ (i:Aj) (b:Af),(J++[a])[i]? = Aa b->(i<J.length/\J[i]? = Aa b)\/(i=J.length/\b=a):=λi b q=>by
  by_cases Q:i<J.length
  .rw[Co Q] at q;exact .inl ⟨Q,q⟩
  .rw[Eg om] at q;cases O:i-J.length with
   |zero=>rw[O] at q;simp at q;exact .inr ⟨by fin2,q.symm⟩
   |succ k=>rw[O] at q;simp at q
 refine⟨r.tb.keep (λb u q _=>(qN (zE q h)).trans q) λb u q _ p n=>⟨p,λz=>(Cg.mp z).elim n λw=>zE q h (by simpa using w)⟩,G.sub,by simp[r.len],?_,λi b u U Y B=>?_,λi b u U Y=>?_,λi b q=>?_⟩
 .rw[Rk];refine⟨r.nd,by simp,λb L c N e=>?_⟩;simp at N;subst N;subst e;obtain⟨i,Q,e⟩:=Ef.mp L;exact r.own i b (by rw[Bd Q,e]) h
 .rcases split i b U with⟨Q,z⟩|⟨Q,rfl⟩
  .rw[Co (by rw[<- r.len];exact Q)] at Y;exact r.sep i b u z Y B
  .exact C
 .rcases split i b U with⟨Q,z⟩|⟨Q,rfl⟩
  .rw[Co (by rw[<- r.len];exact Q)] at Y;exact(G.at' i b u z Y).mono (qP.refl _) T
  .rw[Q,r.len,Eg (Ax _)] at Y;simp at Y;subst Y;exact hm
 .rcases split i b q with⟨_,z⟩|⟨_,rfl⟩
  .exact G.own i b z
  .rw[qT];intro z;cases z
def UT {N:J9}(U:N.Nodup){i j:Aj}{x:Af}(a:N[i]? = Aa x)(b:N[j]? = Aa x):i=j:=by obtain⟨G,Q⟩:=Bv.mp a;obtain⟨O,Y⟩:=Bv.mp b;exact(Sn U).mp (Q.trans Y.symm)
def bf.put {i:Aj}(r:bf K H P J S)(B:J[i]? = Aa a)(hs:S[i]? = Aa m)(I:m≠.dead)(hm:yp K (bx H a o) P J a m'):bf K (bx H a o) P J (S.set i m'):=by
 have T:=r.sep i a m B hs I;have y:i<S.length:=(Bv.mp hs).1;refine⟨r.tb.keep (λb u q L=>?_) λ_ _ _ _ p n=>⟨p,n⟩,λb u e=>?_,by simp[r.len],r.nd,λj b u U N M=>?_,λj b u U N=>?_,λj b q=>?_⟩
 .refine(qN ?_).trans q;rintro rfl;have z:=r.at' i _ m B hs;cases m with
  |dead=>exact I rfl
  |lst w=>obtain⟨Q,z,_⟩:=z;rw[q] at z;rcases L with⟨_,rfl⟩|⟨_,rfl⟩ <;> cases z
  |dct G=>obtain⟨Q,z,_⟩:=z;rw[q] at z;rcases L with⟨_,rfl⟩|⟨_,rfl⟩ <;> cases z
  |dcT G=>obtain⟨Q,z,_⟩:=z;rw[q] at z;rcases L with⟨_,rfl⟩|⟨_,rfl⟩ <;> cases z
  |ins C A=>obtain⟨E,Q,z,_⟩:=z;rw[q] at z;rcases L with⟨_,rfl⟩|⟨_,rfl⟩ <;> cases z
 .have Y:b≠a:=by rintro rfl;rw[T] at e;cases e
  rw[qN Y];exact r.sub _ _ e
 .by_cases O:j=i
  .subst O;rw[B] at U;cases U;exact T
  .rw[De (Di O)] at N;exact r.sep j b u U N M
 .by_cases O:j=i
  .subst O;rw[B] at U;cases U;rw[Fn y] at N;cases N;exact hm
  .rw[De (Di O)] at N;have Y:b≠a:=by rintro rfl;exact O (UT r.nd U B)
   have z:=r.at' j b u U N;cases u with
   |dead=>trivial
   |lst w=>obtain⟨Q,q,t⟩:=z;exact⟨Q,by rw[qN Y];exact q,t⟩
   |dct G=>obtain⟨Q,q,t⟩:=z;exact⟨Q,by rw[qN Y];exact q,t⟩
   |dcT G=>obtain⟨Q,q,t⟩:=z;exact⟨Q,by rw[qN Y];exact q,t⟩
   |ins C A=>obtain⟨E,Q,q,t⟩:=z;exact⟨E,Q,by rw[qN Y];exact q,t⟩
 .by_cases Y:b=a
  .subst Y;rw[qT];intro z;cases z
  .rw[qN Y];exact r.own j b q
end
def nn {β : Type}{a:β}{p:Prop}(h:(Zt:Al β) = Aa a):p:=by cases h
def jX {β : Type}{c:Prop}[Jf c]{a b:β}(h:(if c then Aa a else Zt)=Aa b):c/\a=b:=by
 by_cases z:c
 .rw[Au z] at h;exact⟨z,Cw h⟩
 .rw[AT z] at h;exact nn h
end _D
end
namespace _D
open _L
variable {jd:J0}{us cs:Y8}{er:Ab Du}{u vv fl:Ac}{p C:Af}{dd od:Al Af}{sl:Br (Al Ac)}{np:Eb}{R:It->Hp->Prop}{M:Nk}{sp:Sp}{S S1:ag}{Q:VK}
abbrev DE:=qG->ag->ax D
abbrev DT:=qG->ag->ax Ar
abbrev DA:=qG->ag->ax (Ab D)
inductive ja where
 |nx (env:qG) (S:ag)|rt (d:D) (S:ag)|bk (env:qG) (S:ag)|ct (env:qG) (S:ag)|ex (c:Ac) (x:D) (env:qG) (S:ag)|bad
abbrev DS:=qG->ag->ja
def pe (X:Cx)(aa:J0)(H:Hp)(b:Af):Prop:=
 (∃ o,X.s₀.heap.get? b=Aa o/\b ∉ X.ex)\/H b≠Zt\/(∃ p∈X.pn++aa,p.1=b)\/∃ x,X.env.cells.lookup x=Aa b
def Cv (X:Cx)(aa:J0)(H:Hp)(B h:Bb):Prop:=∀ b o,h.get? b=Aa o->pe X aa H b->b ∉ gv X.stack->B.get? b=Aa o
inductive _Z (B:Bb)(e:Af)(c:Ac)(dd:Al Af)(fl:Ac)(h:Bb):Prop
 |mk (oe:Cd) (vs:Br Ac) (T:Af) (oT:Cd) (ts:Br Ac) (he:h.get? e=Aa oe) (hc:oe.cls=c) (hdd:oe.dict=dd) (hd:oe.data=.fields vs) (h1:vs[1]? = Aa (.ref T)) (nT:B.get? T=Zt) (ne:T≠e) (hT:h.get? T=Aa oT) (hdT:oT.data=.fields ts) (h3:ts[3]? = Aa fl):_Z B e c dd fl h
def ua (B:Bb)(l:Ab Hg)(e:Af)(c:Ac)(dd:Al Af)(fl:Ac)(h:Bb):Prop:=B.StaysIn h/\B.get? e=Zt/\h.FunFrames B l/\_Z B e c dd fl h
inductive kx (X:Cx)(pins:J0)(H:Hp)(c:Ac)(dd:Al Af)(e:Af)(h:Bb):Prop where
 |new (ob:Cd) (t:Af) (he:h.get? e=Aa ob) (hc:ob.cls=c) (hdd:ob.dict=dd) (hd:ob.data=.fields #[.ref t,.none,.none,.none,.bool Yp,.none]) (no:¬ pe X pins H e) (nf:e ∉ gv X.stack):kx X pins H c dd e h
 |fly (B:Bb) (fl:Ac):ua B X.stack e c dd fl h->Cv X pins H B h->kx X pins H c dd e h
def yf (K:Ag)(P:Hp)(J : Ab Af)(c:Ac)(x:D)(dd:Al Af):Prop:=match x with
 |.exl N G O=>N=c/\∃ U Y,dd=Aa U/\P U=Aa (oq U (G.zip Y))/\G.length=Y.length/\qJ K P J O Y
 |_=>Jg
inductive p_ (X:Cx)(P:Hp)(J : Ab Af)(c:Ac)(x:D)(S:ag)(u:Ac)(s:Ai):Prop
 |mk (e:Af) (pins:J0) (Y : _L.St) (H:Hp) (P':Hp) (J' : Ab Af) (e1:u=.ref e) (I:Inv X pins Y H s) (r:bf X.K H P' J' S) (q1:qP P P') (q2:J<+:J') (dd:Al Af) (q4:kx X pins H c dd e s.heap) (q5:yf X.K P' J' c x dd):p_ X P J c x S u s
def p_.base {X:Cx}{P P1:Hp}{J J1:J9}(e:qP P P1)(h:J<+:J1)(k:p_ X P1 J1 c x S u s):p_ X P J c x S u s:=by obtain⟨a,T,Y,H,E,B,G,I,r,N,U,dd,L,O⟩:=k;exact⟨a,T,Y,H,E,B,G,I,r,e.trans N,h.trans U,dd,L,O⟩
section
variable (X:Cx)
def qK {β:Type}(P:Hp)(J : Ab Af)(r:ax β)(Ok:β->ag->Prop):Prop:=
 match r with
 |.ok d Y=>Ok d Y
 |.ex c x Y=>∀ u U,p_ X P J c x Y u U->X.xe u U
 |.bad=>Fv
def gy (P:Hp)(J : Ab Af)(Q:VK)(d:D)(N:ag):Prop:=∀ v G U Y,bf X.K G U Y N->qP P U->J<+:Y->am X.K U Y d v->Q v G
def xh (P:Hp)(J : Ab Af)(Q:Ar->Hp->Prop)(b:Ar)(N:ag):Prop:=∀ U G Y,bf X.K U G Y N->qP P G->J<+:Y->Q b U
def Z8 (P:Hp)(J : Ab Af)(Q:Ab V->Hp->Prop)(ds:Ab D)(O:ag):Prop:=∀ G N U Y,bf X.K N U Y O->qP P U->J<+:Y->qJ X.K U Y ds G->Q G N
abbrev qU (P:Hp)(J : Ab Af)(r:ax D)(Q:VK):Prop:=qK X P J r (gy X P J Q)
abbrev yE (P:Hp)(J : Ab Af)(r:ax Ar)(Q:Ar->Hp->Prop):Prop:=qK X P J r (xh X P J Q)
abbrev gH (P:Hp)(J : Ab Af)(r:ax (Ab D))(Q:Ab V->Hp->Prop):Prop:=qK X P J r (Z8 X P J Q)
def zI (P:Hp)(J : Ab Af)(r:ja)(D:Ends):Prop:=
 match r with
 |.nx Y O=>∀ B N G U,bf X.K N G U O->zH X.K G U B Y->qP P G->J<+:U->D.nx B N
 |.bk Y O=>∀ B N G U,bf X.K N G U O->zH X.K G U B Y->qP P G->J<+:U->D.bk B N
 |.ct Y O=>∀ B N G U,bf X.K N G U O->zH X.K G U B Y->qP P G->J<+:U->D.ct B N
 |.rt d O=>∀ v N G U,bf X.K N G U O->qP P G->J<+:U->am X.K G U d v->D.rt v N
 |.ex c x _ O=>∀ u L,p_ X P J c x O u L->X.xe u L
 |.bad=>Fv
inductive tD (f:DE)(Y : _L.St)(H:Hp)(Q:VK):Prop
 |mk (P:Hp) (J : Ab Af) (env:qG) (S:ag) (r:bf X.K H P J S) (re:zH X.K P J Y env) (af:qU X P J (f env S) Q):tD f Y H Q
inductive oi (f:DT)(Y : _L.St)(H:Hp)(Q:Ar->Hp->Prop):Prop
 |mk (P:Hp) (J : Ab Af) (env:qG) (S:ag) (r:bf X.K H P J S) (re:zH X.K P J Y env) (af:yE X P J (f env S) Q):oi f Y H Q
inductive kh (f:DA)(Y : _L.St)(H:Hp)(Q:Ab V->Hp->Prop):Prop
 |mk (P:Hp) (J : Ab Af) (env:qG) (S:ag) (r:bf X.K H P J S) (re:zH X.K P J Y env) (af:gH X P J (f env S) Q):kh f Y H Q
inductive jb (f:DS)(D:Ends)(Y : _L.St)(H:Hp):Prop
 |mk (P:Hp) (J : Ab Af) (env:qG) (S:ag) (r:bf X.K H P J S) (re:zH X.K P J Y env) (af:zI X P J (f env S) D):jb f D Y H
end
section
variable {X:Cx}{P P1:Hp}{J J1:J9}
theorem qU.base (e:qP P P1)(h:J<+:J1)(k:qU X P J r Q):qU X P1 J1 r Q:=by
 cases r with
 |ok d S=>exact λv L U Y r B G N=>k v L U Y r (e.trans B) (h.trans G) N
 |ex c x S=>exact λu O q=>k u O (q.base e h)
 |bad=>exact k
theorem yE.base {Q:Ar->Hp->Prop}(e:qP P P1)(h:J<+:J1)(k:yE X P J r Q):yE X P1 J1 r Q:=by
 cases r with
 |ok d S=>exact λO B Y r G U=>k O B Y r (e.trans G) (h.trans U)
 |ex c x S=>exact λu N q=>k u N (q.base e h)
 |bad=>exact k
theorem gH.base {Q:Ab V->Hp->Prop}(e:qP P P1)(h:J<+:J1)(k:gH X P J r Q):gH X P1 J1 r Q:=by
 cases r with
 |ok d S=>exact λv L B Y r N U G=>k v L B Y r (e.trans N) (h.trans U) G
 |ex c x S=>exact λu O q=>k u O (q.base e h)
 |bad=>exact k
theorem zI.base {D:Ends}(e:qP P P1)(h:J<+:J1)(k:zI X P J r D):zI X P1 J1 r D:=by
 cases r with
 |nx L S=>exact λv O N Y r B G U=>k v O N Y r B (e.trans G) (h.trans U)
 |bk L S=>exact λv O N Y r B G U=>k v O N Y r B (e.trans G) (h.trans U)
 |ct L S=>exact λv O N Y r B G U=>k v O N Y r B (e.trans G) (h.trans U)
 |rt d S=>exact λv O N Y r G U T=>k v O N Y r (e.trans G) (h.trans U) T
 |ex c x L S=>exact λu E q=>k u E (q.base e h)
 |bad=>exact k
def xr (k:gy X P J Q d S)(r:bf X.K H P J S)(q:am X.K P J d v):Q v H:=k v H P J r (qP.refl _) (Bt _) q
end
section
variable {X:Cx}{a b e:Bl}{ai:Eb}
def se {t t':TE}(h:PE X e t)(w:∀ Y H Q,t' Y H Q->t Y H Q):PE X e t':=λJ s Y H Q I q=>h J s Y H Q I (w Y H Q q)
def _R {st:Du}{t t':TS}(h:PS X st t)(w:∀ D Y H,t' D Y H->t D Y H):PS X st t':=λJ s Y H D I q=>h J s Y H D I (w D Y H q)
def IQ {st:Ab Du}{t t':TS}(h:kg X st t)(w:∀ D Y H,t' D Y H->t D Y H):kg X st t':=λJ s Y H D I q=>h J s Y H D I (w D Y H q)
def paW {t t':TA}(h:PA X es t)(w:∀ Y H Q,t' Y H Q->t Y H Q):PA X es t':=λai J s Y H Q I q=>h ai J s Y H Q I (w Y H Q q)
structure Got (X:Cx)(pins:J0)(Y : _L.St)(env:qG)(P:Hp)(J : Ab Af)(u:Ac)(s1:Ai)(v:V)(H1 P1:Hp)(J1:J9)(d:D)(S1:ag):Prop where
 inv:Inv X pins Y H1 s1
 val:qR v u
 rel:bf X.K H1 P1 J1 S1
 env:zH X.K P1 J1 Y env
 rep:am X.K P1 J1 d v
 same:qP P P1
 pre:J<+:J1
inductive yg (X:Cx)(pins:J0)(Y : _L.St)(env:qG)(P:Hp)(J : Ab Af)(u:Ac)(s1:Ai){γ : Type}(g:D->ag->ax γ)(Ok:γ->ag->Prop):Prop
 |mk (v:V) (H1 P1:Hp) (J1:J9) (d:D) (S1:ag) (G:Got X pins Y env P J u s1 v H1 P1 J1 d S1) (q:qK X P J (g d S1) Ok):yg X pins Y env P J u s1 g Ok
inductive xj (X:Cx)(pins:J0)(Y : _L.St)(env:qG)(P:Hp)(J : Ab Af)(us:Y8)(s1:Ai){γ : Type}(g:Ab D->ag->ax γ)(Ok:γ->ag->Prop):Prop
 |mk (vs:Ab V) (H1 P1:Hp) (J1:J9) (ds:Ab D) (S1:ag) (I:Inv X pins Y H1 s1) (rv:qQ vs us) (r:bf X.K H1 P1 J1 S1) (re:zH X.K P1 J1 Y env) (rp:qJ X.K P1 J1 ds vs) (e1:qP P P1) (e2:J<+:J1) (q:qK X P J (g ds S1) Ok):xj X pins Y env P J us s1 g Ok
inductive G_ (X:Cx)(pins:J0)(Y : _L.St)(env:qG)(P:Hp)(J : Ab Af)(b:Ar)(s1:Ai){γ : Type}(g:Ar->ag->ax γ)(Ok:γ->ag->Prop):Prop
 |mk (H1 P1:Hp) (J1:J9) (S1:ag) (I:Inv X pins Y H1 s1) (r:bf X.K H1 P1 J1 S1) (re:zH X.K P1 J1 Y env) (e1:qP P P1) (e2:J<+:J1) (q:qK X P J (g b S1) Ok):G_ X pins Y env P J b s1 g Ok
def zK {γ:Type}{g:D->ag->ax γ}{Ok:γ->ag->Prop}{H P:Hp}{ac:qG}(h:PE X e (tD X f))(I:Inv X aa Y H s)(r:bf X.K H P J S)
  (E:zH X.K P J Y ac) (G:qK X P J ((f ac S).bind g) Ok) :
  a8 X (eval e X.env) (λu B=>yg X aa Y ac P J u B g Ok) X.xe s:=by
 refine bi (h aa s Y H (λv O=>∃ U N d S1,bf X.K O U N S1/\zH X.K U N Y ac/\am X.K U N d v/\qP P U/\J<+:N/\qK X P J (g d S1) Ok) I ⟨P,J,ac,S,r,E,?_⟩) λu B ⟨v,O,o,t,U,N,d,S1,j,w,z,n,k,i⟩=>⟨v,O,U,N,d,S1,⟨o,t,j,w,z,n,k⟩,i⟩;cases q:f ac S with
 |bad=>rw[q] at G;exact G
 |ex c x A=>rw[q] at G;exact G
 |ok d A =>
  rw[q] at G;exact λv H' P' m y L T l=>⟨P',m,d,A,y,E.mono L T,l,L,T,G⟩
def wN {γ:Type}{g:Ab D->ag->ax γ}{Ok:γ->ag->Prop}{H P:Hp}{ac:qG}(he:PA X es (kh X f))(I:Inv X aa Y H s)(r:bf X.K H P J S)
  (E:zH X.K P J Y ac) (G:qK X P J ((f ac S).bind g) Ok) (ai:Eb) :
  a8 X (spliced (Eu ai (Bc es X.env))) (λus B=>xj X aa Y ac P J us B g Ok) X.xe s:=by
 refine bi (he ai aa s Y H (λvs O=>∃ U N w S1,bf X.K O U N S1/\zH X.K U N Y ac/\qJ X.K U N w vs/\qP P U/\J<+:N/\qK X P J (g w S1) Ok) I ⟨P,J,ac,S,r,E,?_⟩) λu B ⟨v,O,l,m,U,N,d,S1,y,z,j,i,o,h⟩=>⟨v,O,U,N,d,S1,l,m,y,z,j,i,o,h⟩;cases q:f ac S with
 |bad=>rw[q] at G;exact G
 |ex c x A=>rw[q] at G;exact G
 |ok d A =>
  rw[q] at G;exact λv H' P' n k L T t=>⟨P',n,d,A,k,E.mono L T,t,L,T,G⟩
def gY {γ:Type}{f:DT}{g:Ar->ag->ax γ}{Ok:γ->ag->Prop}{aa:J0}{s:Ai}{Y:_L.St}{H P:Hp}{J:J9}{ac:qG}{m:Kk Ar}
  (t:∀ (Q:Ar->Hp->Prop),oi X f Y H Q->a8 X m (TP X aa Y Q) X.xe s) (r:bf X.K H P J S) (E:zH X.K P J Y ac) (U:qK X P J ((f ac S).bind g) Ok) :
  a8 X m (λb B=>G_ X aa Y ac P J b B g Ok) X.xe s:=by
 refine bi (t (λb O=>∃ G N S1,bf X.K O G N S1/\zH X.K G N Y ac/\qP P G/\J<+:N/\qK X P J (g b S1) Ok) ⟨P,J,ac,S,r,E,?_⟩) λb B ⟨O,k,G,N,S1,A,j,l,y,v⟩=>⟨O,G,N,S1,k,A,j,l,y,v⟩;cases q:f ac S with
 |bad=>rw[q] at U;exact U
 |ex c x I=>rw[q] at U;exact U
 |ok d I =>
  rw[q] at U;exact λn z o w L T=>⟨z,o,I,w,E.mono L T,L,T,U⟩
def dC (d:D):DE:=λ_ S=>.ok d S
def qB (i:Aj):DE:=λY S=>match Y[i]? with
 |some (Aa d)=>.ok d S
 |_=>.bad
def EL:PE X (.Constant (.int i) j ai) (tD X (dC (.int i))):=se IC λY H Q ⟨P,J,G,S,r,N,U⟩=>xr U r (by simp only[am])
def OY:PE X (.Constant (.bool i) j ai) (tD X (dC (.bl i))):=se qA1 λY H Q ⟨P,J,G,S,r,N,U⟩=>xr U r (by simp only[am])
def ET:PE X (.Constant (.str i) j ai) (tD X (dC (.str i))):=se IF λY H Q ⟨P,J,G,S,r,N,U⟩=>xr U r (by simp only[am])
def EN:PE X (.Constant .none j ai) (tD X (dC .non)):=se ID λY H Q ⟨P,J,G,S,r,N,U⟩=>xr U r (by simp only[am])
set_option tactic.hygienic true in
def SY (h:tD X (qB i) Y H Q):OK i Y H Q:=by
 obtain⟨P,J,B,S,r,O,U⟩:=h;unfold qB at U;split at U
 .rename_i d q;obtain⟨v,G,N⟩:=O.2 i d q;exact⟨v,G,xr U r N⟩
 .exact Am U
def dv (i:Aj){x:Ah}(U:X.N[i]? = Aa x:=by rfl)(hv:qg X.env.scope x:=by first|exact Aa7 rfl|exact Zd (Aa7 rfl)|exact Zd (Zd rfl))(G:(x == ("__debug__" : Ah))=false:=by decide)
  (J:(x == ("__classdict__" : Ah))=false:=by decide):PE X (.Name x ai) (tD X (qB i)):=se (lP U hv G J) λY H Q h=>SY h
def mJ (G:Gl X x)(hm:X.mg x=Aa u)(r:qR v u)(q:∀ P J,am X.K P J d v)(N:(x == ("__debug__" : Ah))=false:=by decide):PE X (.Name x ai) (tD X (dC d)):=
 se (DJ G hm r N) λY H Q ⟨P,J,O,S,r,B,U⟩=>xr U r (q _ _)
def TL (G:Gl X x)(hm:X.mg x=Zt)(hv:Gc x=Aa (.type n))(N:x ≠ "__name__":=by decide)(O:(x == ("__debug__" : Ah))=false:=by decide):PE X (.Name x ai) (tD X (dC (.ty n))):=
 se (DH (v:=.ty n) G hm hv Z N O) λY H Q ⟨P,J,B,S,r,L,U⟩=>xr U r (by simp only[am])
abbrev G2:=D->D->ag->ax D
def gz (X:Cx)(f:Ac->Ac->Kk Ac)(g:G2):Prop:=
 ∀ (G:J0) (Y : _L.St) (H:Hp) (s:Ai) (P:Hp) (J : Ab Af) (S:ag) (v u:V) (vv U:Ac) (a b:D) (Q:VK),Inv X G Y H s->bf X.K H P J S->qR v vv->qR u U->am X.K P J a v->am X.K P J b u->qU X P J (g a b S) Q ->
  a8 X (f vv U) (EP X G Y Q) X.xe s
def gz.of {f:Ac->Ac->Kk Ac}{g:G2}(h:o_ X f r)(w:∀ H P J S v u a b Q,bf X.K H P J S->am X.K P J a v->am X.K P J b u->qU X P J (g a b S) Q->r v u H Q):gz X f g:=
 λE Y H s P J S v u vv U a b Q I B L T G O N=>h E s Y H v u vv U Q I L T (w H P J S v u a b Q B G O N)
def _v (X:Cx)(f:Ac->Kk Ac)(g:D->ag->ax D):Prop:=
 ∀ (U:J0) (Y : _L.St) (H:Hp) (s:Ai) (P:Hp) (J : Ab Af) (S:ag) (v:V) (vv:Ac) (a:D) (Q:VK),Inv X U Y H s->bf X.K H P J S->qR v vv->am X.K P J a v->qU X P J (g a S) Q ->
  a8 X (f vv) (EP X U Y Q) X.xe s
def Z_ (X:Cx)(g:G2):Prop:=
 ∀ (O U:Bl) (N:J0) (Y : _L.St) (H:Hp) (s:Ai) (P:Hp) (J : Ab Af) (S:ag) (v u:V) (vv G:Ac) (a b:D) (Q:VK),Inv X N Y H s->bf X.K H P J S->qR v vv->qR u G->am X.K P J a v->am X.K P J b u->qU X P J (g a b S) Q ->
  subscripted U Yp vv G=operate [vv,G] (Oa vv G)->a8 X (Ri O U vv G) (EP X N Y Q) X.xe s
def wI (X:Cx)(f:Ac)(g:Ab D->ag->ax D):Prop:=
 ∀ (N:J0) (Y : _L.St) (H:Hp) (s:Ai) (P:Hp) (J : Ab Af) (S:ag) (U:Ab V) (us:Y8) (G:Ab D) (Q:VK),Inv X N Y H s->bf X.K H P J S->qQ U us->qJ X.K P J G U->qU X P J (g G S) Q ->
  a8 X (call f us) (EP X N Y Q) X.xe s
def d2 (g:G2)(G U:DE):DE:=λY S=>(G Y S).bind λx S1=>(U Y S1).bind λy J=>g x y J
def d1 (g:D->ag->ax D)(J:DE):DE:=λY S=>(J Y S).bind g
variable {fa fb:DE}
def aH {f:Ac->Ac->Kk Ac}(q:gz X f g)(A:PE X a (tD X fa))(c:PE X b (tD X fb))(I:Inv X aa Y H s)(h:tD X (d2 g fa fb) Y H Q) :
  a8 X (eval a X.env) (λv U=>a8 X (eval b X.env) (λu G=>a8 X (f v u) (EP X aa Y Q) X.xe G) X.xe U) X.xe s:=by
 obtain⟨P,J,i,S,r,j,t⟩:=h;refine bi (zK A I r j t) λvv m ⟨v,n,L,T,d,S1,G1,N⟩=>?_;refine bi (zK c G1.inv G1.rel G1.env (P:=L) (J:=T) (Ok:=gy X L T Q) (g:=λy O=>g d y O) ?_) λl k ⟨u,z,E,o,w,O,G2,B⟩=>?_
 .exact qU.base G1.same G1.pre N
 .exact q aa Y z k E o O v u vv l d w Q G2.inv G2.rel G1.val G2.val (am.mono G2.same G2.pre _ _ G1.rep) G2.rep (qU.base G2.same G2.pre B)
def qAC (J:gz X (Ec op) g)(U:PE X a (tD X fa))(G:PE X b (tD X fb)):PE X (.BinOp a op b ai) (tD X (d2 g fa fb)):=
 λN s Y H Q I h=>wpAny_BinOp (aH J U G I h)
def EF (J:gz X (Cs op) g)(U:PE X a (tD X fa))(G:PE X b (tD X fb))(hm:Lu op b=false:=by first|exact lI _|with_unfolding_all rfl):PE X (.Compare a [op] [b] ai) (tD X (d2 g fa fb)):=
 λN s Y H Q I h=>wpAny_Compare1 (aH J U G I h) hm
def qAD {g:D->ag->ax D}(L:_v X (Yw op) g)(N:PE X a (tD X fa)):PE X (.UnaryOp op a ai) (tD X (d1 g fa)):=by intro A s Y H Q I h;obtain⟨P,J,z,S,r,B,E⟩:=h;exact UnaryOp_ (bi (zK N I r B E) λvv G ⟨v,O,T,w,d,S1,G1,U⟩=>L A Y O G T w S1 v vv d Q G1.inv G1.rel G1.val G1.rep (qU.base G1.same G1.pre U))
def qAB (ho:Z_ X g)(ha:PE X a (tD X fa))(hb:PE X b (tD X fb))(hs:gJ b:=by intro _ _;rfl):PE X (.Subscript a b ai) (tD X (d2 g fa fb)):=by
 intro k s Y H Q I h;obtain⟨P,J,O,S,r,L,G⟩:=h;have B:D_ X (λx y H Q=>∃ P J S a b,bf X.K H P J S/\am X.K P J a x/\am X.K P J b y/\qU X P J (g a b S) Q):=λcq N k s Y H x y v u Q I rx ry ⟨P,J,S,a,b,r,p1,p2,G⟩ T =>
  ho cq N k Y H s P J S x y v u a b Q I r rx ry p1 p2 G T
 refine se (qA2 B ha hb hs) (t':=tD X (d2 g fa fb)) (λY H Q h=>?_) k s Y H Q I ⟨P,J,O,S,r,L,G⟩;obtain⟨P,J,O,S,r,L,G⟩:=h;refine⟨P,J,O,S,r,L,?_⟩;unfold d2 at G;cases q:fa O S with
 |bad=>rw[q] at G;exact G
 |ex c x S'=>rw[q] at G;exact G
 |ok d S1 =>
  rw[q] at G;intro v H1 i J1 r1 E A rp;refine⟨i,J1,O,S1,r1,L.mono E A,?_⟩;have U:qU X P J ((fb O S1).bind λy j=>g d y j) Q:=G;cases o:fb O S1 with
  |bad=>rw[o] at U;exact U
  |ex c x S'=>rw[o] at U;exact λu n z=>U u n (z.base E A)
  |ok d' j =>
   rw[o] at U;intro u H2 t J2 m f l w;exact⟨t,J2,j,d,d',m,am.mono f l _ _ rp,w,qU.base (E.trans f) (A.trans l) U⟩
def qC:DA:=λ_ S=>.ok [] S
def qA (f:DE)(g:DA):DA:=λY S=>(f Y S).bind λx S1=>(g Y S1).bind λU J=>.ok (x::U) J
def E9:PA X [] (kh X qC):=paW IB λY H Q ⟨P,J,G,S,r,N,U⟩=>U [] H P J r (qP.refl _) (Bt _) .nil
def TK (k:PE X e (tD X fa))(E:PA X es (kh X g))(hs:Bc (e::es) X.env=(Yp,eval e X.env)::Bc es X.env:=by rfl):PA X (e::es) (kh X (qA fa g)):=by intro ai m s Y H Q I h;obtain⟨P,J,n,S,r,o,j⟩:=h;rw[hs];show Ap _ _ (spliced ((Yp,eval e X.env)::Eu ai (Bc es X.env))) _ _ s;refine Hq (bi (zK k I r o j) λu c ⟨x,f,L,T,d,S1,G1,N⟩=>?_);refine bi (wN E G1.inv G1.rel G1.env (P:=L) (J:=T) (Ok:=Z8 X L T Q) (gH.base G1.same G1.pre N) ai) λus i ⟨A,q,v,J2,ds,t,y,z,w,l,U,O,B,G⟩=>?_;exact⟨x::A,q,y,.cons G1.val z,G _ _ _ _ w O B (.cons (am.mono O B _ _ G1.rep) U)⟩
noncomputable def bb:Aj:=16777216
def zM:bb=sizeLine:=Dv.symm
def zO (f:DA):DE:=λJ S=>(f J S).bind λY S1=>if Y.length<=bb then .ok (.tup Y) S1 else .bad
def zJ (f:DA):DE:=λJ S=>(f J S).bind λY S1=>if Y.length<=bb then .ok (.lst Y) S1 else .bad
def mI (f:DA):DE:=λJ S=>(f J S).bind λY S1=>if Y.length<=bb then .ok (.loc S1.length) (S1++[.lst Y]) else .bad
def X4 {K:Ag}{P:Hp}{a:Af}(h:j_ K P a vs)(r:qJ K P J ds vs):am K P J (.tup ds) (.ref a):=by simp only[am];exact⟨a,vs,Z,h,r⟩
def sX {K:Ag}{P:Hp}{a:Af}(h:so K P a vs)(r:qJ K P J ds vs):am K P J (.lst ds) (.ref a):=by simp only[am];exact⟨a,vs,Z,h,r⟩
def bG {H P:Hp}(r:bf X.K H P J S)(hp:H p=Zt)(N:qJ X.K P J ds vs)(U:gy X P J Q (.tup ds) S):Q (.ref p) (bx H p (.tup vs)):=by obtain⟨G,Y⟩:=r.pure (o:=.tup vs) hp;exact U _ _ _ J G Y (Bt _) (X4 (.of qT) (qJ.mono Y (Bt _) _ _ N))
def wH {H P:Hp}(r:bf X.K H P J S)(hp:H p=Zt)(N:qJ X.K P J ds vs)(U:gy X P J Q (.lst ds) S):Q (.ref p) (bx H p (.lst vs)):=by obtain⟨G,Y⟩:=r.pure (o:=.lst vs) hp;exact U _ _ _ J G Y (Bt _) (sX (.inl (.inl qT)) (qJ.mono Y (Bt _) _ _ N))
def mQ {H P:Hp}(r:bf X.K H P J S)(hp:H p=Zt)(N:qJ X.K P J ds vs)(U:gy X P J Q (.loc S.length) (S++[.lst ds])):Q (.ref p) (bx H p (.lst vs)):=by have Y:J<+:J++[p]:=Kh _ _;have G:=r.new (o:=.lst vs) (m:=.lst ds) hp ⟨vs,qT,qJ.mono (qP.refl _) Y _ _ N⟩;refine U _ _ _ _ G (qP.refl _) Y ?_;simp only[am];exact⟨p,Z,by rw[<- r.len];simp⟩
def dP {f:DA}{Y:_L.St}{G:Ab D->ag->ax D}{mk:Ab V->HO}(h:tD X (λac S=>(f ac S).bind λxs S1=>if xs.length<=bb then G xs S1 else .bad) Y H Q)
  (k:∀ O P1 J1 S1 ds vs p,bf X.K O P1 J1 S1->O p=Zt->qJ X.K P1 J1 ds vs->qU X P1 J1 (G ds S1) Q->Q (.ref p) (bx O p (mk vs))) :
  kh X f Y H λvs O=>vs.length<=sizeLine/\∀ p,O p=Zt->Q (.ref p) (bx O p (mk vs)):=by
 obtain⟨P,J,ac,S,r,z,I⟩:=h;refine⟨P,J,ac,S,r,z,?_⟩;have U:qU X P J ((f ac S).bind λxs S1=>if xs.length<=bb then G xs S1 else .bad) Q:=I;cases q:f ac S with
 |bad=>rw[q] at U;exact U
 |ex c x j=>rw[q] at U;exact U
 |ok ds S1 =>
  rw[q] at U;intro vs O P1 J1 w T E L;have N:qU X P J (if ds.length<=bb then G ds S1 else .bad) Q:=U;by_cases B:ds.length<=bb
  .rw[Au B] at N;exact⟨by rw[<- L.length,<- zM];exact B,λp A=>k O P1 J1 S1 ds vs p w A L (qU.base T E N)⟩
  .rw[AT B] at N;exact Am N
def EW {x1}(h:PA X es (kh X f)):PE X (.Tuple es x1 ai) (tD X (zO f)):=
 se (IG h) λY H Q q=>dP (G:=λJ S1=>.ok (.tup J) S1) (mk:=.tup) q λB L I S1 E T p r O U N=>bG r O U N
def EM (h:PA X es (kh X f)):PE X (.List es ai) (tD X (zJ f)):=
 se (JD h) λY H Q q=>dP (G:=λJ S1=>.ok (.lst J) S1) (mk:=.lst) q λB L I S1 E T p r O U N=>wH r O U N
def TR (h:PA X es (kh X f)):PE X (.List es ai) (tD X (mI f)):=
 se (JD h) λY H Q q=>dP (G:=λJ S1=>.ok (.loc S1.length) (S1++[MO.lst J])) (mk:=.lst) q λB L I S1 E T p r O U N=>mQ r O U N
end
section
variable {X:Cx}{a b c e:Bl}{ai:Eb}{fa fb fc:DE}{ta tb:DT}
def xP:D->ag->Al Ar
 |.non,_=>Aa Yp
 |.bl b,_=>Aa b
 |.int i,_=>Aa (i != 0)
 |.str x,_=>if x.length<=bb then Aa ((x.length:Aq) != 0) else Zt
 |.tup Y,_=>Aa (!Y.isEmpty)
 |.lst Y,_=>Aa (!Y.isEmpty)
 |.dct0,_=>Aa Yp
 |.loc i,S=>match S[i]? with
  |some (.lst Y)=>Aa (!Y.isEmpty)
  |some (.dct J)=>Aa (!J.isEmpty)
  |_=>Zt
 |_,_=>Zt
theorem qJ.isEmpty {K:Ag}{P:Hp}(r:qJ K P J ds vs):(!ds.isEmpty)=!vs.isEmpty:=by
 cases ds with
 |nil=>rw[r.nil_inv];rfl
 |cons d ds=>obtain⟨w,Y,rfl,_,_⟩:=r.cons_inv;rfl
def wB {K:Ag}{H P:Hp}(e:qP P H){a:Af}{xs:Ab V}(h:j_ K P a xs):j_ K H a xs:=vL e h
def jM {H P:Hp}(r:bf X.K H P J S)(p:am X.K P J d v)(h:xP d S=Aa k):XZ X.K v H k:=by
 cases d with
 |non=>simp only[am] at p;subst p;cases h;rfl
 |bl b=>simp only[am] at p;subst p;cases h;rfl
 |int i=>simp only[am] at p;subst p;cases h;rfl
 |str x =>
  simp only[am] at p;subst p;obtain⟨B,rfl⟩:=jX h;exact⟨by rw[<- zM];exact B,rfl⟩
 |tup G =>
  simp only[am] at p;obtain⟨a,Y,rfl,q,t⟩:=p;cases h;exact .inr (.inl ⟨Y,wB r.sub q,t.isEmpty⟩)
 |lst G =>
  simp only[am] at p;obtain⟨a,Y,rfl,q,t⟩:=p;cases h;exact .inl ⟨Y,(xX r.sub q).l,t.isEmpty⟩
 |dct0 =>
  simp only[am] at p;obtain⟨a,rfl,q⟩:=p;cases h;exact .inr (.inr ⟨[],r.sub _ _ q,rfl⟩)
 |loc i =>
  simp only[am] at p;obtain⟨a,rfl,q⟩:=p;have h:(match S[i]? with|some (.lst G)=>Aa (!G.isEmpty)|some (.dct U)=>Aa (!U.isEmpty)|_=>Zt)=Aa k:=h;cases N:S[i]? with
  |none=>rw[N] at h;exact nn h
  |some m =>
   rw[N] at h;cases m with
   |lst G =>
    cases h;obtain⟨Y,z,t⟩:=r.at' i a _ q N;exact .inl ⟨Y,.of z,t.isEmpty⟩
   |dct U =>
    cases h;obtain⟨Y,z,t⟩:=r.at' i a _ q N;refine .inr (.inr ⟨Y,z,?_⟩);cases t <;> rfl
   |_=>exact nn h
 |ty n=>exact nn h
 |obj a=>exact nn h
 |exn c=>exact nn h
 |fd L O=>exact nn h
 |clo a Y O=>exact nn h
 |exl c T O=>exact nn h
def cL {H P:Hp}{Q:Ar->Hp->Prop}(I:Inv X aa Y H s)(r:bf X.K H P J S)(U:qR v vv)(p:am X.K P J d v)(h:xP d S=Aa k)(q:Q k H) :
  a8 X (truthy vv) (TP X aa Y Q) X.xe s:=m8 aa s Y H v vv Q I U ⟨k,jM r p h,q⟩
def uE (o:Al Ar)(S:ag):ax Ar:=match o with
 |some b=>.ok b S
 |none=>.bad
def bh (f:DE):DT:=λY S=>(f Y S).bind λd S1=>uE (xP d S1) S1
def sZ {P:Hp}{Ok:Ar->ag->Prop}(h:qK X P J (uE o S) Ok):∃ b,o=Aa b/\Ok b S:=by
 cases o with
 |none=>exact Am h
 |some b=>exact⟨b,rfl,h⟩
def HP (O:PE X a (tD X fa))(A:∀ U,isTrue a X.env U=(do let v <- U;Lx a.pos;holding [v] (truthy v)):=by intro _;rfl):PT X a (oi X (bh fa)):=by intro y s Y H Q I h;obtain⟨P,J,j,S,r,L,E⟩:=h;refine isTrue_plain (bi (zK O I r L E) λvv z ⟨v,B,T,w,d,S1,G1,G⟩=>?_) (A _);obtain⟨k,N,q⟩:=sZ G;exact cL G1.inv G1.rel G1.val G1.rep N (q B T w G1.rel G1.same G1.pre)
def HL (ho:gz X (Cs op) g)(m:PE X a (tD X fa))(hb:PE X b (tD X fb))(hm:Lu op b=false:=by first|exact lI _|with_unfolding_all rfl):PT X (.Compare a [op] [b] ai) (oi X (bh (d2 g fa fb))):=by
 intro l s Y H Q I h;obtain⟨P,J,O,S,r,re,o⟩:=h;refine Ob ?_ hm;have B:tD X (d2 g fa fb) Y H (λv G=>∃ k,XZ X.K v G k/\Q k G):=by
  refine⟨P,J,O,S,r,re,?_⟩;have U:qK X P J ((d2 g fa fb O S).bind λd S1=>uE (xP d S1) S1) (xh X P J Q):=o;cases q:d2 g fa fb O S with
  |bad=>rw[q] at U;exact U
  |ex c x S'=>rw[q] at U;exact U
  |ok d S1 =>
   rw[q] at U;obtain⟨k,A,N⟩:=sZ (X:=X) U;exact λv G j f L e3 z rp=>⟨k,jM L rp A,N G j f L e3 z⟩
 exact bi (aH ho m hb I B) λv s1 T=>bi T λu s2 w=>bi w λx i ⟨y,E,I3,n,k,t,N⟩=>m8 l i Y E y x Q I3 n ⟨k,t,N⟩
def wM (g g':G2)(fa fb fc:DE):DE:=λJ S=>(fa J S).bind λx S1=>(fb J S1).bind λy U=>(g x y U).bind λz Y =>
 match xP z Y with
 |some Vq=>(fc J Y).bind λw G=>g' y w G
 |some Yp=>.ok z Y
 |none=>.bad
inductive I_ (X:Cx)(pins:J0)(Y : _L.St)(P:Hp)(J : Ab Af)(w:Ac)(s1:Ai){γ : Type}(k:D->ag->ax γ)(Ok:γ->ag->Prop):Prop
 |mk (y:V) (H1 P1:Hp) (J1:J9) (d:D) (S1:ag) (I:Inv X pins Y H1 s1) (rv:qR y w) (r:bf X.K H1 P1 J1 S1) (rp:am X.K P1 J1 d y) (e1:qP P P1) (e2:J<+:J1) (q:qK X P J (k d S1) Ok):I_ X pins Y P J w s1 k Ok
def iU {γ:Type}{f:Ac->Ac->Kk Ac}{k:D->ag->ax γ}{Ok:γ->ag->Prop}{P:Hp}{v u:V}{B:Ac}{a b:D}(ho:gz X f g)(I:Inv X aa Y H s)(r:bf X.K H P J S)
  (l:qR v vv) (ru:qR u B) (pa:am X.K P J a v) (pb:am X.K P J b u) (U:qK X P J ((g a b S).bind k) Ok) :
  a8 X (f vv B) (λw L=>I_ X aa Y P J w L k Ok) X.xe s:=by
 refine bi (ho aa Y H s P J S v u vv B a b (λy O=>∃ G N d S1,bf X.K O G N S1/\am X.K G N d y/\qP P G/\J<+:N/\qK X P J (k d S1) Ok) I r l ru pa pb ?_) λw L ⟨y,O,h,r1,G,N,d,S1,j,m,E,q4,n⟩=>⟨y,O,G,N,d,S1,h,r1,j,m,E,q4,n⟩;cases q:g a b S with
 |bad=>rw[q] at U;exact U
 |ex c x T=>rw[q] at U;exact U
 |ok d T =>
  rw[q] at U;exact λv H' t J' o A z i=>⟨t,J',d,T,o,i,A,z,U⟩
def qK.base' {β:Type}{P P1:Hp}{J J1:J9}{r:ax β}{Ok Y:β->ag->Prop}(e:qP P P1)(h:J<+:J1)(U:∀ d S,Ok d S->Y d S)(k:qK X P J r Ok):qK X P1 J1 r Y:=by
 cases r with
 |ok d S=>exact U d S k
 |ex c x S=>exact λu G q=>k u G (q.base e h)
 |bad=>exact k
def GA (ho:gz X (Cs op) g)(o:gz X (Cs O) g')(ha:PE X a (tD X fa))(hb:PE X b (tD X fb))(hc:PE X c (tD X fc))
  (hm:Xx [op,O] [b,c]=false:=by with_unfolding_all rfl):PE X (.Compare a [op,O] [b,c] ai) (tD X (wM g g' fa fb fc)):=by
 intro f s Y H Q I h;obtain⟨P,J,ac,S,r,re,af⟩:=h;refine Compare_chain (bi (zK ha I r re af) λvv s1 ⟨v,H1,P1,J1,d,S1,G1,q⟩=>chain_link (bi (zK hb G1.inv G1.rel G1.env (qU.base G1.same G1.pre q)) λuu s2 ⟨u,H2,P2,J2,d',S2,G2,j⟩ =>
  bi (iU ho G2.inv G2.rel G1.val G2.val (am.mono G2.same G2.pre _ _ G1.rep) G2.rep (qU.base G2.same G2.pre j)) λw s3 ⟨y,t,P3,J3,z,S3,I3,n,N,B,L,T,U⟩=>?_)) hm
 cases A:xP z S3 with
 |none=>simp only[A] at U;exact Am U
 |some k =>
  simp only[A] at U;have tv:=jM N B A;refine bi (m8 f s3 Y t y w (λl H'=>l=k/\H'=t) I3 n ⟨k,tv,rfl,rfl⟩) λl s4 ⟨m,i,hk,hH⟩=>?_;subst hk;subst hH;cases l with
  |false=>exact ite_ff ⟨y,m,i,n,U y m P3 J3 N L T B⟩
  |true =>
   refine ite_tt (chain_last (bi (zK hc i N (G2.env.mono L T) (qU.base L T U)) λww s5 ⟨w',H5,P5,J5,x,S5,G,E⟩=>?_));exact o f Y H5 s5 P5 J5 S5 u w' uu ww d' x Q G.inv G.rel G2.val G.val (am.mono (L.trans G.same) (T.trans G.pre) _ _ G2.rep) G.rep (qU.base G.same G.pre E)
def GN (ho:gz X (Cs op) g)(zc:gz X (Cs E) g')(ha:PE X a (tD X fa))(hb:PE X b (tD X fb))(hc:PE X c (tD X fc))
  (hm:Xx [op,E] [b,c]=false:=by with_unfolding_all rfl):PT X (.Compare a [op,E] [b,c] ai) (oi X (bh (wM g g' fa fb fc))):=by
 intro aa s Y H Q I h;obtain⟨P,J,U,S,r,re,af⟩:=h;have o:qK X P J ((wM g g' fa fb fc U S).bind λd S1=>uE (xP d S1) S1) (xh X P J Q):=af;have L:(wM g g' fa fb fc U S).bind (λd S1=>uE (xP d S1) S1)=(fa U S).bind λx S1=>(fb U S1).bind λy j=>(g x y j).bind λz G =>
   match xP z G with
   |some Vq=>((fc U G).bind λw O=>g' y w O).bind λd S1=>uE (xP d S1) S1
   |some Yp=>.ok Yp G
   |none=>.bad:=by
  unfold wM;cases fa U S with
  |bad=>rfl
  |ex _ _ _=>rfl
  |ok x S1 =>
   show ax.bind (ax.bind (fb U S1) _) _=ax.bind (fb U S1) _;cases fb U S1 with
   |bad=>rfl
   |ex _ _ _=>rfl
   |ok y j =>
    show ax.bind (ax.bind (g x y j) _) _=ax.bind (g x y j) _;cases g x y j with
    |bad=>rfl
    |ex _ _ _=>rfl
    |ok z G =>
     show ax.bind (match xP z G with|some Vq=>(fc U G).bind λw O=>g' y w O|some Yp=>.ok z G|none=>.bad) _=_;cases A:xP z G with
     |none=>simp only[A,ax.bind]
     |some k=>cases k <;> simp only[A,ax.bind,uE]
 rw[L] at o;refine isTrue_chain (bi (zK ha I r re o) λvv s1 ⟨v,H1,P1,J1,d,S1,G1,i⟩=>test_link (bi (zK hb G1.inv G1.rel G1.env (yE.base G1.same G1.pre i)) λuu s2 ⟨u,H2,P2,J2,d',j,G2,n⟩ =>
  bi (iU ho G2.inv G2.rel G1.val G2.val (am.mono G2.same G2.pre _ _ G1.rep) G2.rep (yE.base G2.same G2.pre n)) λw s3 ⟨y,H3,P3,J3,z,G,I3,r3,T,zl,l,f,N⟩=>?_)) hm
 cases A:xP z G with
 |none=>simp only[A] at N;exact Am N
 |some k =>
  simp only[A] at N;have tv:=jM T zl A;refine bi (m8 aa s3 Y H3 y w (λk' H'=>k'=k/\H'=H3) I3 r3 ⟨k,tv,rfl,rfl⟩) λk' s4 ⟨H4,I4,hk,hH⟩=>?_;subst hk;subst hH;cases k' with
  |false=>exact ite_ff ⟨H4,I4,N H4 P3 J3 T l f⟩
  |true =>
   have zn:qK X P2 J2 ((fc U G).bind λw O=>(g' d' w O).bind λd S1=>uE (xP d S1) S1) (xh X P2 J2 Q):=by
    have e:((fc U G).bind λw O=>(g' d' w O).bind λd S1=>uE (xP d S1) S1)=(((fc U G).bind λw O=>g' d' w O).bind λd S1=>uE (xP d S1) S1):=by cases fc U G <;> rfl
    rw[e];exact N
   refine ite_tt (test_last (bi (zK hc I4 T (G2.env.mono l f) (yE.base l f zn)) λww s5 ⟨w',H5,P5,J5,d5,S5,B,t⟩ =>
    bi (iU zc B.inv B.rel G2.val B.val (am.mono (l.trans B.same) (f.trans B.pre) _ _ G2.rep) B.rep (yE.base B.same B.pre t)) λx6 s6 ⟨y6,H6,P6,J6,d6,S6,I6,r6,q,zo,e5,e6,m⟩=>?_))
   obtain⟨k6,q6,z6⟩:=sZ m;exact cL I6 q r6 zo q6 (z6 H6 P6 J6 q e5 e6)
def x5 (t:DT):DT:=λY S=>(t Y S).bind λb S1=>.ok (!b) S1
def yO (t u:DT):DT:=λY S=>(t Y S).bind λb S1=>if b then u Y S1 else .ok Yp S1
def w6 (t u:DT):DT:=λY S=>(t Y S).bind λb S1=>if b then .ok Vq S1 else u Y S1
def HM (L:PT X a (oi X ta)):PT X (.UnaryOp .Not a ai) (oi X (x5 ta)):=by intro y s Y H Q I h;obtain⟨P,J,l,S,r,E,z⟩:=h;refine isTrue_not (bi (gY (λT q=>L y s Y H T I q) r E z) λb o ⟨G,w,k,S1,A,j,N,O,B,U⟩=>⟨G,A,U G w k j O B⟩)
def ur (X:Cx)(e:Bl)(t:DT):Prop:=PW X e (oi X t)
def ur.pt (h:ur X e t):PT X e (oi X t):=h _
def NB (Y:PT X a (oi X ta)):ur X (.BoolOp .And [a] ai) ta:=SA Y
def HR (Y:PT X a (oi X ta)):ur X (.BoolOp .Or [a] ai) ta:=IU Y
def HQ {z:Ab Bl}(o:PT X a (oi X ta))(l:ur X (.BoolOp .And (b::z) ai) tb):ur X (.BoolOp .And (a::b::z) ai) (yO ta tb):=by
 intro y E s Y H Q I h;obtain⟨P,J,v,S,r,f,d⟩:=h;refine isTrue_and (bi (gY (λg q=>o E s Y H g I q) r f d) λk j ⟨N,L,w,S1,A,T,G,O,B,U⟩=>?_);cases k with
 |true=>exact l y E j Y N Q A ⟨L,w,v,S1,T,G,yE.base O B U⟩
 |false=>exact⟨N,A,U N L w T O B⟩
def qAI {z:Ab Bl}(o:PT X a (oi X ta))(l:ur X (.BoolOp .Or (b::z) ai) tb):ur X (.BoolOp .Or (a::b::z) ai) (w6 ta tb):=by
 intro y E s Y H Q I h;obtain⟨P,J,v,S,r,f,d⟩:=h;refine isTrue_or (bi (gY (λg q=>o E s Y H g I q) r f d) λk j ⟨N,L,w,S1,A,T,G,O,B,U⟩=>?_);cases k with
 |true=>exact⟨N,A,U N L w T O B⟩
 |false=>exact l y E j Y N Q A ⟨L,w,v,S1,T,G,yE.base O B U⟩
def jS (f g:DE):DE:=λY S=>(f Y S).bind λx S1=>match xP x S1 with
 |some Vq=>g Y S1
 |some Yp=>.ok x S1
 |none=>.bad
def WB (f:DE):DE:=λY S=>(f Y S).bind λx S1=>match xP x S1 with
 |some b=>.ok (.bl (!b)) S1
 |none=>.bad
def ER  (h:PE X a (tD X fa)):PE X (.BoolOp op [a] ai) (tD X fa):=IE h
def OL {R:Ar->Ai->Prop}(I:Inv X aa Y H s)(G:qR v vv)(t:XZ X.K v H k)(h:∀ s',Inv X aa Y H s'->R k s') :
  a8 X (truthy vv) R X.xe s:=bi (m8 aa s Y H v vv (λJ U=>J=k/\U=H) I G ⟨k,t,rfl,rfl⟩) λJ N ⟨T,O,B,L⟩=>by subst B;subst L;exact h N O
def EC {T:Ab Bl}(A:PE X a (tD X fa))(w:PE X (.BoolOp .And (b::T) ai) (tD X fb)):PE X (.BoolOp .And (a::b::T) ai) (tD X (jS fa fb)):=by
 intro q s Y H Q I h;obtain⟨P,J,j,S,r,y,z⟩:=h;refine BoolOp_and (bi (zK A I r y z) λvv o ⟨v,N,B,L,d,S1,G1,U⟩=>?_);cases G:xP d S1 with
 |none=>simp only[G] at U;exact Am U
 |some k =>
  simp only[G] at U;refine OL G1.inv G1.val (jM G1.rel G1.rep G) λE O=>?_;cases k with
  |true=>exact w q E Y N Q O ⟨B,L,j,S1,G1.rel,G1.env,qU.base G1.same G1.pre U⟩
  |false=>exact⟨v,N,O,G1.val,U v N B L G1.rel G1.same G1.pre G1.rep⟩
def EO (B:PE X a (tD X fa)):PE X (.UnaryOp .Not a ai) (tD X (WB fa)):=by
 intro y s Y H Q I h;obtain⟨P,J,z,S,r,L,E⟩:=h;refine UnaryOp_ (bi (zK B I r L E) λvv w ⟨v,N,T,A,d,S1,G1,U⟩=>?_);cases G:xP d S1 with
 |none=>simp only[G] at U;exact Am U
 |some k =>
  simp only[G] at U;exact not_of (OL G1.inv G1.val (jM G1.rel G1.rep G) λj O=>⟨.bl (!k),N,O,Z,U (.bl (!k)) N T A G1.rel G1.same G1.pre (by simp only[am])⟩)
def ny (t:DT)(f g:DE):DE:=λY S=>(t Y S).bind λb S1=>if b then f Y S1 else g Y S1
def qAA (d:PT X c (oi X ta))(y:PE X a (tD X fa))(g:PE X b (tD X fb)):PE X (.IfExp c a b ai) (tD X (ny ta fa fb)):=by
 intro N s Y H Q I h;obtain⟨P,J,E,S,r,l,v⟩:=h;refine wpAny_IfExp (bi (gY (λo q=>d N s Y H o I q) r l v) λk O ⟨T,w,j,S1,A,z,G,B,L,U⟩=>?_);cases k with
 |true=>exact y N O Y T Q A ⟨w,j,E,S1,z,G,qU.base B L U⟩
 |false=>exact g N O Y T Q A ⟨w,j,E,S1,z,G,qU.base B L U⟩
end
@[inline] noncomputable def ax.toS {β:Type}(ac:qG)(r:ax β)(k:β->ag->ja):ja:=
 match r with
 |.ok d S=>k d S
 |.ex c x S=>.ex c x ac S
 |.bad=>.bad
section
variable {X:Cx}{a b c e:Bl}{ai:Eb}{fa:DE}{ta:DT}{f g:DS}{st:Du}{aq:Ab Du}
def qS:DS:=λY S=>.nx Y S
def qE (f g:DS):DS:=λJ S=>match f J S with
 |.nx Y S1=>g Y S1
 |o=>o
def HF:kg X [] (jb X qS):=IQ ZX λD Y H ⟨P,J,N,S,r,G,U⟩=>U Y H P J r G (qP.refl _) (Bt _)
def N6 (B:PS X st (jb X f))(I:kg X aq (jb X g)):kg X (st::aq) (jb X (qE f g)):=IQ (o3 B I) λD Y H ⟨P,J,O,S,r,A,G⟩=>by
 refine⟨P,J,O,S,r,A,?_⟩;unfold qE at G;cases q:f O S with
 |nx U S1 =>
  rw[q] at G;exact λy j z w E N L T=>⟨z,w,U,S1,E,N,zI.base L T G⟩
 |rt d S1=>rw[q] at G;exact G
 |bk U S1=>rw[q] at G;exact G
 |ct U S1=>rw[q] at G;exact G
 |ex c x U S1=>rw[q] at G;exact G
 |bad=>rw[q] at G;exact G
def HG (Y:PS X st (jb X f)):kg X [st] (jb X f):=DY Y
def yM {β:Type}{P:Hp}{r:ax β}{k:β->ag->ja}{D:Ends}(h:zI X P J (r.toS ac k) D):qK X P J r λd S=>zI X P J (k d S) D:=by
 cases r with
 |ok d S=>exact h
 |ex c x S=>exact h
 |bad=>exact h
inductive H_ (X:Cx)(pins:J0)(Y : _L.St)(env:qG)(P:Hp)(J : Ab Af)(u:Ac)(s1:Ai)(k:D->ag->ja)(E:Ends):Prop
 |mk (v:V) (H1 P1:Hp) (J1:J9) (d:D) (S1:ag) (G:Got X pins Y env P J u s1 v H1 P1 J1 d S1) (q:zI X P1 J1 (k d S1) E):H_ X pins Y env P J u s1 k E
def gX {k:D->ag->ja}{H P:Hp}{ac:qG}{D:Ends}(E:PE X e (tD X fa))(I:Inv X aa Y H s)(r:bf X.K H P J S)
  (B:zH X.K P J Y ac) (T:zI X P J ((fa ac S).toS ac k) D) :
  a8 X (eval e X.env) (λu N=>H_ X aa Y ac P J u N k D) X.xe s:=by
 have U:qK X P J ((fa ac S).bind λd S=>.ok d S) λd S=>zI X P J (k d S) D:=by have:=yM T;cases q:fa ac S <;> rw[q] at this <;> exact this
 exact bi (zK E I r B U) λu N ⟨v,O,L,A,d,S1,G,q⟩=>⟨v,O,L,A,d,S1,G,zI.base G.same G.pre q⟩
def wD (f:DE):DS:=λY S=>(f Y S).toS Y λ_ S1=>.nx Y S1
def N7 (L:PE X e (tD X fa))(hs:Ly e Zt ai.line X.env=pure false:=by rfl):PS X (.Expr e ai) (jb X (wD fa)):=by intro w s Y H D I h;obtain⟨P,J,A,S,r,N,B⟩:=h;exact wpAny_Expr_any (bi (gX L I r N B) λv E ⟨x,U,O,T,d,S1,G,q⟩=>⟨Y,U,G.inv,q Y U O T G.rel G.env (qP.refl _) (Bt _)⟩) I.quiet hs
def qO (f:DE):DS:=λY S=>(f Y S).toS Y λd S1=>.rt d S1
def HI (L:PE X e (tD X fa)):PS X (.Return (Aa e) ai) (jb X (qO fa)):=by intro w s Y H D I h;obtain⟨P,J,A,S,r,N,B⟩:=h;exact wpAny_Return_some (bi (gX L I r N B) λv E ⟨x,U,O,T,d,S1,G,q⟩=>⟨x,Y,U,G.inv,G.val,q x U O T G.rel (qP.refl _) (Bt _) G.rep⟩)
def cu (t:DT)(f g:DS):DS:=λY S=>(t Y S).toS Y λb S1=>if b then f Y S1 else g Y S1
def qAH {as bs:Ab Du}(v:PT X c (oi X ta))(o:kg X as (jb X f))(l:kg X bs (jb X g)):PS X (.If c as bs ai) (jb X (cu ta f g)):=by
 intro B s Y H D I h;obtain⟨P,J,U,S,r,n,m⟩:=h;have O:qK X P J ((ta U S).bind λd S=>.ok d S) λb S=>zI X P J (if b then f U S else g U S) D:=by have:=yM m;cases q:ta U S <;> rw[q] at this <;> exact this
 refine wpAny_If (bi (gY (λt q=>v B s Y H t I q) r n O) λk L ⟨w,A,y,S1,z,j,G,T,E,N⟩=>?_);cases k with
 |true=>exact o B L Y w D z ⟨A,y,U,S1,j,G,zI.base T E N⟩
 |false=>exact l B L Y w D z ⟨A,y,U,S1,j,G,zI.base T E N⟩
abbrev DG:=D->qG->ag->ax qG
abbrev uk:=Ab D->qG->ag->ax qG
def zv (X:Cx)(P:Hp)(J : Ab Af)(Q:_L.St->Hp->Prop)(Y:qG)(B:ag):Prop:=∀ N O G U,bf X.K O G U B->zH X.K G U N Y->qP P G->J<+:U->Q N O
def rq (X:Cx)(g:DG):TG:=λv Y H Q=>∃ P J U S d,bf X.K H P J S/\zH X.K P J Y U/\am X.K P J d v/\qK X P J (g d U S) (zv X P J Q)
def oM (X:Cx)(g:uk):xg:=λN Y H Q=>∃ P J G S U,bf X.K H P J S/\zH X.K P J Y G/\qJ X.K P J U N/\qK X P J (g U G S) (zv X P J Q)
def zH.set {K:Ag}{P:Hp}(U:zH K P J Y ac)(i:Aj)(O:am K P J d v):zH K P J (Y.set i (Aa v)) (ac.set i (Aa d)):=by
 refine⟨by simp[U.1],λj B e=>?_⟩;by_cases N:i=j
 .subst N;by_cases G:i<ac.length
  .rw[Fn G] at e;cases e;exact⟨v,by rw[Fn (by rw[<- U.1];exact G)],O⟩
  .rw[Iy (by simp;fin2)] at e;cases e
 .rw[De N] at e ⊢;exact U.2 j B e
def be (i:Aj):DG:=λd Y S=>.ok (Y.set i (Aa d)) S
def N0 {i:Aj}(T:X.N.Nodup)(L:X.N[i]? = Aa x:=by rfl)(U:Loc X.env.scope x:=by first|exact Aa7 rfl|exact Zd rfl)(G:X.fn x=Vq\/X.env.scope.names.lookup x=Aa .local:=by first|exact .inl rfl|exact .inr rfl|assumption):PG X (.Name x ai) (rq X (be i)):=by intro B s Y H v u Q I N h;obtain⟨P,J,w,S,d,r,E,A,O⟩:=h;exact DN T L U G B s Y H v u Q I N (O _ H P J r (E.set i A) (qP.refl _) (Bt _))
def xD:uk:=λJ Y S=>match J with
 |[]=>.ok Y S
 |_=>.bad
def qY (g:DG)(G:uk):uk:=λJ U S=>match J with
 |d::r=>(g d U S).bind λY S1=>G r Y S1
 |[]=>.bad
def N1:wf X [] (oM X xD):=by
 intro T s Y H L us Q I B h;obtain⟨P,J,E,S,G,r,O,N,U⟩:=h;cases G with
 |nil=>exact DP T s Y H L us Q I B ⟨N.nil_inv,U Y H P J r O (qP.refl _) (Bt _)⟩
 |cons d G=>exact Am U
def GG {g:DG}(y:PG X e (rq X g))(l:wf X es (oM X A))(hs:(Gk (e::es) X.env).map (·.2)=assign e X.env::(Gk es X.env).map (·.2):=by rfl):wf X (e::es) (oM X (qY g A)):=by
 intro i s Y H vs us Q I m h;obtain⟨P,J,T,S,N,r,re,rp,z⟩:=h;cases N with
 |nil=>exact Am z
 |cons d N =>
  obtain⟨w,ws,rfl,p1,n⟩:=rp.cons_inv;refine BC y l hs i s Y H _ us Q I m ⟨w,ws,rfl,P,J,T,S,d,r,re,p1,?_⟩;have U:qK X P J ((g d T S).bind λG S1=>A N G S1) (zv X P J Q):=z;cases q:g d T S with
  |bad=>rw[q] at U;exact U
  |ex c x S'=>rw[q] at U;exact U
  |ok G S1 =>
   rw[q] at U;intro Y' H' P' J' o L O B;refine⟨P',J',G,S1,N,o,L,qJ.mono O B _ _ n,qK.base' O B (λj S' ok Y2 H2 k J2 t E e3 v=>ok Y2 H2 k J2 t E (O.trans e3) (B.trans v)) U⟩
def lc (n:Aj)(U:uk):DG:=λd J S=>match d with
 |.tup Y=>if Y.length=n then U Y J S else .bad
 |_=>.bad
set_option tactic.hygienic true in
def H9 {n:Aj}(T:X.calm=Vq)(h:wf X es (oM X N))(z:(Gk es X.env).length=n:=by rfl)(G:(Gk es X.env).findIdx? (·.1)=none:=by rfl):PG X (.Tuple es k ai) (rq X (lc n N)):=by
 intro o s Y H v u Q I B w;obtain⟨P,J,j,S,d,r,y,O,U⟩:=w;cases d with
 |tup L =>
  simp only[am] at O;obtain⟨a,A,rfl,q,t⟩:=O;simp only[lc] at U;split at U
  .rename_i E;exact IH T h z G o s Y H _ u Q I B ⟨a,A,Z,wB r.sub q,by rw[<- t.length];exact E,P,J,j,S,L,r,y,t,U⟩
  .exact Am U
 |_=>exact Am U
abbrev G3:=D->D->D->ag->ax Nq
def OkU (X:Cx)(P:Hp)(J : Ab Af)(Q:Hp->Prop)(_:Nq)(N:ag):Prop:=∀ U G Y,bf X.K U G Y N->qP P G->J<+:Y->Q U
def cK (X:Cx)(g:G3):RK:=λo i v H Q=>∃ P J S a b d,bf X.K H P J S/\am X.K P J a o/\am X.K P J b i/\am X.K P J d v/\qK X P J (g a b d S) (OkU X P J Q)
def yz (G fi:DE)(g:G3):DG:=λd Y S=>(G Y S).bind λo S1=>(fi Y S1).bind λi J=>(g o i d J).bind λ_ U=>.ok Y U
def H8 {l fi:DE}{g:G3}(ho:PE X o (tD X l))(hi:PE X i (tD X fi))(hs:cP X (cK X g))
  (ha:∀ v,assign (.Subscript o i ai) X.env v=(do
   let G <- holding [v] (eval o X.env);let N <- holding [v,G] (eval i X.env)
   Lx ai
   holding [v,G,N] (setItem G N v)
   release [v,G,N] []):=by intro _;rfl):PG X (.Subscript o i ai) (rq X (yz l fi g)):=by
 intro aa s Y H v u Q I rv h;obtain⟨P,J,ac,S,d,r,re,rp,af⟩:=h;rw[ha];refine Ad (Dc (bi (zK ho I r re af) λG s1 ⟨x,H1,m,J1,d1,S1,G1,O⟩=>?_));refine Ad (Dc (bi (zK hi G1.inv G1.rel G1.env (P:=m) (J:=J1) (Ok:=zv X m J1 Q) (qK.base' G1.same G1.pre (λn S' ok Y2 T L A r2 E e3 e4=>ok Y2 T L A r2 E (G1.same.trans e3) (G1.pre.trans e4)) O)) λN s2 ⟨y,T,L,A,d2,t,G2,U⟩=>?_));refine Ad (Hk (Ad (Dc (bi (hs aa s2 Y T x y v G N u (λB=>Q Y B) G2.inv G1.val G2.val rv ⟨L,A,t,d1,d2,d,G2.rel,am.mono G2.same G2.pre _ _ G1.rep,G2.rep,am.mono (G1.same.trans G2.same) (G1.pre.trans G2.pre) _ _ rp,?_⟩) λ_ s3 ⟨B,I3,q3⟩=>?_))))
 .cases q:g d1 d2 d t with
  |bad=>rw[q] at U;exact U
  |ex c x S'=>rw[q] at U;exact λu s' z=>U u s' (z.base G2.same G2.pre)
  |ok w S3 =>
   rw[q] at U;exact λH' P' J' r' j k=>U Y H' P' J' r' (G2.env.mono j k) (G2.same.trans j) (G2.pre.trans k)
 .exact wpAny_release ⟨Y,B,I3,q3⟩
def qV (f:DE)(g:DG):DS:=λJ S=>(f J S).toS J λd S1=>(g d J S1).toS J λY U=>.nx Y U
def V1 {g:DG}{P:Hp}{G:Ends}(h:zI X P J ((g d ac S).toS ac λY N=>.nx Y N) G):qK X P J (g d ac S) (zv X P J G.nx):=by
 cases q:g d ac S with
 |bad=>rw[q] at h;exact h
 |ex c x O=>rw[q] at h;exact h
 |ok U S1=>rw[q] at h;exact h
def HC {g:DG}(T:PE X e (tD X fa))(E:PG X tg (rq X g))(hs:Ie [tg] e ai.line X.env=pure false:=by rfl)(hw:Ic [tg] e X.env=pure none:=by rfl)
  (U:(Gk [tg] X.env).map (·.2)=[assign tg X.env]:=by rfl):PS X (.Assign [tg] e ai) (jb X (qV fa g)):=by
 intro z s Y H D I h;obtain⟨P,J,A,S,r,w,L⟩:=h;refine wpAny_Assign_stores (bi (gX T I r w L) λv N ⟨x,B,O,j,d,S1,G,q⟩=>?_) hs hw;rw[U];exact bi (E z N Y B x v _ G.inv G.val ⟨O,j,A,S1,d,G.rel,G.env,G.rep,V1 q⟩) λ_ y q=>q
def HJ {i:Aj}(z:X.N.Nodup)(k:PE X e (tD X fa))(A:X.N[i]? = Aa x:=by rfl)(O:Loc X.env.scope x:=by first|exact Aa7 rfl|exact Zd rfl)(hs:Ly e (Aa (.Name x N)) ai.line X.env=pure false:=by rfl)
  (B:X.fn x=Vq\/X.env.scope.names.lookup x=Aa .local:=by first|exact .inl rfl|exact .inr rfl|assumption):PS X (.Assign [.Name x N] e ai) (jb X (qV fa (be i))):=by
 intro l s Y H D I h;obtain⟨P,J,t,S,r,j,T⟩:=h;refine wpAny_Assign_Name (bi (gX k I r j T) λv o ⟨y,U,L,E,d,S1,G,q⟩=>?_) hs;exact yL G.inv z A O G.val (λm w=>⟨_,U,w,q _ U L E G.rel (G.env.set i G.rep) (qP.refl _) (Bt _)⟩) B
noncomputable def JC (i j:Aj)(ac:qG)(S1:ag):Ab D->ja
 |[x,y]=>.nx ((ac.set i (Aa x)).set j (Aa y)) S1
 |_=>.bad
def gG (i j:Aj)(f:DA):DS:=λY S=>(f Y S).toS Y λJ S1=>JC i j Y S1 J
def HH {i j:Aj}{f:DA}{L E B:Eb}{kt k2 pt2}(hc:X.calm=Vq) (o:X.N.Nodup) (l:PA X [a,b] (kh X f)) (hi:X.N[i]? = Aa x:=by rfl) (hj:X.N[j]? = Aa y:=by rfl) (O:i≠j:=by decide)
  (k:X.env.scope.names.lookup x=Aa .local:=by rfl) (s:X.env.scope.names.lookup y=Aa .local:=by rfl)
  (hw:Ic [.Tuple [.Name x L,.Name y E] kt B] (.Tuple [a,b] k2 pt2) X.env=pure (Aa [x,y]):=by rfl)
  (hs:Ie [.Tuple [.Name x L,.Name y E] kt B] (.Tuple [a,b] k2 pt2) ai.line X.env=pure false:=by rfl) :
  PS X (.Assign [.Tuple [.Name x L,.Name y E] kt B] (.Tuple [a,b] k2 pt2) ai) (jb X (gG i j f)):=_R (IP hc o hi hj O k s l hw hs) λD Y H ⟨P,J,T,S,r,z,af⟩=>by
 refine⟨P,J,T,S,r,z,?_⟩;have U:=yM af;cases q:f T S with
 |bad=>rw[q] at U;exact U
 |ex c x S'=>rw[q] at U;exact U
 |ok N S1 =>
  rw[q] at U;intro vs H' P' J' v I A h;have G:zI X P J (JC i j T S1 N) D:=U;cases N with
  |nil=>exact Am G
  |cons d N=>cases N with
   |nil=>exact Am G
   |cons d' N=>cases N with
    |cons _ _=>exact Am G
    |nil =>
     obtain⟨w,ws,rfl,p1,t⟩:=h.cons_inv;obtain⟨n,m,rfl,p2,t⟩:=t.cons_inv;rw[t.nil_inv];exact⟨w,n,rfl,G _ _ P' J' v (((z.mono I A).set i p1).set j p2) I A⟩
end
structure wj (K:Ag)(Jww:It)(P:Hp)(J : Ab Af)(ds:Ab D):Prop where
 go:∀ i H P1 J1 S,i<ds.length->bf K H P1 J1 S->qP P P1->J<+:J1->Jww.go i H
 yld:∀ i H x H' P1 J1 S,i<ds.length->bf K H P1 J1 S->qP P P1->J<+:J1->Jww.yld i H x H'->∃ P2 d,ds[i]? = Aa d/\bf K H' P2 J1 S/\qP P1 P2/\am K P2 J1 d x
 stop:∀ i H P1 J1 S,ds.length<=i->bf K H P1 J1 S->qP P P1->J<+:J1->Jww.stop i H
abbrev DI:=qG->ag->ax (Ab D)
def yd (X:Cx)(P:Hp)(J : Ab Af)(R:It->Hp->Prop)(ds:Ab D)(O:ag):Prop:=∀ G N U Y,bf X.K N U Y O->qP P U->J<+:Y->wj X.K G U Y ds->R G N
inductive u_ (X:Cx)(f:DI)(Y : _L.St)(H:Hp)(R:It->Hp->Prop):Prop
 |mk (P:Hp) (J : Ab Af) (env:qG) (S:ag) (r:bf X.K H P J S) (re:zH X.K P J Y env) (af:qK X P J (f env S) (yd X P J R)):u_ X f Y H R
def vJ {β:Type}(o:Al β)(S:ag):ax β:=match o with
 |some b=>.ok b S
 |none=>.bad
def vN {X:Cx}{β:Type}{o:Al β}{P:Hp}{Ok:β->ag->Prop}(h:qK X P J (vJ o S) Ok):∃ b,o=Aa b/\Ok b S:=by
 cases o with
 |none=>exact Am h
 |some b=>exact⟨b,rfl,h⟩
def x3 {X:Cx}{β:Type}{c:Prop}[Jf c]{r:ax β}{P:Hp}{J : Ab Af}{Ok:β->ag->Prop}(h:qK X P J (if c then r else .bad) Ok):c/\qK X P J r Ok:=by
 by_cases z:c
 .rw[Au z] at h;exact⟨z,h⟩
 .rw[AT z] at h;exact Am h
def iT {X:Cx}{β:Type}{g:D->ax β}{P:Hp}{Ok:β->ag->Prop}(h:qK X P J (match ds with|[d]=>g d|_=>.bad) Ok):∃ d,ds=[d]/\qK X P J (g d) Ok:=by
 cases ds with
 |nil=>exact Am h
 |cons d ds =>
  cases ds with
  |nil=>exact⟨d,rfl,h⟩
  |cons _ _=>exact Am h
def sM {β:Type}{i:Aj}{f:Ab D->Al β}{g:Ab (ku × D)->Al β}{b:β}(h:(match S[i]? with|some (.lst xs)=>f xs|some (.dct Y)=>g Y|_=>Zt)=Aa b):(∃ xs,S[i]? = Aa (.lst xs)/\f xs=Aa b)\/∃ Y,S[i]? = Aa (.dct Y)/\g Y=Aa b:=by
 cases e:S[i]? with
 |none=>rw[e] at h;exact nn h
 |some m =>
  rw[e] at h;cases m with
  |lst xs=>exact .inl ⟨xs,rfl,h⟩
  |dct Y=>exact .inr ⟨Y,rfl,h⟩
  |_=>exact nn h
def A0 {β:Type}{i:Aj}{f:Ab D->Al β}{b:β}(h:(match S[i]? with|some (.lst xs)=>f xs|_=>Zt)=Aa b):∃ xs,S[i]? = Aa (.lst xs)/\f xs=Aa b:=by
 cases e:S[i]? with
 |none=>rw[e] at h;exact nn h
 |some m =>
  rw[e] at h;cases m with
  |lst xs=>exact⟨xs,rfl,h⟩
  |_=>exact nn h
inductive _E (d:D)(xs:Ab D):Prop
 |tup (e:d=.tup xs)
 |lst (e:d=.lst xs)
noncomputable def MG {β:Type}(S:ag)(n:Aj)(f:Ab D->ax β) : ax β:=match S[n]? with
 |some (.lst Y)=>f Y
 |_=>.bad
def bE {X:Cx}{β:Type}{f:Ab D->ax β}{P:Hp}{Ok:β->ag->Prop}(h:qK X P J (MG S n f) Ok):∃ xs,S[n]? = Aa (.lst xs)/\qK X P J (f xs) Ok:=by
 unfold MG at h;cases e:S[n]? with
 |none=>rw[e] at h;exact Am h
 |some m =>
  rw[e] at h;cases m with
  |lst xs=>exact⟨xs,rfl,h⟩
  |_=>exact Am h
def x9:D->Al (Ab D)
 |.tup Y=>Aa Y
 |.lst Y=>Aa Y
 |_=>Zt
def W_ (h:x9 d=Aa xs):_E d xs:=by
 cases d with
 |tup Y=>exact .tup (congrArg D.tup (Cw h))
 |lst Y=>exact .lst (congrArg D.lst (Cw h))
 |_=>exact nn h
def u0 (f:DE):DI:=λY S=>(f Y S).bind λd S1=>vJ (x9 d) S1
section
variable {X:Cx}{K:Ag}{tg e:Bl}{fa:DE}
def PF {P:Hp}(q:kr K P a vs)(t:qJ K P J ds vs):wj K (_C K a) P J ds where
 go:=λi H U N S Y r e _=>⟨vs,vs[i]'(by rw[<- t.length];exact Y),(e.trans r.sub).seq q,by simp⟩
 yld:=λi H x T U N S Y r e B y=>by obtain⟨rfl,y⟩:=y;have O:=y vs ((e.trans r.sub).seq q);obtain⟨v,G,L⟩:=t.get (Bd Y);rw[O] at G;cases G;exact⟨U,_,Bd Y,r,qP.refl _,am.mono e B _ _ L⟩
 stop:=λi H U N S Y r e _=>⟨vs,(e.trans r.sub).seq q,by rw[<- t.length];exact Y⟩
def L7 {P:Hp}(q:j_ K P a vs)(t:qJ K P J ds vs):wj K (Itt K a) P J ds where
 go:=λi H U N S Y r e _=>⟨vs,vs[i]'(by rw[<- t.length];exact Y),vL (e.trans r.sub) q,by simp⟩
 yld:=λi H x T U N S Y r e B y=>by obtain⟨rfl,y⟩:=y;have O:=y vs (vL (e.trans r.sub) q);obtain⟨v,G,L⟩:=t.get (Bd Y);rw[O] at G;cases G;exact⟨U,_,Bd Y,r,qP.refl _,am.mono e B _ _ L⟩
 stop:=λi H U N S Y r e _=>⟨vs,vL (e.trans r.sub) q,by rw[<- t.length];exact Y⟩
def i6 {H P:Hp}(I:Inv X aa Y H s)(r:bf X.K H P J S)(G:qR v vv)(U:am X.K P J d v)(O:x9 d=Aa ds)
  (q:yd X P J R ds S):a8 X (Pe vv) (yc X aa Y tg R) X.xe s:=by
 cases d with
 |tup L =>
  cases O;simp only[am] at U;obtain⟨a,E,rfl,sq,t⟩:=U;cases G;obtain⟨B,G,p,T⟩:=I.tuple (wB r.sub sq);refine Iw (show s.heap.IsTuple a B.toArray from p) ?_;refine⟨s.heap.objs.size,[s.heap.objs.size],_,_,H,Z,I.kept (t':=s.toks) λb o e=>Ak _ e,YT a _,⟨_,Be _ Z,Z,Z⟩,λb N=>?_,q _ _ P J r (qP.refl _) (Bt _) (L7 sq t)⟩;have e:b=s.heap.objs.size:=by simpa using N
  subst e;exact I.fpOk (Ax _) (I.hok.fresh (Ax _))
 |lst L =>
  cases O;simp only[am] at U;obtain⟨a,E,rfl,sq,t⟩:=U;cases G;obtain⟨B,G,p,T⟩:=I.list ((xX r.sub sq).l);refine Gu p.isList ?_;refine⟨s.heap.objs.size,[s.heap.objs.size],_,_,H,rfl,I.kept (t':=s.toks) λb o e=>Ak _ e,hJ a _,⟨_,Be _ rfl,rfl,rfl⟩,λb N=>?_,q _ _ P J r (qP.refl _) (Bt _) (PF sq.l t)⟩;have e:b=s.heap.objs.size:=by simpa using N
  subst e;exact I.fpOk (Ax _) (I.hok.fresh (Ax _))
 |_=>cases O
def yd.base {P P1:Hp}{J J1:J9}(e:qP P P1)(h:J<+:J1)(k:yd X P J R ds S):yd X P1 J1 R ds S:=λO B L Y r N U G=>k O B L Y r (e.trans N) (h.trans U) G
def HA (N:PE X e (tD X fa)):PI X tg e (u_ X (u0 fa)):=by intro z s Y H R I h;obtain⟨P,J,E,S,r,O,B⟩:=h;refine bi (zK N I r O B) λvv L ⟨v,T,A,j,d,S1,G1,U⟩=>?_;obtain⟨w,G,q⟩:=vN U;exact i6 G1.inv G1.rel G1.val G1.rep G (q.base G1.same G1.pre)
noncomputable def yJ (lo:Aq)(n:Aj):Ab D:=(Ch n).map λ(i:Aj)=>D.int (lo+(i:Aq))
def bH (lo:Aq)(n:Aj):(yJ lo n).length=n:=by simp[yJ]
def eF {P:Hp}{lo:Aq}:wj K (E_ lo n) P J (yJ lo n) where
 go:=λi H U G S Y r e _=>by rw[bH] at Y;exact Y
 yld:=λi H x O U G S Y r e N y=>by obtain⟨rfl,rfl⟩:=y;rw[bH] at Y;exact⟨U,.int (lo+i),by simp[yJ,Y],r,qP.refl _,by simp only[am]⟩
 stop:=λi H U G S Y r e _=>by rw[bH] at Y;exact Y
def m4 (ds:Ab D):Al (Ab D):=match ds with
 |[.int j]=>if -(2 ^ 62)<=j/\j<2 ^ 62 then Aa (yJ 0 j.toNat) else Zt
 |[.int i,.int j]=>if -(2 ^ 62)<=i/\i<2 ^ 62 /\ -(2 ^ 62)<=j/\j<2 ^ 62 then Aa (yJ i (j-i).toNat) else Zt
 |_=>Zt
def u4 (f:DA):DI:=λJ S=>(f J S).bind λY S1=>vJ (m4 Y) S1
def Z2:D->Al Aq
 |.int i=>Aa i
 |_=>Zt
def tJ (h:Z2 d=Aa i):d=.int i:=by
 cases d with
 |int k=>exact congrArg D.int (Cw h)
 |_=>exact nn h
inductive ya:Ab D->Ab D->Prop
 |one (j:Aq) (h : -(2 ^ 62)<=j/\j<2 ^ 62):ya [.int j] (yJ 0 j.toNat)
 |two (i j:Aq) (h : -(2 ^ 62)<=i/\i<2 ^ 62 /\ -(2 ^ 62)<=j/\j<2 ^ 62):ya [.int i,.int j] (yJ i (j-i).toNat)
def qA5 (d:D):m4 [d]=(Z2 d).bind λj=>if -(2 ^ 62)<=j/\j<2 ^ 62 then Aa (yJ 0 j.toNat) else none:=by cases d <;> rfl
def qA6 (d d':D):m4 [d,d']=(Z2 d).bind λi=>(Z2 d').bind λj=>if -(2 ^ 62)<=i/\i<2 ^ 62 /\ -(2 ^ 62)<=j/\j<2 ^ 62 then Aa (yJ i (j-i).toNat) else none:=by
 cases d with
 |int i=>cases d' <;> rfl
 |_=>rfl
def SL (h:m4 ds=Aa ah):ya ds ah:=by
 cases ds with
 |nil=>exact nn h
 |cons d ds =>
  cases ds with
  |nil =>
   obtain⟨j,e,h⟩:=Ej.mp ((qA5 d).symm.trans h);obtain⟨c,rfl⟩:=jX h;rw[tJ e];exact .one j c
  |cons J ds =>
   cases ds with
   |nil =>
    obtain⟨i,e,h⟩:=Ej.mp ((qA6 d J).symm.trans h);obtain⟨j,U,h⟩:=Ej.mp h;obtain⟨c,rfl⟩:=jX h;rw[tJ e,tJ U];exact .two i j c
   |cons _ _ =>
    have G:∀ Y t,m4 (d::J::Y::t)=none:=λY t=>by cases d <;> first|rfl|(cases J <;> rfl)
    exact nn ((G _ _).symm.trans h)
def sY {P:Hp}{ds:Ab D}(r:qJ K P J (.int i::ds) vs):∃ ws,vs=.int i::ws/\qJ K P J ds ws:=by obtain⟨w,ws,rfl,p,t⟩:=r.cons_inv;exact⟨ws,congrArg (· :: ws) (by simpa only [am] using p),t⟩
def PI.weak {t t':TI}(h:PI X tg iter t)(w:∀ Y H R,t' Y H R->t Y H R):PI X tg iter t':=λJ s Y H R I q=>h J s Y H R I (w Y H R q)
end
section
variable {X:Cx}{tg:Bl}{f:DA}{p ai:Eb}
def GH {e:Bl}{es:Ab Bl}(x:Gl X "range")(hm:X.mg "range" = Zt)(v:PA X (e::es) (kh X f))(hs:Bc (e::es) X.env=(Yp,eval e X.env)::Bc es X.env:=by rfl)(U:(Eu ai (Bc es X.env)).any (·.1)=false:=by rfl) :
  PI X tg (.Call (.Name "range" p) (e::es) [] ai) (u_ X (u4 f)):=by
 intro aa s Y H R I h;obtain⟨P,J,ac,S,r,re,o⟩:=h;refine Call_ (uW I x hm boot_range (Gq (bi (wN v I r re o ai) λus s1 ⟨vs,L,E,A,ds,S1,y,T,k,d,w,O,B,G⟩=>?_) hs U));obtain⟨ah,l,q⟩:=vN G;cases SL l with
 |one j c =>
  obtain⟨m,rfl,N⟩:=sY w;cases N.nil_inv;obtain⟨u,rfl,t,rfl⟩:=jJ T;refine call_range_1 (o7 y om om c.1 c.2 ?_);have z:=q (E_ 0 j.toNat) L E A k O B eF;rw[Int.sub_zero];exact z
 |two i j c =>
  obtain⟨m,rfl,N⟩:=sY w;obtain⟨g,rfl,n⟩:=sY N;cases n.nil_inv;obtain⟨u,u',rfl,⟨t,rfl⟩,t',rfl⟩:=MP T;exact call_range_2 (o7 y c.1 c.2.1 c.2.2.1 c.2.2.2 (q (E_ i (j-i).toNat) L E A k O B eF))
noncomputable def kR (g:DG)(f:DS):Ab D->qG->ag->ja
 |[],G,S=>.nx G S
 |d::N,G,S=>(g d G S).toS G λU S1=>match f U S1 with
  |.nx Y J=>kR g f N Y J
  |.ct Y J=>kR g f N Y J
  |.bk Y J=>.nx Y J
  |o=>o
def gF (fi:DI)(g:DG)(f:DS):DS:=λY S=>(fi Y S).toS Y λJ S1=>kR g f J Y S1
inductive ui (X:Cx)(P1:Hp)(J1:J9)(g:DG)(f:DS)(ds:Ab D)(D:Ends)(i m:Aj)(Y : _L.St)(H:Hp):Prop
 |mk (hi:i<=ds.length) (hm:m=ds.length-i) (P2:Hp) (J2:J9) (env2:qG) (S2:ag) (r:bf X.K H P2 J2 S2) (re:zH X.K P2 J2 Y env2) (e1:qP P1 P2) (e2:J1<+:J2) (af:zI X P2 J2 (kR g f (ds.drop i) env2 S2) D):ui X P1 J1 g f ds D i m Y H
def HE {f:DS}(hp:Us (As X.prog X.w) X.A X.env X.xe)(hc:X.calm=Vq)(hi:PI X tg iter (u_ X fi))(hg:PG X tg (rq X g))(hb:kg X er (jb X f))
  (hs:∀ x,Gs iter X.env x=pure x:=by intro _;rfl):PS X (.For tg iter er [] ai) (jb X (gF fi g f)):=_R (IM hp hc hi hg hb hs) λD Y H ⟨P,J,ac,S,r,re,af⟩=>by
 refine⟨P,J,ac,S,r,re,?_⟩;have N:=yM af;cases q:fi ac S with
 |bad=>rw[q] at N;exact N
 |ex c x S'=>rw[q] at N;exact N
 |ok T S1 =>
  rw[q] at N;have zc:zI X P J (kR g f T ac S1) D:=N;intro ci H1 P1 J1 r1 e1 e2 it;refine⟨ui X P1 J1 g f T D,
   ⟨T.length,Fi _,Z,P1,J1,ac,S1,r1,re.mono e1 e2,qP.refl _,Bt _,zI.base e1 e2 zc⟩,?_⟩
  rintro i m Y2 H2 ⟨hi,rfl,P2,t,E,l,h,s,v,n,L⟩;by_cases O:i<T.length
  .refine .inr ⟨it.go i H2 P2 t l O h v n,ui X P1 J1 g f T D (i+1) (T.length-(i+1)),λY' H' w=>⟨_,?_,w⟩,λx H3 y=>?_⟩
   .omega
   .obtain⟨P3,d,hd,r3,e5,rp⟩:=it.yld i H2 x H3 P2 t l O h v n y;have A:T.drop i=d::T.drop (i+1):=by
     rw[Rl O];rw[Bd O] at hd;rw[Cw hd]
    rw[A] at L;have B:=yM (zI.base e5 (Bt _) L);refine⟨P3,t,E,l,d,r3,s.mono e5 (Bt _),rp,?_⟩;cases q2:g d E l with
    |bad=>rw[q2] at B;exact B
    |ex c x S'=>rw[q2] at B;exact B
    |ok I S3 =>
     rw[q2] at B;intro Y4 H4 P4 J4 r4 zl e6 e7;refine⟨P4,J4,I,S3,r4,zl,?_⟩;have U:=zI.base e6 e7 B;cases j:f I S3 with
     |bad=>simp only[j] at U;exact U
     |ex c x G k=>simp only[j] at U;exact U
     |rt d4 k=>simp only[j] at U;exact U
     |bk G k=>simp only[j] at U;exact U
     |nx G k =>
      simp only[j] at U;exact λY5 H5 P5 J5 r5 z o e=>⟨O,Z,P5,J5,G,k,r5,z,((v.trans e5).trans e6).trans o,(n.trans e7).trans e,zI.base o e U⟩
     |ct G k =>
      simp only[j] at U;exact λY5 H5 P5 J5 r5 z o e=>⟨O,Z,P5,J5,G,k,r5,z,((v.trans e5).trans e6).trans o,(n.trans e7).trans e,zI.base o e U⟩
  .have A:T.drop i=[]:=TD om;rw[A] at L;exact .inl ⟨it.stop i H2 P2 t l om h v n,L Y2 H2 P2 t h s (qP.refl _) (Bt _)⟩
end
abbrev DF:=Ab D->ag->ax D
section
variable {X:Cx}{x:Ah}{p ai:Eb}{e:Bl}{es:Ab Bl}{F:DF}{fa:DA}
def qH (F:DF)(fa:DA):DE:=λJ S=>(fa J S).bind λY S1=>F Y S1
def rO {U P P1:Hp}{J J1:J9}{ds:Ab D}(T:wI X u F)(E:Inv X aa Y U G)(L:bf X.K U P1 J1 S1)(N:qQ vs us)
  (B:qJ X.K P1 J1 ds vs) (e1:qP P P1) (e2:J<+:J1) (O:qK X P J (F ds S1) (gy X P J Q)):a8 X (call u us) (EP X aa Y Q) X.xe G:=T aa Y U G P1 J1 S1 vs us ds Q E L N B (qU.base e1 e2 O)
def G9 {id:Em}(y:wI X (.builtin id) F)(E:Gl X x)(hm:X.mg x=Zt)(hv:Gc x=Aa (.builtin id))(T:PA X (e::es) (kh X fa))(o:x ≠ "__name__":=by decide)(N:(x == ("__debug__" : Ah))=false:=by decide)
  (q:Bc (e::es) X.env=(Yp,eval e X.env)::Bc es X.env:=by rfl) (G:(Eu ai (Bc es X.env)).any (·.1)=false:=by rfl):PE X (.Call (.Name x p) (e::es) [] ai) (tD X (qH F fa)):=by
 intro m s Y H Q I h;obtain⟨P,J,d,S,r,A,k⟩:=h;refine Hr (uW I E hm hv ?_ o N);exact On (bi (wN T I r A k ai) λus g ⟨f,c,v,n,t,S1,z,j,l,O,w,B,L,U⟩=>rO y z l j w B L U) q G
def VD (k:wI X (.type T) F)(A:Gl X x)(hm:X.mg x=Zt)(hv:Gc x=Aa (.type T))(E:PA X (e::es) (kh X fa))(l:x ≠ "__name__":=by decide)(N:(x == ("__debug__" : Ah))=false:=by decide)
  (o:Bc (e::es) X.env=(Yp,eval e X.env)::Bc es X.env:=by rfl) (G:(Eu ai (Bc es X.env)).any (·.1)=false:=by rfl):PE X (.Call (.Name x p) (e::es) [] ai) (tD X (qH F fa)):=by
 intro n s Y H Q I h;obtain⟨P,J,v,S,r,w,q⟩:=h;refine Hr (uW I A hm hv ?_ l N);exact Gq (bi (wN E I r w q ai) λus c ⟨t,d,f,i,m,S1,j,y,g,O,z,B,L,U⟩=>rO k j g y z B L U) o G
end
def zR.there {P:Ba}(x:zR P w H h a o):∃ J,h.get? a=Aa J:=by
 cases o with
 |lst U=>obtain⟨_,_,_,_,e⟩:=x;exact⟨_,e⟩
 |tup U=>obtain⟨_,_,_,J,e,_⟩:=x;exact⟨_,e⟩
 |dK Y=>obtain⟨_,_,_,_,o,_,_,e,_⟩:=x;exact⟨_,e⟩
 |dT Y=>obtain⟨_,_,_,_,o,_,_,e,_⟩:=x;exact⟨_,e⟩
 |set S n=>obtain⟨o,_,_,_,e,_⟩:=x;exact⟨_,e⟩
 |ins C N G=>obtain⟨_,_,_,e,_⟩:=x;exact⟨_,e⟩
 |own y=>obtain⟨_,e⟩:=x;exact⟨_,e⟩
 |xd G=>obtain⟨_,⟨_,_,_,e,_⟩,_⟩:=x;exact⟨_,e⟩
 |rng lo B=>obtain⟨_,_,_,e⟩:=x;exact⟨_,e⟩
 |frz J u=>obtain⟨e,_⟩:=x;exact⟨_,e⟩
 |tbl O=>exact⟨_,show h.get? a=Aa _ from x⟩
 |met f y=>exact⟨_,show h.get? a=Aa _ from x⟩
 |ext φ => obtain⟨_,e,_⟩:=x;exact e
section
variable {X:Cx}{aa:J0}{Y: _L.St}{H:Hp}{s:Ai}{B h':Bb}
abbrev Fn1 (X:Cx):Prop:=X.ex=[]/\X.stack=X.env::X.outer/\X.env.frame=Aa X.env.locals
def Fn1.mem (F:Fn1 X){b:Af}:b∈gv X.stack↔b=X.env.locals\/b∈X.fs:=by rw[F.2.1];unfold gv;rw[Gw,F.2.2];exact Ay
def pe.there (I:Inv X aa Y H s)(F:Fn1 X){b:Af}(o:pe X aa H b):∃ J,s.heap.get? b=Aa J:=by
 rcases o with⟨o,e,_⟩|e|⟨p,U,rfl⟩|⟨x,e⟩
 .exact I.base.there b o e (by rw[F.1];simp)
 .cases q:H b with
  |none=>exact absurd q e
  |some u=>exact zR.there (I.hok b u q)
 .exact⟨_,(I.pin p U).1⟩
 .obtain⟨v,J,G,_⟩:=I.cell x b e;exact⟨J,G⟩
def Inv.fly (I:Inv X aa Y H s)(F:Fn1 X)(cv:Cv X aa H B s.heap)(st:B.StaysIn h')(up:s.heap.UpToSlots h'):Inv X aa Y H { s with heap:=h' } /\ Cv X aa H B h':=by
 have T:∀ b o,s.heap.get? b=Aa o->pe X aa H b->b ∉ gv X.stack->h'.get? b=Aa o:=λb o e q n=>st b o (cv b o e q n);have g:∀ b o,X.s₀.heap.get? b=Aa o->b≠X.env.locals:=λb o e=>Cn (Bo (Bh e) I.ok.above);have L:∀ b o,X.s₀.heap.get? b=Aa o->b ∉ X.fs->b ∉ gv X.stack:=λb o e n z=>(F.mem.mp z).elim (g b o e) n;have nx:∀ b,b ∉ X.ex:=λb=>by rw[F.1];simp
 have O:∀ b,b∈gv X.stack->∀ o,s.heap.get? b=Aa o->∃ sl,h'.get? b=Aa { o with slots:=sl }:=λb hb o e=>by obtain⟨_,j,f,E⟩:=I.stack.mem hb;rw[e] at f;cases f;exact up b o e E
 have J:∀ x c,X.env.cells.lookup x=Aa c->∀ v,s.heap.IsCell c v->h'.IsCell c v:=λx c e v ⟨o,ho,t⟩=>by
  obtain⟨sl,q⟩:=up c o ho λvs z=>by rw[t] at z;cases z
  exact⟨_,q,t⟩
 refine⟨⟨I.ok,I.os,I.bare,⟨λb o e n hb N=>?_,λb o e n hb N=>?_,I.base.free,λb o e N=>?_,I.base.tups,I.base.frzs,I.base.tbls⟩,?_,λx c e=>?_,I.free,I.freeC,λp hp=>?_,λa o e=>?_,I.len⟩,λb o e q n=>?_⟩
 .exact T b o (I.base.keep b o e n hb N) (.inl ⟨o,e,N⟩) (L b o e hb)
 .obtain⟨sl,U⟩:=I.base.slot b o e n hb N;obtain⟨y,G⟩:=O b (F.mem.mpr (.inr hb)) _ U;exact⟨y,G⟩
 .obtain⟨j,U⟩:=I.base.there b o e N;by_cases hb:b∈gv X.stack
  .obtain⟨sl,G⟩:=O b hb _ U;exact⟨_,G⟩
  .exact⟨j,T b j U (.inl ⟨o,e,N⟩) hb⟩
 .obtain⟨m,w,hl⟩:=I.loc;refine⟨m,up.ns w,λi x v U G A=>?_⟩;obtain⟨u,r,l⟩:=hl i x v U G A;refine⟨u,r,?_⟩;rcases l with l|⟨k,c,e,z⟩
  .exact .inl l
  .exact .inr ⟨k,c,e,J x c e _ z⟩
 .obtain⟨v,z⟩:=I.cell x c e;exact⟨v,J x c e v z⟩
 .obtain⟨e,n,ne,E,d⟩:=I.pin p hp;exact⟨T p.1 p.2 e (.inr (.inr (.inl ⟨p,hp,Z⟩))) λz=>(F.mem.mp z).elim ne E,n,ne,E,d⟩
 .refine(I.hok a o e).stay (λb u hb q=>?_) (λ_ q=>q) λ_ _ q=>q;have w:H b≠none:=by
   rcases hb with rfl|hb
   .rw[e];intro z;cases z
   .rw[hb];intro z;cases z
  exact T b u q (.inr (.inl w)) λz=>w (I.stkFree b z)
 .obtain⟨h,U⟩:=pe.there I F q;have G:=cv b h U q n;have A:=st b h G;rw[e] at A;cases A;exact G
def dO (o:Cd)(f:Br Ac->Br Ac):(o.mapFields f).dict=o.dict:=by obtain⟨c,d,J,sl⟩:=o;cases J <;> rfl
section
variable {M:Nk}{A:Bn}{E:J7}
def VI {ac:Hg}{k:Ab Hg}{vs:Br Ac}{head:Ac}{J:Ar}{Q:Nq->Ai->Prop}(f:A.frames=Aa (ac::k))(g:s.heap.FunFrames B (ac::k))(hf:ac.frame=Aa L)(c:s.heap.get? e=Aa O)
  (r:B.StaysIn s.heap) (j:B.get? e=Zt) (y:O.data=.fields vs) (N:1<vs.size) (h:∀ h',ua B (ac::k) e O.cls O.dict (Jr L) h'->s.heap.UpToSlots h'->Q () { s with heap:=h' }) :
  Ap M A (do let a <- frameOf ac;let pl <- entryPlaceOf L J;let b <- Wa head a .none (Jr L) .none pl;setField (.ref e) 1 b) Q E s:=by
 have ne:e ∉ (ac::k).filterMap (·.frame):=λz=>by obtain⟨_,o,ho,I⟩:=g.mem z;rw[c] at ho;cases ho;exact I vs y
 refine Ad (wpAny_frameOf_fun f g hf λU d=>Ad (wpAny_entryPlaceOf λpl G=>?_));unfold Wa newFields;refine Ad (Dh ?_ (G.sizeOk5 _ _ _ _ _));generalize hT:({ cls:=.type "traceback",dict:=Zt,data:=.fields ([head,.ref L,.none,Jr L,.none]++(if pl.isEmpty then Cu 6 El else pl)).toArray } : Cd)=T;obtain⟨l,t,h3⟩:∃ l,T.data=.fields l/\l[3]? = Aa (Jr L):=⟨_,by rw[<- hT],by first|(simp;done)|(rcases G with rfl|⟨_,_,_,_,_,_,_,rfl⟩ <;> simp)⟩
 have fT:T.isFreed=false:=IN t;have m:U.get? e=Aa O:=(d.2.1 e ne).trans c;have i:=Ak (h:=U) T m;have x:U.objs.size≠e:=Hj (Bh m);have v:∀ b o,b≠e->U.get? b=Aa o->((U.push T).update e (Km (·.setIfInBounds 1 (Ca U.objs.size)))).get? b=Aa o:=λb o n q=>by rw[Ci _ _ (Di n)];exact Ak _ q
 refine Ge i y N (h _ ?_ ?_)
 .have kb:B.StaysIn U:=λb o q=>(d.2.1 b λz=>by rw[(g.mem z).1] at q;cases q).trans (r b o q);have d3:=Hs y (·.setIfInBounds 1 (Ca U.objs.size));refine⟨λb o q=>v b o (λz=>by rw[z,j] at q;cases q) (kb b o q),j,g.of_keeps λb o q I=>?_,.mk _ _ U.objs.size T l (Dy _ i (IN d3)) (Rm _ _) (dO _ _) d3 (by simp[N]) kb.fresh x ((Ci _ _ (Di x)).trans (Be U fT)) t h3⟩;obtain⟨sl,z⟩:=d.2.2 b o q;exact⟨_,v b _ (λw=>by rw[w,c] at q;cases q;exact I vs y) z,rfl⟩
 .intro b o q I;obtain⟨sl,z⟩:=d.2.2 b o q;exact⟨sl,v b _ (λw=>by rw[w,c] at q;cases q;exact I vs y) z⟩
def aZ {l:Ab Hg}{v:Ac}(x:ua B l e c dd fl h):∃ U vs T I G,h.get? e=Aa U/\U.cls=c/\U.dict=dd/\U.data=.fields vs/\vs[1]? = Aa (.ref T)/\h.get? T=Aa I/\I.data=.fields G/\G[3]? = Aa fl /\
  ua B l e c dd v (h.update T (Km (·.setIfInBounds 3 v)))/\h.UpToSlots (h.update T (Km (·.setIfInBounds 3 v))):=by
 obtain⟨m,i,a,U,vs,T,I,G,d,g,N,t,j,r,f,w,J,y⟩:=x;have L:∀ b,b≠T->(h.update T (Km (·.setIfInBounds 3 v))).get? b=h.get? b:=λb n=>Ci _ _ (Di n);have k:∀ b o,h.get? b=Aa o->(∀ vs,o.data≠.fields vs)->b≠T:=λb o q O z=>by rw[z,w] at q;cases q;exact O G J
 refine⟨U,vs,T,I,G,d,g,N,t,j,w,J,y,⟨λb o q=>(L b λz=>by rw[z,r] at q;cases q).trans (m b o q),i,a.of_keeps λb o q O=>⟨o,(L b (k b o q O)).trans q,rfl⟩,.mk U vs T _ _ ((L e (Di f)).trans d) g N t j r f (Dy _ w (IN (Hs J _))) (Hs J _) ?_⟩,λb o q O=>⟨o.slots,(L b (k b o q O)).trans q⟩⟩;simp[(Cq.mp y).1]
def WU {l:Ab Hg}{Q:Nq->Ai->Prop}(x:ua B l e c dd fl s.heap)(G:∀ h',ua B l e c dd .none h'->s.heap.UpToSlots h'->Q () { s with heap:=h' }) : Ap M A (Rn (.ref e) Zt) Q E s:=by obtain⟨z,j,T,y,w,O,_,_,L,U,I,J,N,k,up⟩:=aZ (v:=.none) x;unfold Rn;refine Ad (Dr O L U ?_);rw[Au (show (Ca T != El)=Vq from by simp)];exact Ge I J (Cq.mp N).1 (G _ k up)
end
def xy {M:Nk}{A:Bn}{E:J7}{Q:Nq->Ai->Prop}(I:Inv X aa Y H s)(F:Fn1 X)(d:A.frames=Aa X.stack)(f:kx X aa H c dd e s.heap)
  (O:∀ h' B,ua B X.stack e c dd (Jr X.env.locals) h'->Cv X aa H B s.heap->s.heap.UpToSlots h'->Q () { s with heap:=h' }) : Ap M A (Kb (.ref e) X.env) Q E s:=by
 have z:=F.2.1;rw[z] at d;unfold Kb;simp only[F.2.2];cases f with
 |new ob t U hc J g no nf =>
  subst hc J;refine Ad (Dr U g (x:=.none) rfl ?_);rw[AT aC];have L:=TW (as:=e::gv X.stack) I.stack λac U a ha=>Bm _ (Iu.mpr ⟨ac,U,ha⟩);have l:Cv X aa H (Gf s.heap (e::gv X.stack)) s.heap:=λb o q h n=>Pk _ q λw=>(Ay.mp w).elim (λw=>no (w▸h)) n;have j:(Gf s.heap (e::gv X.stack)).get? e=none:=Lp _ Cr;have k4:(Gf s.heap (e::gv X.stack)).StaysIn s.heap:=λb o q=>Qj _ q;generalize Gf s.heap (e::gv X.stack)=B at L l j k4;exact VI d (z▸L) F.2.2 U k4 j g aA λh' k up=>O h' B (z▸k) l up
 |fly B v fl cv =>
  obtain⟨oe,vs,T,oT,ts,U,hc,J,g,h1,hT,G,h3,k,up⟩:=aZ (v:=.none) fl;subst hc J;refine Ad (Dr U g h1 ?_);rw[Au (show (Ca T != El)=Vq from by simp)];refine Ad (Dr hT G h3 ?_);by_cases hv:(v == Jr X.env.locals)=Vq
  .rw[Au hv];have r:v=Jr X.env.locals:=by simpa using hv
   subst r;exact An (O s.heap B fl cv λb o q _=>⟨o.slots,q⟩)
  rw[AT hv];refine Ad (Ge hT G (Cq.mp h3).1 ?_);obtain⟨L,l,j,zn,zo,_,_,_,zc,m,N,i,zl,_⟩:=k;rw[<- m,<- N] at O;exact VI (z▸d) (z▸j) F.2.2 zc L l i (Cq.mp zl).1 λh' y u=>O h' B (z▸y) cv (up.trans u)
def UB {M:Nk}{A:Bn}{E:J7}{Q:Nq->Ai->Prop}(I:Inv X aa Y H s)(F:Fn1 X)(O:A.frames=Aa X.stack)(f:kx X aa H c dd e s.heap)
  (L:∀ h' B,ua B X.outer e c dd .none h'->Inv X aa Y H { s with heap:=h' } -> Cv X aa H B h'->Q () { s with heap:=h' }) : Ap M A (leaving X.env (.ref e)) Q E s:=by
 unfold leaving;refine Ad (xy I F O f λN B k T z=>WU (s:={ s with heap:=N }) k λw G y=>?_);obtain⟨j,J⟩:=Inv.fly I F T G.1 (z.trans y);obtain⟨q,o,U,l⟩:=G;rw[F.2.1] at U;exact L w B ⟨q,o,U.2.2,l⟩ j J
end
def pf (P:Ba)(w:Bu):wl:=λU H s E u Y =>
 ∃ e c dd J B,u=.ref e/\Y.os=s.os/\Nx Y.gens/\Un (gv U) [] H J s.heap Y.heap/\jm P w J Y.heap/\ua B U e c dd .none Y.heap /\
  (∀ b o,Y.heap.get? b=Aa o->((∃ o,s.heap.get? b=Aa o)\/J b≠Zt)->b ∉ gv U->B.get? b=Aa o)/\E c dd J
section
variable {X:Cx}{aa:J0}{Y: _L.St}{H:Hp}{s s':Ai}
def HZ (I:Inv X aa Y H s)(h:pf X.prog X.w X.stack H s E u s'):∃ e c dd H',u=.ref e/\Inv X aa Y H' s'/\kx X aa H' c dd e s'.heap/\E c dd H':=by
 obtain⟨e,c,dd,H',B,rfl,os,J,T,N,fl,U,q⟩:=h;have A:Inv X aa Y H' s':=Inv.call' I os T N J (ch:=[]) λb z=>absurd z aA;refine⟨e,c,dd,H',rfl,A,.fly B .none fl λb o w G n=>U b o w ?_ n,q⟩;rcases G with⟨o,z,O⟩|z|⟨p,y,rfl⟩|⟨x,z⟩
 .exact .inl (I.base.there b o z O)
 .exact .inr z
 .exact .inl ⟨_,(I.pin p y).1⟩
 .obtain⟨v,L,j,_⟩:=I.cell x b z;exact .inl ⟨L,j⟩
end
structure RoomC (cm:Ar)(k:Aj)(A:Bn):Prop where
 hd:cm=Vq->A.handled=Zt
 dp:A.depth+3*k+5<Ve
 un:A.units+16*k+200<Fk
 gd:A.guards=Aa []
def RoomC.mono {j k:Aj}(r:RoomC cm k A)(h:j<=k:=by decide):RoomC cm j A:=⟨r.hd,by have:=r.dp;fin2,by have:=r.un;fin2,r.gd⟩
def RoomC.deeper {k:Aj}(r:RoomC cm (k+1) A)(ac:Hg):RoomC cm k (A.deeper ac):=
 ⟨r.hd,by have:=r.dp;show A.depth+1+3*k+5<_;fin2,by have:=r.un;show A.units+3+16*k+200<_;fin2,r.gd⟩
def RoomC.depth (r:RoomC cm k A):A.depth<Ve:=by have:=r.dp;fin2
def RoomC.units (r:RoomC cm k A):A.units+64<Fk:=by have:=r.un;fin2
def RoomC.of (r:nj k A):RoomC Vq k A:=⟨λ_=>r.hd,r.dp,r.un,r.gd⟩
def RoomC.any (r:RoomC cm k A):RoomC Yp k A:=⟨(λz=>nomatch z),r.dp,r.un,r.gd⟩
def RoomC.mark (r:RoomC cm k A)(h:Al Ac):RoomC Yp k (A.mark h):=⟨(λz=>nomatch z),r.dp,r.un,r.gd⟩
noncomputable abbrev Cx.re (X:Cx)(A:Bn)(cm:Ar)(E:J7):Cx:={ X with A:=A,calm:=cm,xe:=E }
def Inv.re {X:Cx}(I:Inv X aa Y H s)(A:Bn)(cm:Ar)(E:J7)(J:A.frames=Aa X.stack)(U:cm=Vq->A.handled=Zt):Inv (Cx.re X A cm E) aa Y H s:=
 ⟨⟨I.ok.mod,I.ok.kind,I.ok.glob,I.ok.blt,I.ok.above,I.ok.inj,I.ok.has,I.ok.cab,U,J,I.ok.stk,I.ok.exf,I.ok.bs,I.ok.bsz,I.ok.noex,I.ok.exfs,I.ok.funs,I.ok.frf⟩,I.os,I.bare,I.base,I.loc,I.cell,I.free,I.freeC,I.pin,I.hok,I.len⟩
def Inv.unre {X:Cx}(I:Inv (Cx.re X A cm E) aa Y H s)(J:X.A.frames=Aa X.stack)(U:X.calm=Vq->X.A.handled=Zt):Inv X aa Y H s:=
 ⟨⟨I.ok.mod,I.ok.kind,I.ok.glob,I.ok.blt,I.ok.above,I.ok.inj,I.ok.has,I.ok.cab,U,J,I.ok.stk,I.ok.exf,I.ok.bs,I.ok.bsz,I.ok.noex,I.ok.exfs,I.ok.funs,I.ok.frf⟩,I.os,I.bare,I.base,I.loc,I.cell,I.free,I.freeC,I.pin,I.hok,I.len⟩
structure rh (P:Ba)(w:Bu)(K:Ag)(mg:J8)(base:Bb)(cm:Ar)(k:Aj)(f:Af)(fd:Ft)(ps:Y0)(sp:Sp):Prop where
 len:∀ vs H Q E,sp vs H Q E->vs.length=ps.length
 run:∀ (A:Bn) (outer:Ab Hg) (s:Ai) (H:Hp) (args:Args) (us:Y8) (vs:Ab V) (Q:VK) (E:XK),RoomC cm k A->oh P w K mg base A outer s H->Nz s fd args (ps.zip us)->qQ vs us->sp vs H Q E ->
  Gn (As P w) A (.call (.ref f) args) (CR (pf P w) outer P w H s Q E) s
def rh.ok {P:Ba}{K:Ag}{base:Bb}(F:rh P w K mg base Vq k f fd ps sp):qt P w K mg base (pf P w) k f fd ps sp:=
 ⟨F.len,λA U s H Y us G Q E J=>F.run A U s H Y us G Q E (.of J)⟩
def rh.imp {P:Ba}{K:Ag}{base:Bb}{J:Sp}(F:rh P w K mg base cm k f fd ps sp)
  (h:∀ vs H Q E,J vs H Q E->sp vs H Q E):rh P w K mg base cm k f fd ps J:=
 ⟨λvs H Q E q=>F.len vs H Q E (h _ _ _ _ q),λA G s H Y us vs Q E U B O hv N=>F.run A G s H Y us vs Q E U B O hv (h _ _ _ _ N)⟩
noncomputable def jt (cm:Ar)(P:Ba)(w:Bu)(K:Ag)(mg:J8)(base:Bb)(N:Y0)(U:Ah)(ae:Ez)(f:Af)(J:Ac)(A:Bn)(G:Ab Hg)(s:Ai)(H:Hp)(E:XK):Cx where
 prog:=P
 w:=w
 K:=K
 mg:=mg
 base:=base
 A:=A.deeper (Fu U ae s.heap.objs.size f J)
 N:=N
 s₀:=s
 H₀:=H
 env:=Fu U ae s.heap.objs.size f J
 outer:=G
 stack:=Fu U ae s.heap.objs.size f J::G
 ex:=[]
 calm:=cm
 fn:=λ_=>Vq
 pn:=[]
 xe:=λe B=>Ap (As P w) (A.deeper (Fu U ae s.heap.objs.size f J)) (leaving (Fu U ae s.heap.objs.size f J) e) (λ_ Y=>pf P w G H s E e Y) (λO Y=>pf P w G H s E O Y) B
section
variable {P:Ba}{w:Bu}{K:Ag}{mg:J8}{base:Bb}{cm:Ar}{N:Y0}{au:Ah}{ae:Ez}{f:Af}{cd:Ac}{A:Bn}{aj:Ab Hg}{s:Ai}{H:Hp}{E:XK}
def G6:Us (As P w) (A.deeper (Fu au ae s.heap.objs.size f cd)) (Fu au ae s.heap.objs.size f cd) (jt cm P w K mg base N au ae f cd A aj s H E).xe:=PassesOwn.leaving (Q₁:=λe Y=>pf P w aj H s E e Y)
abbrev _J (P:Ba)(w:Bu)(A:Bn)(ac:Hg)(aj:Ab Hg)(H:Hp)(s:Ai)(E:XK):Ac->Ai->Prop:=λe J=>Ap (As P w) (A.deeper ac) (leaving ac e) (λ_ Y=>pf P w aj H s E e Y) (λU Y=>pf P w aj H s E U Y) J
def G7 {X:Cx}(F:Fn1 X)(l:X.A=A.deeper X.env)(k:p_ X y J c x S u s')
  (q:∀ H' O G dd,bf X.K H' O G S->qP y O->J<+:G->yf X.K O G c x dd->E c dd H'):_J X.prog X.w A X.env X.outer X.H₀ X.s₀ E u s':=by
 obtain⟨e,aa,Y,T,i,J1,rfl,I,r,g,d,dd,fl,a⟩:=k;unfold _J;rw[<- l];refine UB I F I.ok.frames fl λh' B h U v=>?_;refine⟨e,c,dd,T,B,rfl,U.os,U.bare,by have z:=U.base;rw[F.1] at z;exact z,U.hok,h,λb o m j n=>v b o m ?_ λz=>?_,q T i J1 dd r g d a⟩
 .rcases j with z|z
  .obtain⟨L,z⟩:=z;exact .inl ⟨L,z,by rw[F.1];simp⟩
  .exact .inr (.inl z)
 .rcases (Fn1.mem F).mp z with z|z
  .subst z;rcases j with⟨L,t⟩|z
   .exact absurd (Bh t) (Lz.mpr U.ok.above)
   .exact z U.free
  .exact n z
def WM {J:Ai}{vs:Ab V}(S:cz N ps ae)(U:cm=Vq->A.handled=Zt)(Y:oh P w K mg base A aj s H)(O:vs.length=ps.length)(r:qQ vs us)
  (x:InCallC s s.heap.objs.size (Vs (Fu au ae s.heap.objs.size f cd).kindOf (ps.zip us) λ_=>Zt) (HT (s.heap.objs.size+1) ae.names []) (Vt (Fu au ae s.heap.objs.size f cd).kindOf (ps.zip us) λ_=>Zt) J) :
  Inv (jt cm P w K mg base N au ae f cd A aj s H E) [] (_L.yS N vs) H J:=by
 have I:=U3 (CX:=pf P w) (E:=E) (A:={ A with handled:=Zt }) S Z ⟨Y.frames,Y.mod,Y.bs,Y.bsz,Y.funs,Y.frf,Y.hok,Y.bare⟩ O r x;have G:=Inv.re I (A.deeper (Fu au ae s.heap.objs.size f cd)) cm (jt cm P w K mg base N au ae f cd A aj s H E).xe (Vj Y.frames) U;exact G
end
def CB {P:Ba}{w:Bu}{K:Ag}{mg:J8}{base:Bb}{cm:Ar}{k:Aj}{f:Af}{T:Ah}{qi:Arguments}{ae:Ez}{oc:Ac}{an:Al Af}{d:Br (Al Ac)}{x:Ah}{kV l pm Y ct:Ac}{N ps:Y0}
  {A:Bn} {B:Ab Hg} {s:Ai} {H:Hp} {J:Args} {us:Y8} {vs:Ab V} {Q:VK} {E:XK} (lk:K.lookup f=Aa ⟨oc,od,.func (Fp x T qi er ae .none kV l pm an Y ct),d⟩) (c:Jp K Y T=Vq) (S:cz N ps ae) (hl:vs.length=ps.length) (a:RoomC cm (k+1) A)
  (j:oh P w K mg base A B s H) (hb:Nz s (Fp x T qi er ae .none kV l pm an Y ct) J (ps.zip us)) (r:qQ vs us)
  (G:∃ t,kg (jt cm P w K mg base N T ae f Y A B s H E) er t/\t { nx:=λ_ H'=>Q .non H',rt:=Q } (_L.yS N vs) H) :
  Gn (As P w) A (.call (.ref f) J) (CR (pf P w) B P w H s Q E) s:=by
 have KX:K.In s.heap:=j.mod.kin.keeps λb o e=>(j.bs b o e).1;have bb:s.heap.NoLimit:=j.mod.nolimit.keeps λb o e=>(j.bs b o e).1;have O:∀ y∈ps.zip us,ae.names.lookup y.1=Aa .local \/ (ae.names.lookup y.1=Aa .cell/\((HT (s.heap.objs.size+1) ae.names []).lookup y.1).isSome=Vq):=λ⟨n,v⟩ hy=>by
  rcases S.par n (Tx hy).1 with q|q
  .exact .inl q
  .exact .inr ⟨q,Nr _ _ _ (.inl q)⟩
 refine codeAny_call_function a.depth (KX _ _ lk) rfl S.co S.gen rfl (PySem.W.codeRec_of KX c) (hb _ _ _ _ ?_);refine wpAny_newFunctionEnv_cells S.kind O λac he h x=>?_;subst he;refine⟨bb.keeps x.toInCall.keep,codeAny_func ?_⟩;obtain⟨t,ht,hq⟩:=G;have I:Inv (jt cm P w K mg base N T ae f Y A B s H E) [] (_L.yS N vs) H h:=WM S a.hd j hl r x;refine Fm (ht [] h (_L.yS N vs) H _ I hq) (λfl i L=>?_) λe i L=>L;have z:∀ {g : _L.St} {H':Hp} {v:V} {u:Ac},Inv (jt cm P w K mg base N T ae f Y A B s H E) [] g H' i->qR v u->Q v H'->CE B P w H s Q u i:=
  λ{g H' v u} U m q=>⟨v,H',U.os,U.bare,U.base,U.hok,m,q⟩
 cases fl with
 |ret u =>
  obtain⟨v,g,H',U,m,q⟩:=L;exact z U m q
 |next =>
  obtain⟨g,H',U,q⟩:=L;exact z (v:=V.non) (u:=El) U rfl q
 |brk =>
  obtain⟨_,_,_,q⟩:=L;exact Am q
 |cont =>
  obtain⟨_,_,_,q⟩:=L;exact Am q
def f7 (K:Ag)(x:Ah)(Y:Ac):Prop:=∀ c T,Dm K x=Aa (c,T)->Y=.ref c
def VV {P:Ba}{w:Bu}{K:Ag}{mg:J8}{base:Bb}{cm:Ar}{k:Aj}{st:Du}(F:uj K x B st f fd)(S:cz N ps (qF st))
  (len:∀ vs H Q E,sp vs H Q E->vs.length=ps.length)
  (J:∀ (Y:Ac) (A:Bn) (O:Ab Hg) (s:Ai) (H:Hp) (vs:Ab V) (Q:VK) (E:XK),fd.code=Y/\Mod K mg base->RoomC cm k (A.deeper (Fu B (qF st) s.heap.objs.size f Y))->sp vs H Q E ->
   ∃ t,kg (jt cm P w K mg base N B (qF st) f Y A O s H E) (zG st) t/\t { nx:=λ_ H'=>Q .non H',rt:=Q } (_L.yS N vs) H) :
  rh P w K mg base cm (k+1) f fd ps sp:=by
 obtain⟨g,od,kV,y,o,q,Y,l,z,rfl,lk,G⟩:=F.ex;exact⟨len,λA O s H T us vs Q E L I j r U=>CB lk G S (len _ _ _ _ U) L I j r (J Y A O s H vs Q E ⟨rfl,I.mod⟩ (L.deeper _) U)⟩
def wX (n:Aj)(ds:Ab D):qG:=ds.map Aa++Cu (n-ds.length) Zt
noncomputable def j9:ja->ax D
 |.rt d S=>.ok d S
 |.nx _ S=>.ok .non S
 |.ex c x _ S=>.ex c x S
 |_=>.bad
def qL (n:Aj)(g:DS):DF:=λY S=>j9 (g (wX n Y) S)
def _h (K:Ag)(P:Hp)(J : Ab Af)(R:ax D)(Q:VK)(E:XK):Prop:=match R with
 |.ok d N=>∀ v G U Y,bf K G U Y N->qP P U->J<+:Y->am K U Y d v->Q v G
 |.ex c x N=>∀ G U Y dd,bf K G U Y N->qP P U->J<+:Y->yf K U Y c x dd->E c dd G
 |.bad=>Fv
def wu (K:Ag)(n:Aj)(F:DF):Sp:=λY H Q E=>Y.length=n/\∃ P J U S,bf K H P J S/\qJ K P J U Y/\_h K P J (F U S) Q E
def YG {K:Ag}{P:Hp}(r:qJ K P J ds vs):zH K P J (_L.yS N vs) (wX N.length ds):=by
 refine⟨by simp[wX,_L.yS,r.length],λi d e=>?_⟩;unfold wX at e;unfold _L.yS;by_cases Y:i<ds.length
 .rw[Co (by simpa using Y),Es] at e;rw[Co (by rw[Ao,<- r.length];exact Y),Es];cases q:ds[i]? with
  |none=>rw[q] at e;cases e
  |some O =>
   rw[q] at e;cases e;obtain⟨v,U,G⟩:=r.get q;exact⟨v,by rw[U];rfl,G⟩
 .rw[Eg (by simpa using Y),Mx] at e;split at e <;> cases e
section
variable {P:Ba}{w:Bu}{K:Ag}{mg:J8}{base:Bb}{cm:Ar}
def KO {H I:Hp}{J:J9}{ds:Ab D}{vs:Ab V}{j:ag}(i:kg (jt cm P w K mg base N o ae f U A y s H E) er (jb (jt cm P w K mg base N o ae f U A y s H E) g))
  (r:bf K H I J j) (m:qJ K I J ds vs) (Y:_h K I J (qL N.length g ds j) Q E):∃ t,kg (jt cm P w K mg base N o ae f U A y s H E) er t/\t { nx:=λ_ H'=>Q .non H',rt:=Q } (_L.yS N vs) H:=by
 refine⟨_,i,I,J,wX N.length ds,j,r,YG m,?_⟩;unfold qL at Y;cases q:g (wX N.length ds) j with
 |rt d S1=>rw[q] at Y;exact λv H' B L T G O n=>Y v H' B L T G O n
 |nx k S1=>rw[q] at Y;exact λb H' B L T l G O=>Y .non H' B L T G O (by simp only[am])
 |bk k S1=>rw[q] at Y;exact Am Y
 |ct k S1=>rw[q] at Y;exact Am Y
 |ex c x k S1=>rw[q] at Y;exact λu e z=>G7 ⟨rfl,rfl,rfl⟩ (A:=A) rfl z λH' B L dd T G O=>Y H' B L dd T G O
 |bad=>rw[q] at Y;exact Am Y
def fnX {st:Du}{k:Aj}{g:DS}(F:uj K x O st f fd)(S:cz N ps (qF st))
  (U:∀ (Y:Ac) (A:Bn) (G:Ab Hg) (s:Ai) (H:Hp) (E:XK),fd.code=Y/\Mod K mg base->RoomC cm k (A.deeper (Fu O (qF st) s.heap.objs.size f Y)) ->
   kg (jt cm P w K mg base N O (qF st) f Y A G s H E) (zG st) (jb (jt cm P w K mg base N O (qF st) f Y A G s H E) g)) :
  rh P w K mg base cm (k+1) f fd ps (wu K ps.length (qL N.length g)):=by
 refine VV F S (λz H Q E h=>h.1) λY A G s H z Q E T B h=>?_;obtain⟨y,o,J,q,j,r,L,I⟩:=h;exact KO (U Y A G s H E T B) r L I
end
section
variable {X:Cx}{cm:Ar}{k:Aj}{f:Af}{fd:Ft}{ps:Y0}{F:DF}{x:Ah}{p ai:Eb}{e:Bl}{es:Ab Bl}{fa:DA}{n:Aj}
def qI (n:Aj)(F:DF)(fa:DA):DE:=λJ S=>(fa J S).bind λY S1=>if Y.length=n then F Y S1 else .bad
def EX (X:Cx)(P:Hp)(J : Ab Af)(R:ax D):XK:=λc dd O=>match R with
 |.ex N x G=>c=N/\∃ U Y,bf X.K O U Y G/\qP P U/\J<+:Y/\yf X.K U Y c x dd
 |_=>Fv
def OB {P:Hp}{R:ax D}(Y:qU X P J R Q):_h X.K P J R Q (EX X P J R):=by
 cases R with
 |ok d G=>exact Y
 |ex c x G=>exact λE T U dd B N O L=>⟨rfl,T,U,B,N,O,L⟩
 |bad=>exact Y
def KR {P:Hp}{R:ax D}(I:Inv X aa Y H s)(G:qU X P J R Q)
  (h:Gn (As X.prog X.w) X.A (.call u ⟨us,[]⟩) (CR (pf X.prog X.w) X.stack X.prog X.w H s Q (EX X P J R)) s):a8 X (call u us) (EP X aa Y Q) X.xe s:=by
 refine Kz (Ka h λr w U=>?_);cases r with
 |error u =>
  have U:pf X.prog X.w X.stack H s (EX X P J R) u w:=U;cases R with
  |ok d A=>obtain⟨_,_,_,_,_,_,_,_,_,_,_,_,q⟩:=U;exact Am q
  |bad=>exact Am G
  |ex o y A =>
   obtain⟨a,c,dd,T,rfl,L,fl,rfl,j,E,B,N,O,z⟩:=HZ I U;exact G _ _ ⟨a,aa,Y,T,j,E,rfl,L,B,N,O,dd,fl,z⟩
 |ok fl =>
  cases fl with
  |ret u=>exact I.after U
  |next=>exact Am U
  |brk=>exact Am U
  |cont=>exact Am U
def pE {aa:J0}{Y:_L.St}{H:Hp}{s:Ai}{vs:Ab V}{P:Hp}{J:J9}{ds:Ab D}(G:rh X.prog X.w X.K X.mg X.base cm k f fd ps (wu X.K n F))(T:RoomC cm k X.A)(E:yC X.K fd ps [])
  (I:Inv X aa Y H s) (r:bf X.K H P J S) (B:qQ vs us) (O:qJ X.K P J ds vs) (w:ds.length=n) (L:qU X P J (F ds S) Q):a8 X (call (.ref f) us) (EP X aa Y Q) X.xe s:=by
 have U:wu X.K n F vs H Q (EX X P J (F ds S)):=⟨by rw[<- O.length];exact w,P,J,ds,S,r,O,OB L⟩
 have A:us.length=ps.length:=by rw[<- B.length];exact G.len _ _ _ _ U
 have N:=E s us I.kIn (by rw[Gg];exact A);rw[Gg] at N;exact KR I L (G.run X.A X.stack s H ⟨us,[]⟩ us vs Q _ T I.env0 N B U)
def rT {ac:qG}{S:ag}{P:Hp}{ds:Ab D}{Ok:D->ag->Prop}(h:qK X P J (if ds.length=n then F ds S1 else .bad) Ok):ds.length=n/\qK X P J (F ds S1) Ok:=by
 by_cases Y:ds.length=n
 .rw[Au Y] at h;exact⟨Y,h⟩
 .rw[AT Y] at h;exact Am h
def TM (G:rh X.prog X.w X.K X.mg X.base cm k f fd ps (wu X.K n F))(T:RoomC cm k X.A)(hF:Fn1 X)(j:Gl X x)(hm:X.mg x=Aa (.ref f))(d:Da X.K (.ref f)=Vq)(l:yC X.K fd ps [])
  (z:PA X (e::es) (kh X fa)) (B:(x == ("__debug__" : Ah))=false:=by decide) (c:Bc (e::es) X.env=(Yp,eval e X.env)::Bc es X.env:=by rfl) (N:(Eu ai (Bc es X.env)).any (·.1)=false:=by rfl) :
  PE X (.Call (.Name x p) (e::es) [] ai) (tD X (qI n F fa)):=by
 intro aa s Y H Q I h;obtain⟨P,J,ac,S,r,y,g⟩:=h;refine Hr (wA I j hm ?_ B);refine Mt (h₀:=X.base) I.ok.mod.kin d (bi (wN z I r y g ai) λus m ⟨a,i,b,J1,ds,S1,L,o,t,E,q,A,w,U⟩=>⟨L.kIn,?_⟩) c N;obtain⟨v,O⟩:=rT (ac:=ac) (S:=S) U;exact pE G T l L t o q v (qU.base A w O)
end
noncomputable abbrev gC:Ab Ac:=[.type "ValueError",.type "Exception",.type "BaseException",.type "object"]
noncomputable def isStr:Ac->Ar
 |.str _ _=>Vq
 |_=>Yp
def cN (K:Ag)(N:Af):Ar:=match Ev N K with
 |some o=>match o.data with
  |.dict Y _=>Y.toList.all λe=>isStr e.key
  |_=>Yp
 |none=>Yp
def jL (K:Ag)(N:Af):Ar:=cN K N&&decide (Bp K N "__init__" = Aa Zt)
def oP {K:Ag}(Y:cN K N=Vq):Vf K N=true:=by
 unfold cN at Y;unfold Vf;cases e:Ev N K with
 |none=>rw[e] at Y;cases Y
 |some o =>
  rw[e] at Y;obtain⟨G,od,J,sl⟩:=o;cases J with
  |dict U O =>
   simp only at Y ⊢;rw[Su] at Y;refine Eq.trans (congrArg (λf=>Array.all U f) (funext λe=>?_)) Y;cases e.key <;> rfl
  |_=>cases Y
def xV {K:Ag}(h:jL K N=Vq):Vf K N=Vq/\Bp K N "__init__" = Aa none:=by unfold jL at h;rw[Av,Az] at h;exact⟨oP h.1,h.2⟩
def mU (K:Ag)(C:Af)(f:Ac->Xy->Br (Al Ac)->Ar):Ar:=match Ev C K with
 |some o=>(match o.data with|.cls Y=>f o.cls Y o.slots|_=>Yp)
 |none=>Yp
def bD {K:Ag}{f:Ac->Xy->Br (Al Ac)->Ar}(h:mU K C f=Vq):∃ Y od J sl,Ev C K=Aa ⟨Y,od,.cls J,sl⟩/\f Y J sl=true:=by
 unfold mU at h;cases e:Ev C K with
 |none=>rw[e] at h;exact Gm h
 |some o =>
  rw[e] at h;obtain⟨Y,od,U,sl⟩:=o;cases U with
  |cls J=>exact⟨Y,od,J,sl,rfl,h⟩
  |_=>exact Gm h
def tQ (K:Ag)(C A:Af):Ar:=mU K C λU Y sl=>mU K A λ_ J _=>decide (U=.type "type")&&(decide (Y.mro=.ref C::.ref A::gC)&&(!Y.hasDel&&(jL K Y.ns&&(jL K J.ns&&(decide (sl.toList.length=6)&&decide (sl.toList[4]? = Aa (Aa (.builtin "ValueError.__new__"))))))))
inductive yi (h:Bb)(C:Af):Prop
 |mk (nm q:Ah) (N:Af) (bs bm:Y8) (hdct:Ar) (sn:Y0) (sub:Y8) (ab:Ar) (col:Al Ar) (dd:Al Af) (k0 k1 k2 k3 k5:Al Ac) (mN:J8) (hC:h.get? C=Aa (Jw nm q C N bs bm hdct sn sub ab col dd k0 k1 k2 k3 k5 "ValueError.__new__")) (hN:h.Ns N mN) (hni:mN "__init__" = Zt) (T:Ua h gC bm):yi h C
def sV {β:Type}{l:Ab β}{n:Aj}(h:l.length=n+1):∃ a t,l=a::t/\t.length=n:=by
 cases l with
 |nil=>exact Nat.noConfusion h
 |cons a t=>exact⟨a,t,rfl,AaL h⟩
def _P {β:Type}{l:Ab β}(h:l.length=6):∃ a b c d e f,l=[a,b,c,d,e,f]:=by obtain⟨a,t,Y,h⟩:=sV h;obtain⟨b,T,J,h⟩:=sV h;obtain⟨c,B,G,h⟩:=sV h;obtain⟨d,I,U,h⟩:=sV h;obtain⟨e,L,N,h⟩:=sV h;obtain⟨f,E,O,h⟩:=sV h;exact⟨a,b,c,d,e,f,by rw[Y,J,G,U,N,O,Kc.mp h]⟩
def zy {Y:Xy}{J:Y8}{k0 k1 k2 k3 G k5:Al Ac}(hm:Y.mro=.ref C::J)(N:Y.hasDel=Yp)(hs:sl.toList=[k0,k1,k2,k3,G,k5])(U:sl.toList[4]? = Aa (Aa (.builtin n))) :
  (⟨.type "type",od,.cls Y,sl⟩:Cd)=Jw Y.name Y.qualname C Y.ns Y.bases J Y.hasDict Y.slotNames Y.subclasses Y.abstract Y.collection od k0 k1 k2 k3 k5 n:=by
 rw[hs] at U;cases U;cases Y;cases sl;cases hm;cases N;cases hs;rfl
def NG {K:Ag}(U:K.In h)(e:Ev C K=Aa ⟨.type "type",od,.cls Y,sl⟩)(N:Y.mro=.ref C::.ref A::gC)(O:Y.hasDel=Yp)(J:jL K Y.ns=Vq)(B:sl.toList.length=6)(L:sl.toList[4]? = Aa (Aa (.builtin "ValueError.__new__")))(T:Ua h gC (.ref A::gC)):yi h C:=by obtain⟨z,E,w,I,x,H,G⟩:=_P B;exact⟨_,_,_,_,_,_,_,_,_,_,_,z,E,w,I,H,_,(U _ _ e).trans (congrArg Aa (zy N O G L)),.of_isNs (Mu U (xV J).1),Mr U (xV J).1 (xV J).2,T⟩
def NH {K:Ag}(Y:K.In h)(z:tQ K C A=Vq):yi h C:=by obtain⟨w,od,H,sl,e,z⟩:=bD z;obtain⟨I,j,T,E,L,z⟩:=bD z;have U:=Ct.mp z;have N:=Ct.mp U.2;have G:=Ct.mp N.2;have O:=Ct.mp G.2;have J:=Ct.mp O.2;have B:=Ct.mp J.2;rw[Bg U.1] at e;exact NG Y e (Bg N.1) (Lc _▸G.1) O.1 (Bg B.1) (Bg B.2) (.own (Y _ _ L) (.of_isNs (Mu Y (xV J.1).1)) (Mr Y (xV J.1).1 (xV J.1).2) .base)
section
variable {X:Cx}{ai:Eb}{fa:DA}
def xG (c:Ac)(fa:DA):DS:=λY S=>(fa Y S).toS Y λJ S1=>if J.length<=bb then .ex c .non Y S1 else .bad
inductive xi (X:Cx)(pins:J0)(Y : _L.St)(env:qG)(P:Hp)(J : Ab Af)(us:Y8)(s1:Ai)(k:Ab D->ag->ja)(E:Ends):Prop
 |mk (vs:Ab V) (H1 P1:Hp) (J1:J9) (ds:Ab D) (S1:ag) (I:Inv X pins Y H1 s1) (rv:qQ vs us) (r:bf X.K H1 P1 J1 S1) (re:zH X.K P1 J1 Y env) (rp:qJ X.K P1 J1 ds vs) (e1:qP P P1) (e2:J<+:J1) (q:zI X P1 J1 (k ds S1) E):xi X pins Y env P J us s1 k E
def dM {k:Ab D->ag->ja}{H P:Hp}{ac:qG}{D:Ends}(y:PA X es (kh X fa))(I:Inv X aa Y H s)(r:bf X.K H P J S)
  (T:zH X.K P J Y ac) (j:zI X P J ((fa ac S).toS ac k) D) (ai:Eb) :
  a8 X (spliced (Eu ai (Bc es X.env))) (λus N=>xi X aa Y ac P J us N k D) X.xe s:=by
 have U:qK X P J ((fa ac S).bind λd S=>.ok d S) λd S=>zI X P J (k d S) D:=by have:=yM j;cases q:fa ac S <;> rw[q] at this <;> exact this
 exact bi (wN y I r T U ai) λu N ⟨o,L,z,c,l,S1,A,w,g,G,E,O,B,q⟩=>⟨o,L,z,c,l,S1,A,w,g,G,E,O,B,zI.base O B q⟩
def GM {U:Bl}{G:Ab Bl}{np E:Eb}(hc:X.calm=Vq)(hF:Fn1 X)(a:Gl X x)(hm:X.mg x=Aa (.ref C))(hx:tQ X.K C v=Vq)(ha:PA X (U::G) (kh X fa))
  (w:(x == ("__debug__" : Ah))=false:=by decide) (L:Bc (U::G) X.env=(Yp,eval U X.env)::Bc G X.env:=by rfl) (j:(Eu E (Bc G X.env)).any (·.1)=false:=by rfl) :
  PS X (.Raise (Aa (.Call (.Name x np) (U::G) [] E)) Zt ai) (jb X (xG (.ref C) fa)):=by
 intro m s Y H D I h;obtain⟨P,J,ac,S,r,re,af⟩:=h;obtain⟨nm,g,N,bs,b,hdct,sn,sub,ab,col,dd,k0,k1,k2,k3,k5,mN,hC,i,A,T⟩:=NH I.mod.kin hx;refine wpAny_Raise_call_subT (C:=C) (nm:=nm) (q:=g) (N:=N) (bs:=bs) (bm:=b) (hdct:=hdct) (sn:=sn) (sub:=sub) (ab:=ab) (col:=col) (dd:=dd) (k0:=k0) (k1:=k1) (k2:=k2) (k3:=k3) (k5:=k5)
  Hd (mN:=mN) (T.hasType Hd.hasBase) (I.ok.hd hc) (by rw[L];show (Yp||(Eu E (Bc G X.env)).any (·.1))=Yp;rw[j];rfl) A (wA I a hm ⟨rfl,?_⟩ w)
 have run:=dM ha I r re af E;rw[L] at run ⊢;refine Jl (bi run λus s2 ⟨vs,c,P1,J1,l,S1,O,d,r1,n,rp,e1,e2,q⟩=>?_);have f:us.length=l.length:=by rw[rp.length,d.length]
 by_cases y:l.length<=bb
 .rw[Au y] at q;refine⟨Z,by rw[f,<- zM];exact y,O.bk _ _ hC,i.keeps O.bk,T.keeps O.bk,λh' e hm=>?_⟩;obtain⟨t,L,_,_⟩:=hm.there;refine q _ _ ⟨e,m,Y,c,P1,J1,rfl,O.kept (t':=s2.toks) hm.keeps,r1,qP.refl _,Bt _,Zt,.new _ t L rfl rfl rfl (λk=>?_) (λz=>?_),trivial⟩
  .obtain⟨o1,B⟩:=pe.there O hF k;rw[hm.new] at B;cases B
  .obtain⟨_,o,B,_⟩:=O.stack.mem z;rw[hm.new] at B;cases B
 .rw[AT y] at q;exact Am q
end
section
variable {X:Cx}{aa:J0}{Y: _L.St}{H:Hp}{s:Ai}
def PU {M:Nk}{A:Bn}{E:J7}{Q:Nq->Ai->Prop}(I:Inv X aa Y H s)(F:Fn1 X)(O:A.frames=Aa X.stack)(f:kx X aa H c dd e s.heap)
  (L:∀ h' B,ua B X.stack e c dd .none h'->Inv X aa Y H { s with heap:=h' } -> Cv X aa H B h'->Q () { s with heap:=h' }) :
  Ap M A (Kb (.ref e) X.env) (λ_ J=>Ap M A (Rn (.ref e) Zt) Q E J) E s:=
 xy I F O f λN B k w j=>WU (s:={ s with heap:=N }) k λz G y =>
  let ⟨T,U⟩:=Inv.fly I F w G.1 (j.trans y)
  L z B G T U
def dU (I:Inv X aa Y H s)(x:ua B X.stack e c dd fl s.heap)(w:Cv X aa H B s.heap):¬ pe X aa H e/\e ∉ gv X.stack/\∃ J vs,s.heap.get? e=Aa J/\J.cls=c/\J.dict=dd/\J.data=.fields vs:=by
 obtain⟨l,j,d,N,vs,T,g,k,G,A,U,E,_⟩:=x;have L:e ∉ gv X.stack:=λz=>by obtain⟨_,o,O,y⟩:=I.stack.mem z;rw[G] at O;cases O;exact y vs E
 refine⟨λz=>?_,L,N,vs,G,A,U,E⟩;have q:=w e N G z L;rw[j] at q;cases q
def Inv.track {φ:Bb->Prop}(I:Inv X aa Y H s)(F:Fn1 X)(G:¬ pe X aa H e)(nf:e ∉ gv X.stack)(j:∀ H',zR X.prog X.w H' s.heap e (.ext φ)) : Inv X aa Y (bx H e (.ext φ)) s:=by
 have J:H e=none:=by
  cases q:H e with
  |none=>rfl
  |some u=>exact absurd (.inr (.inl (by rw[q];intro z;cases z))) G
 have A:e≠X.env.locals:=λz=>nf (F.mem.mpr (.inl z));have E:∀ b o,X.s₀.heap.get? b=Aa o->b≠e:=λb o q z=>G (.inl ⟨o,z▸q,by rw[F.1];simp⟩);refine⟨I.ok,I.os,I.bare,⟨I.base.keep,I.base.slot,λb o q n B=>?_,I.base.there,λb U q=>?_,λb o U q=>?_,λb l q=>?_⟩,I.loc,I.cell,?_,λx k q=>?_,λp O=>?_,λb u q=>?_,I.len⟩
 .rw[qN (E b o q)];exact I.base.free b o q n B
 .have z:=I.base.tups b U q;rw[qN (zE z J)];exact z
 .have z:=I.base.frzs b o U q;rw[qN (zE z J)];exact z
 .obtain⟨m,z⟩:=I.base.tbls b l q;exact⟨m,by rw[qN (zE z J)];exact z⟩
 .rw[qN (Di A)];exact I.free
 .have z:k≠e:=λz=>G (.inr (.inr (.inr ⟨x,z▸q⟩)));rw[qN z];exact I.freeC x k q
 .obtain⟨L,w,T,y,g⟩:=I.pin p O;have z:p.1≠e:=λz=>G (.inr (.inr (.inl ⟨p,O,z⟩)));exact⟨L,by rw[qN z];exact w,T,y,g⟩
 .by_cases N:b=e
  .subst N;rw[qT] at q;cases q;exact j _
  .rw[qN N] at q;exact(I.hok b u q).stay (λ_ _ _ z=>z) (λk z=>by rw[qN (zE z J)];exact z) λk U z=>by rw[qN (zE z J)];exact z
def Inv.gone {i t':Aj}{h':Bb}(I:Inv X aa Y H s)(h:X.N.Nodup)(a:X.N[i]? = Aa n){m:J8}{v:Al Ac}(f:∀ (j:Aj) (y:Ah) (w:V),X.N[j]? = Aa y->Y[j]? = Aa (Aa w)->qg X.env.scope y->∃ u,qR w u/\RI X.env s.heap m y u)(hv:h'.Ns X.env.locals λy=>if y=n then v else m y)(O:Ex X.env.locals s.heap h') :
  Inv X aa (Y.set i Zt) H { s with heap:=h',toks:=t' }:=by
 have J:∀ b o,X.s₀.heap.get? b=Aa o->b≠X.env.locals:=λb o e=>Cn (Bo (Bh e) I.ok.above);have G:∀ b o,b≠X.env.locals->s.heap.get? b=Aa o->h'.get? b=Aa o:=λb o n e=>(O.2 b n).trans e;refine⟨I.ok,I.os,I.bare,⟨λb o e n B N=>G b o (J b o e) (I.base.keep b o e n B N),λb o e n B N=>?_,I.base.free,λb o e N=>?_,I.base.tups,I.base.frzs,I.base.tbls⟩,⟨_,hv,λj y w L U e3=>?_⟩,λx c e=>?_,I.free,I.freeC,λp hp=>?_,λb u q=>?_,by simpa using I.len⟩
 .obtain⟨sl,q⟩:=I.base.slot b o e n B N;exact⟨sl,G b _ (J b o e) q⟩
 .obtain⟨T,q⟩:=I.base.there b o e N;exact⟨T,G b T (J b o e) q⟩
 .have E:i≠j:=λz=>by
   subst z;by_cases g:i<Y.length
   .rw[Fn g] at U;cases U
   .rw[Iy (by simp;fin2)] at U;cases U
  rw[De E] at U;obtain⟨u,r,l⟩:=f j y w L U e3;refine⟨u,r,?_⟩;rcases l with⟨k,z⟩|⟨k,c,z,zc⟩
  .refine .inl ⟨k,?_⟩;have:y≠n:=λz=>E (nD h a (z▸L));simp[this,z]
  .exact .inr ⟨k,c,z,zc.sameBut O (I.cne y c z)⟩
 .obtain⟨w,z⟩:=I.cell x c e;exact⟨w,z.sameBut O (I.cne x c e)⟩
 .obtain⟨e,n,A,t,d⟩:=I.pin p hp;exact⟨G p.1 p.2 A e,n,A,t,d⟩
 .refine(I.hok b u q).stay (λc w hc z=>G c w ?_ z) (λ_ z=>z) λ_ _ z=>z;rintro rfl;rcases hc with rfl|hc
  .rw[I.free] at q;cases q
  .rw[I.free] at hc;cases hc
theorem QQ {A:Bn}{E:J7}{i:Aj}{O:Eb}{Q:Nq->Ai->Prop}(I:Inv X aa Y H s)(U:X.N.Nodup)(L:X.N[i]? = Aa n)(J:X.env.scope.names.lookup n=Aa .local)
  (h:∀ s',Inv X aa (Y.set i Zt) H s'->Q () s'):Ap M A (do Lm X.env n .none;unbindBehindTheSuite X.env n O) Q E s:=by
 obtain⟨m,B,G⟩:=id I.loc;exact wpAny_nameGoes_keeps J B (by rw[I.ok.kind];rfl) λT v hv N=>h _ (Inv.gone I U L G hv N)
end
noncomputable abbrev Cx.tryIn (X:Cx)(E:J7)(pn:J0):Cx:={ X with xe:=E,pn:=pn }
abbrev Cx.suite (X:Cx)(e:Af):Cx:=Cx.re X (X.A.mark (Aa (.ref e))) Yp λ_ _=>Fv
noncomputable def gD (c:Ac)(x:D):D:=match x with
 |.exl _ _ _=>x
 |_=>.exn c
def nF (N i:Aj)(cs:Y8)(f g:DS):DS:=λG S=>match f G S with
 |.ex c x U S1=>if cs.contains c then (match g ((Cu N Zt).set i (Aa (gD c x))) S1 with
   |.rt d J=>.rt d J
   |.nx Y J=>.nx (Y.set i Zt) J
   |_=>.bad) else .bad
 |o=>o
section
variable {X:Cx}{aa:J0}{Y: _L.St}{H:Hp}{s:Ai}
def Inv.inTry (I:Inv X aa Y H s)(E:J7):Inv (Cx.tryIn X E (X.pn++aa)) [] Y H s:=
 ⟨⟨I.ok.mod,I.ok.kind,I.ok.glob,I.ok.blt,I.ok.above,I.ok.inj,I.ok.has,I.ok.cab,I.ok.hd,I.ok.frames,I.ok.stk,I.ok.exf,I.ok.bs,I.ok.bsz,I.ok.noex,I.ok.exfs,I.ok.funs,I.ok.frf⟩,I.os,I.bare,I.base,I.loc,I.cell,I.free,I.freeC,λp J=>I.pin p (by simpa using J),I.hok,I.len⟩
def Inv.outTry (I:Inv (Cx.tryIn X E (X.pn++aa)) jd Y H s):Inv X aa Y H s:=
 ⟨⟨I.ok.mod,I.ok.kind,I.ok.glob,I.ok.blt,I.ok.above,I.ok.inj,I.ok.has,I.ok.cab,I.ok.hd,I.ok.frames,I.ok.stk,I.ok.exf,I.ok.bs,I.ok.bsz,I.ok.noex,I.ok.exfs,I.ok.funs,I.ok.frf⟩,I.os,I.bare,I.base,I.loc,I.cell,I.free,I.freeC,λp J=>I.pin p (Ds _ J),I.hok,I.len⟩
theorem SP.outTry {D:Ends}(h:SP (Cx.tryIn X E (X.pn++aa)) [] D f s'):SP X aa D f s':=by
 cases f with
 |next=>obtain⟨J,U,I,q⟩:=h;exact⟨J,U,Inv.outTry I,q⟩
 |brk=>obtain⟨J,U,I,q⟩:=h;exact⟨J,U,Inv.outTry I,q⟩
 |cont=>obtain⟨J,U,I,q⟩:=h;exact⟨J,U,Inv.outTry I,q⟩
 |ret u=>obtain⟨v,J,U,I,r,q⟩:=h;exact⟨v,J,U,Inv.outTry I,r,q⟩
def kx.outTry (f:kx (Cx.tryIn X E (X.pn++aa)) jd H c dd e h):kx X aa H c dd e h:=by
 have J:∀ b,pe X aa H b->pe (Cx.tryIn X E (X.pn++aa)) jd H b:=λb o=>by
  rcases o with o|o|⟨p,L,z⟩|o
  .exact .inl o
  .exact .inr (.inl o)
  .exact .inr (.inr (.inl ⟨p,Ds _ L,z⟩))
  .exact .inr (.inr (.inr o))
 cases f with
 |new O t I G U w A T=>exact .new O t I G U w (λz=>A (J e z)) T
 |fly B v fl N=>exact .fly B v fl λb o e q n=>N b o e (J b q) n
def JK {K:Ag}{P:Hp}{n:Aj}(h:Y.length=n):zH K P J Y (Cu n Zt):=by refine⟨by simp[h],λi d e=>?_⟩;rw[Mx] at e;split at e <;> cases e
def zH.unset {K:Ag}{P:Hp}(G:zH K P J Y ac)(i:Aj):zH K P J (Y.set i Zt) (ac.set i Zt):=by
 refine⟨by simp[G.1],λj d e=>?_⟩;by_cases U:i=j
 .subst U;by_cases N:i<ac.length
  .rw[Fn N] at e;cases e
  .rw[Iy (by simp;fin2)] at e;cases e
 .rw[De U] at e ⊢;exact G.2 j d e
end
section
variable {X:Cx}{ai:Eb}{f g:DS}
def NI {K:Ag}{P:Hp}(r:yf K P J c x dd):∃ φ,(∀ (G:Ba) (w:Bu) (H:Hp) (h:Bb) Y vs,h.get? e=Aa Y->Y.cls=c->Y.dict=dd->Y.data=.fields vs->zR G w H h e (.ext φ)) /\ ∀ U,qP P U->U e=Aa (.ext φ) -> am K U J (gD c x) (.ref e):=by
 have z:∃ φ,(∀ (G:Ba) (w:Bu) (H:Hp) (h:Bb) Y vs,h.get? e=Aa Y->Y.cls=c->Y.dict=dd->Y.data=.fields vs->zR G w H h e (.ext φ)) /\ ∀ U,qP P U->U e=Aa (.ext φ) -> am K U J (.exn c) (.ref e):=
  ⟨_,λG w H h Y vs O L _ _=>(⟨⟨Y,O,L⟩,⟨Y,O⟩,λA j ⟨o,B,N⟩ k=>⟨o,k o B,N⟩⟩:zR G w H h e (HV e c)),λU s q=>by simp only[am];exact⟨e,Z,q⟩⟩
 cases x with
 |exl I l t =>
  obtain⟨rfl,E,vs,rfl,q,y,v⟩:=r;refine⟨_,λG w H h Y vs O L T d=>(⟨⟨Y,O,L,T,vs,d⟩,⟨Y,O⟩,λA j ⟨o,B,N⟩ k=>⟨o,k o B,N⟩⟩:zR G w H h e (WH e I E)),λU s N=>?_⟩;show am K U J (.exl I l t) (.ref e);simp only[am];exact⟨e,E,vs,rfl,N,s _ _ q,y,qJ.mono s (Bt _) _ _ v⟩
 |_=>exact z
def CD {aa:J0}{D:Ends}{c:Ac}{x0:_D.D}{e C0:Af}{s':Ai}{Y:_L.St}{H P:Hp}{J:J9}{x n:Ah}{i:Aj}{T:Du}{N:Ab Du}{y:Eb}
  (F:Fn1 X) (hg:Gl X x) (hm:X.mg x=Aa (.ref C0)) (z3:∀ c∈cs,Jq X.K c (.ref C0)=Aa Vq) (hN:X.N.Nodup) (hi:X.N[i]? = Aa n) (L:X.env.scope.names.lookup n=Aa .local)
  (hs:∀ e,kg (Cx.suite X e) (T::N) (jb (Cx.suite X e) g)) (hc:cs.contains c=Vq) (I:Inv X aa Y H s') (r:bf X.K H P J S1) (fl:kx X aa H c dd e s'.heap) (ln:yf X.K P J c x0 dd)
  (G:zI X P J (match g ((Cu X.N.length Zt).set i (Aa (gD c x0))) S1 with|.rt d E=>.rt d E|.nx U E=>.nx (U.set i Zt) E|_=>.bad) D) (z2:(x == ("__debug__" : Ah))=Yp) :
  a8 X (Kb (.ref e) X.env) (λ_ a=>a8 X (Rn (.ref e) Zt) (λ_ m =>
   a8 X (handleBy (.ref e) X.env [.ExceptHandler (Aa (.Name x np)) (Aa n) (T::N) y]) (SP X aa D) X.xe m) X.xe a) X.xe s':=by
 have b:Jq X.K c (.ref C0)=Aa true:=z3 c (by simpa using hc);have j:∀ {Y : _L.St} {H:Hp} {s:Ai},Inv X aa Y H s->Inv (Cx.suite X e) aa Y H s:=λI=>Inv.re I _ Yp _ I.ok.frames λz=>nomatch z;refine PU I F I.ok.frames fl λh5 B f5 h k=>?_;refine wpAny_handleBy_cons (codeAny_handlers_test (A:=X.A.mark (Aa (.ref e))) (wA (X:=Cx.suite X e) (j h) hg hm ?_ z2)) (by intro q;cases q);obtain⟨yv,z7,y1,ys,zs,z4,_,_⟩:=dU h f5 k;refine(PySem.W.exm_one h.kIn (by subst z4;exact(PySem.W.Looks.ld zs).andThen .now) b).at ?_;refine codeAny_handlers_suite_as ?_;refine WU (s:={ s' with heap:=h5 }) f5 λh6 f6 u6=>?_;obtain⟨I6,z1⟩:=Inv.fly h F k f6.1 u6;obtain⟨t,zo,z8,yn,zl,zc,w,zn⟩:=dU I6 f6 z1;obtain⟨φ,ho,hr⟩:=NI (e:=e) ln;have l:Inv X aa Y (bx H e (.ext φ)) { s' with heap:=h6 }:=Inv.track I6 F t zo λ_=>ho _ _ _ _ _ _ zl zc w zn;have hn:H e=none:=by
  cases q:H e with
  |none=>rfl
  |some u=>exact absurd (.inr (.inl (by rw[q];intro z;cases z))) t
 obtain⟨r1,sP⟩:=r.pure (o:=.ext φ) hn;refine yL (X:=Cx.suite X e) (v:=.ref e) (j l) hN hi (.inl L) rfl (λs7 I7=>?_) (.inr L);have z5:zH X.K (bx P e (.ext φ)) J (Y.set i (Aa (.ref e))) ((Cu X.N.length Zt).set i (Aa (gD c x0))):=(JK I.len).set i (hr _ sP qT);refine Fm (hs e aa s7 _ _ { nx:=λY' O=>D.nx (Y'.set i Zt) O,rt:=D.rt } I7 ⟨_,J,_,S1,r1,z5,?_⟩) (λfl s8 q=>?_) λ_ _ z=>Am z
 .cases q:g ((Cu X.N.length Zt).set i (Aa (gD c x0))) S1 with
  |rt d E=>rw[q] at G;exact λv O P' J' r' e1 e2 rp=>G v O P' J' r' (sP.trans e1) e2 rp
  |nx U E=>rw[q] at G;exact λY' O P' J' r' z6 e1 e2=>G _ O P' J' r' (zH.unset z6 i) (sP.trans e1) e2
  |bk U E=>rw[q] at G;exact Am G
  |ct U E=>rw[q] at G;exact Am G
  |ex c' x' U E=>rw[q] at G;exact Am G
  |bad=>rw[q] at G;exact Am G
 .cases fl with
  |next =>
   obtain⟨Y',O,I8,q⟩:=q;exact QQ (Inv.unre I8 I.ok.frames I.ok.hd) hN hi L λs9 I9=>⟨_,O,I9,q⟩
  |brk =>
   obtain⟨_,_,_,q⟩:=q;exact Am q
  |cont =>
   obtain⟨_,_,_,q⟩:=q;exact Am q
  |ret u =>
   obtain⟨v,Y',O,I8,rv,q⟩:=q;exact QQ (Inv.unre I8 I.ok.frames I.ok.hd) hN hi L λs9 I9=>⟨v,_,O,I9,rv,q⟩
set_option tactic.hygienic true in
def HK {x n:Ah}{m:Af}{i:Aj}{N:Du}{G:Ab Du}{np B:Eb}(F:Fn1 X)(hb:∀ E t,Us (As X.prog X.w) X.A X.env E->kg (Cx.tryIn X E t) er (jb (Cx.tryIn X E t) f))
  (hs:∀ e,kg (Cx.suite X e) (N::G) (jb (Cx.suite X e) g)) (hg:Gl X x) (hm:X.mg x=Aa (.ref m)) (y:∀ c∈cs,Jq X.K c (.ref m)=Aa Vq) (hN:X.N.Nodup) (hi:X.N[i]? = Aa n:=by rfl) (o:X.env.scope.names.lookup n=Aa .local:=by rfl)
  (l:(x == ("__debug__" : Ah))=false:=by decide):PS X (.Try er [.ExceptHandler (Aa (.Name x np)) (Aa n) (N::G) B] [] [] ai) (jb X (nF X.N.length i cs f g)):=by
 intro b s Y H D I h;obtain⟨P,J,v,S,r,re,U⟩:=h;refine wpAny_Try_except ?_;refine Fm (hb _ (X.pn++b) (PassesOwn.looking (K:=λe T=>a8 X (Rn e Zt) (λ_ L=>a8 X (handleBy e X.env [.ExceptHandler (Aa (.Name x np)) (Aa n) (N::G) B]) (SP X b D) X.xe L) X.xe T) (E₁:=X.xe))
  [] s Y H D (Inv.inTry I _) ⟨P,J,v,S,r,re,?_⟩) (λfl s1 q=>?_) λ_ _ z=>z
 .unfold nF at U;cases q:f v S with
  |rt d A=>rw[q] at U;exact U
  |nx O A=>rw[q] at U;exact U
  |bk O A=>rw[q] at U;exact U
  |ct O A=>rw[q] at U;exact U
  |bad=>rw[q] at U;exact U
  |ex c x' O A =>
   rw[q] at U;dsimp only at U;intro u s' k;obtain⟨e,j,Y',H',P',J',rfl,I',r',a,e2,dd,fl,ln⟩:=k;split at U
   .rename_i hc;exact CD F hg hm y hN hi o hs hc (Inv.outTry I') r' (kx.outTry fl) ln (zI.base a e2 U) l
   .exact Am U
 .have w:=SP.outTry q;cases fl with
  |next=>exact Os w
  |brk=>exact w
  |cont=>exact w
  |ret u=>exact w
end
end _D
namespace _D
open _L PySem.W
variable {R:Qs->Ai->Prop}
structure og (K:Ag)(C:Af):Prop where
 ga:findIn K (.ref C) "__getattribute__" = Aa (Aa (.builtin "BaseException.__getattribute__"))
 hk:findIn K (.ref C) "__getattr__" = Aa Zt
 cl:findIn K (.ref C) "__class__" = Aa (Aa (.builtin "object.__class__"))
 sp:specialIn K (.builtin "object.__class__") "__get__" = Aa (Aa (.builtin "getset_descriptor.__get__"))
 tk:takesIn K (.builtin "object.__class__")=Aa Vq
 mo:mroIn K C (.type "object")=Aa Vq
 mb:mroIn K C (.type "BaseException")=Aa Vq
 isC:(clsIn K C).isSome=Vq
section
variable {prog:Ba}{w:Bu}{A:Bn}{E:J7}{s:Ai}{K:Ag}{x C:Af}
abbrev uN (x C:Af)(h:Bb):Prop:=∃ Q,h.get? x=Aa Q/\Q.cls=.ref C
def uN.type (I:uN x C h):Looks M h (typeOf (.ref x)) (.ref C):=by obtain⟨Q,e,c⟩:=I;rw[<- c];exact(Looks.ld e).andThen .now
def GS (X:K.In h)(Q:og K C):Looks M h (AaM (.ref x) (.ref C) "__class__") (.bind (.builtin "getset_descriptor.__get__") (.builtin "object.__class__")):=by have l1:=Mz (M:=M) X Q.cl;have l2:Looks M h (AaJ (Aa (.builtin "object.__class__"))) (Aa (.builtin "getset_descriptor.__get__")):=looks_specialIn X Q.sp;have l3:=looks_takesIn (M:=M) X Q.tk;have Y:Looks M h (Xg (Aa (.builtin "object.__class__")) (Aa (.builtin "getset_descriptor.__get__"))) (Aa (.builtin "getset_descriptor.__get__",.builtin "object.__class__")):=l3.andThen .now;exact l1.andThen (l2.andThen (Y.andThen (Looks.tag .now)))
def NK {tp:Ac}(X:K.In s.heap)(Q:og K C)(I:uN x C s.heap)(h:R (.ok (.ret (.ref C))) s) :
  Gn (As prog w) A (.call (.builtin "getset_descriptor.__get__") ⟨[.builtin "object.__class__",.ref x,tp],[]⟩) R s:=by
 have LT:=uN.type (M:=As prog w) I;have Y:=Ut (M:=As prog w) X Q.mo;cases s;refine Jm KF.slot_gs.plain KF.entry_gs (KF.slot_gs.check _ _ _ _ _ _ _ _ KF.type_class (KF.args_gs _ _ _) ?_);unfold Ih.«getset_descriptor.__get__» Xh;rw[dga_obj];refine Ad (An ?_);unfold Wb Ts Ub Wc;simp only[KF.owner_class]
 repeat lk
 refine⟨Mv _ (by decide +kernel),Je KF.entry_class ?_⟩;unfold Ih.«object.__class__» shownTypeOf
 repeat lk
 exact h
def HW {J:Ms}(X:K.In s.heap)(Y:og K C)(I:uN x C s.heap)(h:R (.ok (.ret (.ref C))) s) :
  Gn (As prog w) A (.call (.builtin "BaseException.__getattribute__") ⟨[.ref x,.str "__class__" J],[]⟩) R s:=by
 have LT:=uN.type (M:=As prog w) I;have N:=Ut (M:=As prog w) X Y.mb;have O:=GS (M:=As prog w) (x:=x) X Y;have B:builtinKind "BaseException.__getattribute__" = Aa .slot:=by decide +kernel
 have U:splitId "BaseException.__getattribute__" = Aa ("BaseException","__getattribute__"):=by decide +kernel
 have G:∀ (A:Bn) (Q:Nq->Ai->Prop) (E:J7),Q () s->Ap (As prog w) A (Sv "BaseException.__getattribute__" ⟨[.ref x,.str "__class__" J],[]⟩) Q E s:=by
  intro A Q E L;have T:=Vl (.ref x) (.str "__class__" J);simp only[Sv,B,U];unfold Wc;refine Ad (Ad (LT.here (N.here ?_)))
  repeat (any_goals (first|assumption|wp_step))
 refine Jm Ke.ga.plain Uu (G _ _ _ ?_);cases s;unfold Ih.«object.__getattribute__»;refine Ad (Jx (show slotArgs "__getattribute__" 1 ⟨[.ref x,.str "__class__" J],[]⟩=pure (.ref x,[.str "__class__" J]) from by kernel_rfl) ?_);refine Ad (An (Ad (LT.at (Ad (O.at ?_)))));show Ap _ _ (Ro _ _ _ _) _ _ _;unfold Ro;dsimp only;exact Ad (Dc (Kz (NK X Y I (An h))))
def VP {Q:Al Ac->Ai->Prop}(X:K.In s.heap)(Y:og K C)(I:uN x C s.heap)(h:Q (Aa (.ref C)) { s with toks:=s.toks+1 }) : Ap (As prog w) A (getAttr? (.ref x) "__class__") Q E s:=by
 have LT:=uN.type (M:=As prog w) I;have G:=Mz (M:=As prog w) X Y.ga;have U:=Mz (M:=As prog w) X Y.hk;unfold getAttr? getAttrBy? getAttrBy;cases s;refine Ad (wpAny_mkText (Ad (Kn (Dc (Ad (LT.at (Ad (G.at ?_))))))));dsimp only;have J:(L2 "BaseException.__getattribute__" == L2 "object.__getattribute__")=false:=by decide +kernel
 rw[J,Hu,AT Fc];unfold Zz hookBefore;rw[Au (show onTheHeap (.ref C)=Vq from Z)];refine Ad (U.at (Ad (Kn (Dc ?_))));unfold Ze;rw[Gp,AT Fc];unfold boundAndCalled;refine Ad (Jx (Ke.ga.bind (.ref x)) ?_);refine Kz (HW X Y I ?_);show Ap _ _ (handedOut (.ref C)) _ _ _;exact An (An h)
set_option tactic.hygienic true in
def b7 (Q:og K C):KitX K (.ref x) (.ref C) (uN x C) where
 ty:=λ_ _ _ I=>I.type
 it:=λM h X _=>by
  have z:=Q.isC;unfold clsIn at z;split at z
  .rename_i J;intro j N H T k q;unfold isType loadHead;exact Ad (Pw (k _ _ (X _ _ J)) (An q))
  .cases z
 ne:=λh U L B n O X Y=>by
  have z:=Q.isC;unfold clsIn at z;split at z
  .rename_i J;cases G:(Ca C == Ca U) with
   |false=>rfl
   |true =>
    obtain rfl:C=U:=Value.ref.inj (Ig.mp G);have y:=(X _ _ J).symm.trans Y;cases y
  .cases z
 ca:=λX I k=>VP X Q I k
end
end _D
namespace _D
open _L
variable {ju:Ab (Ah × Af)}{J J1:J9}{ds:Ab D}{E:J7}{a C:Af}{K:Ag}{s:Ai}{w:Bu}{o:Cd}{H P P1:Hp}
def FA {J:Type}{t:Kk J}{Q Y:J->Ai->Prop}(h:Ap M A t Q (λ_ _=>Fv) s)(U:∀ a s,Q a s->Y a s):Ap M A t Y E s:=Fm h U λ_ _ x=>x.elim
def kG (Q:Ab Bl)(ac:Hg):Kk Ar:=forIn Q Vq λc r=>if r=Vq then do let ok <- AaN c ac (eval c ac);pure (Ko ok) else pure (Ko r)
def ut (X:Cx)(G:Ab Bl)(t:DT):Prop:=
 ∀ (U:J0) (s:Ai) (Y : _L.St) (H:Hp) (Q:Ar->Hp->Prop),Inv X U Y H s->oi X t Y H Q->a8 X (kG G X.env) (TP X U Y Q) X.xe s
def zU:DT:=λ_ S=>.ok Vq S
section
variable {X:Cx}
theorem tI {prog:Ba}{A:Bn}{ac:Hg}{Q:Ar->Ai->Prop}:∀ (Y:Ab Bl) {s:Ai},Q Yp s ->
  Ap (As prog w) A (forIn Y Yp λc r=>if r=Vq then do let ok <- AaN c ac (eval c ac);pure (Ko ok) else pure (Ko r)) Q E s
 |[],s,h=>by rw[Nj];exact An h
 |c::U,s,h=>by rw[Mh];rw[AT aA];refine Ad (An ?_);exact tI U h
def NA:ut X [] zU:=λO s Y H Q I ⟨P,J,G,S,r,N,U⟩=>by unfold kG;rw[Nj];exact An ⟨H,I,U H P J r (qP.refl _) (Bt _)⟩
def GO (z:PT X c (oi X t))(l:ut X O u):ut X (c::O) (yO t u):=λA s Y H Q I ⟨P,J,g,S,r,d,p⟩=>by
 unfold kG;rw[Mh,Au rfl];refine Ad (Ad (bi (gY (λk q=>z A s Y H k I q) r d p) λb j ⟨N,P1,J1,y,M,T,G,B,L,U⟩=>An ?_));cases b with
 |true=>exact l A j Y N Q M ⟨P1,J1,g,y,T,G,yE.base B L U⟩
 |false=>exact tI O ⟨N,M,U N P1 J1 T B L⟩
def qA3 {S:ag}(u:ut X N t)(I:Inv X aa Y H s)(r:bf X.K H P J S)(L:zH X.K P J Y ac)(q:t ac S=.ok b S1) :
  a8 X (kG N X.env) (λU G=>U=b/\∃ Q P1 J1,Inv X aa Y Q G/\bf X.K Q P1 J1 S1/\zH X.K P1 J1 Y ac/\qP P P1/\J<+:J1) X.xe s:=by
 refine bi (u aa s Y H (λU Q=>U=b/\∃ P1 J1,bf X.K Q P1 J1 S1/\zH X.K P1 J1 Y ac/\qP P P1/\J<+:J1) I ⟨P,J,ac,S,r,L,?_⟩) λU G ⟨Q,j,e,P1,J1,M,T,A,k⟩=>⟨e,Q,P1,J1,j,M,T,A,k⟩;rw[q];exact λl p y z O B=>⟨Z,p,y,z,L.mono O B,O,B⟩
def qBw {ac Q:qG}{S:ag}{d:D}{S1:ag}(j:PG X tg (rq X g))(I:Inv X aa Y H s)(r:bf X.K H P J S)(y:zH X.K P J Y ac)(l:qR v u)
  (k:am X.K P J d v) (q:g d ac S=.ok Q S1) :
  a8 X (assign tg X.env u) (λ_ O=>∃ G U P1 J1,Inv X aa G U O/\bf X.K U P1 J1 S1/\zH X.K P1 J1 G Q/\qP P P1/\J<+:J1) X.xe s:=by
 refine bi (j aa s Y H v u (λG U=>∃ P1 J1,bf X.K U P1 J1 S1/\zH X.K P1 J1 G Q/\qP P P1/\J<+:J1) I l ⟨P,J,ac,S,d,r,y,k,?_⟩) λ_ O ⟨G,U,p,P1,J1,M,B,L,f⟩=>⟨G,U,P1,J1,p,M,B,L,f⟩;rw[q];exact λn m t c z N T A=>⟨t,c,z,N,T,A⟩
def bZ (K:Ag)(P:Hp)(J : Ab Af)(ds:Ab D)(o:Cd):Prop:=∃ (Q:Y8) (n:Aj) (Y:Ab V),o={ cls:=.type "list",data:=.seq Q.toArray n } /\ qQ Y Q/\qJ K P J ds Y/\ds.length<=bb
def bZ.mono (e:qP P P1)(h:J<+:J1)(a:bZ K P J ds o):bZ K P1 J1 ds o:=by obtain⟨Q,n,Y,O,G,N,U⟩:=a;exact⟨Q,n,Y,O,G,qJ.mono e h _ _ N,U⟩
def bZ.cell (a:bZ K P J ds o):∀ v,o.data≠.cell v:=by obtain⟨Q,n,Y,rfl,_⟩:=a;intro v z;cases z
def Inv.pin1 (I:Inv X aa Y H s)(f:xJ X aa H a)(e:s.heap.get? a=Aa o)(d:∀ v,o.data≠.cell v):Inv X (aa++[(a,o)]) Y H s:=
 I.pins_of λp Q=>(Cg.mp Q).elim (λz=>I.pin p (Ce _ z)) λz=>by
  have U:p=(a,o):=by simpa using z
  subst U;exact⟨e,f.1,f.2.1,f.2.2.1,d⟩
def Inv.pinned1 {aa:J0}{Y:_L.St}(I:Inv X (aa++[(a,o)]) Y H s):s.heap.get? a=Aa o/\H a=none:=by have:=I.pin (a,o) (Ce _ (Ce _ aA));exact⟨this.1,this.2.1⟩
end
structure Acc where
 m:Ar
 O:Ag->Hp->Ab Af->Ab D->Cd->Prop
 mono:∀ {K:Ag} {P P1:Hp} {J J1:J9} {ds:Ab D} {o:Cd},qP P P1->J<+:J1->O K P J ds o->O K P1 J1 ds o
 cell:∀ {K:Ag} {P:Hp} {J : Ab Af} {ds:Ab D} {o:Cd},O K P J ds o->∀ v,o.data≠.cell v
@[reducible] def nz:Acc:=⟨Yp,bZ,bZ.mono,bZ.cell⟩
def wF (m:Ar)(U:Bl)(Q:Ab Dz)(ae:Ez)(Y:Eb):Bl:=match m with
 |false=>.ListComp U Q ae Y
 |true=>.SetComp U Q ae Y
structure gb (B:Acc)(Yww:Cx)(pins:J0)(P1:Hp)(J1:J9)(fp:J9)(acc:Af)(env:qG)(S:ag)(ds:Ab D)(s:Ai)(Y : _L.St)(H P:Hp)(J : Ab Af)(o:Cd):Prop where
 inv:Inv Yww pins Y H s
 rel:bf Yww.K H P J S
 env:zH Yww.K P J Y env
 same:qP P1 P
 pre:J1<+:J
 fpn:∀ b∈fp,H b=Zt
 acn:H acc=Zt
 at':s.heap.get? acc=Aa o
 acc:B.O Yww.K P J ds o
noncomputable def vY (ju:Ab (Ah × Af)):Ab (Ah × Hz)->Ab (Ah × Af)->Ab (Ah × Af)
 |[],Q=>Q
 |(n,k)::r,Q=>vY ju r (if k == .free then (n,(ju.lookup n).getD 0)::Q else Q)
def hZ {ac:Hg}{ae:Ez}(h:∀ y∈ae.names,y.2=.free->∃ c,ac.cells.lookup y.1=Aa c):closureFor ae ac=pure (vY ac.cells ae.names []):=by
 have A:∀ (l:Ab (Ah × Hz)) (Y:Ab (Ah × Af)),(∀ y∈l,y.2=.free->∃ c,ac.cells.lookup y.1=Aa c) ->
   (forIn l Y λx Y=>match x with|(Q,U)=>if (U == Hn)=Vq then do let a <- cellOf ac Q;pure (Ko ((Q,a)::Y)) else pure (Ko Y):Kk (Ab (Ah × Af)))=pure (vY ac.cells l Y):=by
  intro l
  induction l with
  |nil=>intro Y _;rfl
  |cons y r B =>
   intro Y O;obtain⟨n,k⟩:=y;rw[Mh];by_cases T:k=.free
   .subst T;obtain⟨c,I⟩:=O (n,.free) Cr rfl;have G:ac.cells.lookup n=Aa c:=I;have e:cellOf ac n=pure c:=by unfold cellOf;rw[G]
    simp only[En,Dw,e,pure_bind];rw[B _ λz N=>O z (Bm _ N)];simp only[vY,En,Dw,G,Sw]
   .have L:(k == Hn)=false:=by simpa using T
    simp only[L,Bs,Dp,pure_bind];rw[B _ λz N=>O z (Bm _ N)];simp only[vY,L,Bs,Dp]
 unfold closureFor;have:=A ae.names [] h;simp only[bind_pure];exact this
theorem t7:∀ (l:Ab (Ah × Hz)) (Y:Ab (Ah × Af)),(vY ju l Y).lookup x=Aa c->Y.lookup x=Aa c\/((x,Hn)∈l/\c=(ju.lookup x).getD 0)
 |[],Y,h=>.inl h
 |(n,k)::r,Y,h=>by
  rcases t7 r _ h with h|⟨G,N⟩
  .by_cases U:k=.free
   .subst U;simp only[En,Dw,Eo] at h;cases Q:x == n with
    |true =>
     rw[Q] at h;have e:x=n:=by simpa using Q
     subst e;exact .inr ⟨Cr,(Cw h).symm⟩
    |false=>rw[Q] at h;exact .inl h
   .have Q:(k == Hn)=false:=by simpa using U
    simp only[Q,Bs,Dp] at h;exact .inl h
  .exact .inr ⟨Bm _ G,N⟩
theorem rR {x:Ah}:∀ (l:Ab (Ah × Hz)) (Q:Ab (Ah × Af)),((x,Hn)∈l\/∃ c,Q.lookup x=Aa c)->∃ c,(vY ju l Q).lookup x=Aa c
 |[],Q,h=>by
  rcases h with h|h
  .cases h
  .exact h
 |(n,k)::r,Q,h=>by
  refine rR r _ ?_;rcases h with h|⟨c,h⟩
  .rcases Ay.mp h with e|h
   .cases e;exact .inr ⟨(ju.lookup x).getD 0,by simp only[En,Dw,Eo]⟩
   .exact .inl h
  .by_cases Y:k=.free
   .subst Y;simp only[En,Dw,Eo];cases U:x == n with
    |true=>exact .inr ⟨_,rfl⟩
    |false=>exact .inr ⟨c,h⟩
   .have U:(k == Hn)=false:=by simpa using Y
    simp only[U,Bs,Dp];exact .inr ⟨c,h⟩
structure gh (scX:Ez)(NX:Y0)(scope:Ez)(N':Y0)(cap:Ab (Al Aj)):Prop where
 kind:scope.kind=.function
 names:∀ y∈scope.names,y.2=.local -> scope.names.lookup y.1=Aa .local
 cel:∀ y∈scope.names,y.2=.cell->scope.names.lookup y.1=Aa .cell
 free:∀ y∈scope.names,y.2=.free->scX.names.lookup y.1=Aa .cell\/scX.names.lookup y.1=Aa .free
 fr2:∀ y∈scope.names,y.2=.free->scope.names.lookup y.1=Aa .free
 len:cap.length=N'.length
 caps:((cap.zip N').all λp=>match p.1 with|none=>Vq|some i=>NX[i]? == Aa p.2&&scope.names.lookup p.2 == Aa .free)=Vq
 nd:N'.Nodup
def uF (cr:Ab (Al Aj))(Y : _L.St):_L.St:=cr.map λo=>match o with
 |none=>Zt
 |some i=>(Y[i]?).join
def zZ (cr:Ab (Al Aj))(ac:qG):qG:=cr.map λo=>match o with
 |none=>Zt
 |some i=>(ac[i]?).join
def JJ (O:zH K P J Y ac)(cr:Ab (Al Aj)):zH K P J (uF cr Y) (zZ cr ac):=by
 refine⟨by simp[uF,zZ],λj d e=>?_⟩;unfold zZ at e;unfold uF;rw[Es] at e ⊢;cases q:cr[j]? with
 |none=>rw[q] at e;cases e
 |some o =>
  rw[q] at e;cases o with
  |none=>cases e
  |some i =>
   have Q:(ac[i]?).join=Aa d:=by simpa using e
   cases z:ac[i]? with
   |none=>rw[z] at Q;cases Q
   |some w =>
    rw[z] at Q;have U:w=Aa d:=Q;subst U;obtain⟨v,G,N⟩:=O.2 i d z;exact⟨v,by simp[G],N⟩
noncomputable def yY (X:Cx)(Q:Y0)(ae:Ez)(Y:Ab (Ah × Af))(C:Af)(ex:J9)(s₀:Ai)(H₀:Hp):Cx:=
 { X with N:=Q,s₀:=s₀,H₀:=H₀,env:=compEnvC ae Y C X.env,outer:=X.stack,stack:=X.stack,ex:=ex,fn:=λx=>decide (ae.names.lookup x=Aa .cell),pn:=[],xe:=λ_ _=>Fv }
theorem kA {ae:Ez}{ac:Hg}:∀ {Q:Ab (Ah × Hz)} {x:Ah} {k:Hz},
  (Q.map λ(n,k)=>if (k == Hn&&ac.scope.kind == .function&&ac.kindOf n == Aa .cell) then (n,Oc) else (n,k)).lookup x=Aa k ->
  Q.lookup x=Aa k\/(k=.cell/\Q.lookup x=Aa .free)
 |[],_,_,h=>by simp at h
 |(n,G)::r,x,k,h=>by
  rw[Ee,Eo] at h;rw[Eo];dsimp only at h;cases U:(G == Hn&&ac.scope.kind == .function&&ac.kindOf n == Aa .cell) with
  |true =>
   rw[U] at h;simp only[Dw] at h;cases Y:x == n with
   |true =>
    rw[Y] at h;have e:Oc=k:=Cw h;have N:G=.free:=by have:=(Av _ _).mp U;have:=(Av _ _).mp this.1;simpa using this.1
    subst N;exact .inr ⟨e.symm,rfl⟩
   |false=>rw[Y] at h;exact kA (ae:=ae) h
  |false =>
   rw[U] at h;simp only[Bs,Dp] at h;cases Y:x == n with
   |true=>rw[Y] at h;exact .inl h
   |false=>rw[Y] at h;exact kA (ae:=ae) h
section
variable {X:Cx}{ae:Ez}{N':Y0}{cr:Ab (Al Aj)}{aa:J0}{Y: _L.St}{H2:Hp}{s2:Ai}{fp:J9}
def pO (S:gh X.env.scope X.N ae N' cr){x:Ah}{k:Hz}(h:(relabel ae X.env).names.lookup x=Aa k):ae.names.lookup x=Aa k\/(k=.cell/\ae.names.lookup x=Aa .free):=kA (ae:=ae) h
def V8 (S:gh X.env.scope X.N ae N' cr)(ok:X.Ok){x:Ah}{c:Af}(h:(vY X.env.cells ae.names []).lookup x=Aa c):X.env.cells.lookup x=Aa c/\(x,Hn)∈ae.names:=by
 rcases t7 _ _ h with h|⟨G,U⟩
 .cases h
 .have:=S.free _ G Z;obtain⟨N,Q⟩:=ok.has x this;rw[Q,Sw] at U;rw[Q,U];exact⟨rfl,G⟩
def BA (ae:Ez)(C:Af):Ab (Ah × Af):=HT (C+1) ae.names []
def jR (X:Cx)(ae:Ez)(C:Af):Ab (Ah × Af):=HT (C+1) ae.names (vY X.env.cells ae.names [])
theorem vM:∀ (Q:Ab (Ah × Hz)) (lo:Aj) (ao:Ab (Ah × Af)),HT lo Q ao=HT lo Q [] ++ ao
 |[],_,_=>rfl
 |(n,k)::r,lo,ao=>by
  unfold HT;split
  .rw[vM r _ ((n,lo)::ao),vM r _ [(n,lo)],Jj];rfl
  .exact vM r lo ao
set_option tactic.hygienic true in
theorem fD:∀ (Q:Ab (Ah × Hz)) (lo:Aj) {n:Ah} {c:Af},(n,c)∈HT lo Q [] -> (n,Oc)∈Q
 |[],_,_,_,h=>by cases h
 |(G,k)::r,lo,n,c,h=>by
  unfold HT at h;split at h
  .rename_i U;rw[vM] at h;rcases Cg.mp h with h|h
   .exact Bm _ (fD r _ h)
   .have e:(n,c)=(G,lo):=by simpa using h
    cases e;have:k=Oc:=by simpa using U
    rw[this];exact Cr
  .exact Bm _ (fD r _ h)
def xU (S:gh X.env.scope X.N ae N' cr)(ok:X.Ok){C:Af}{x:Ah}{c:Af}(h:(jR X ae C).lookup x=Aa c):((x,c)∈BA ae C/\ae.names.lookup x=Aa .cell)\/(X.env.cells.lookup x=Aa c/\(x,Hn)∈ae.names):=by
 unfold jR at h;rw[vM,Wy] at h;cases q:(HT (C+1) ae.names []).lookup x with
 |some Q =>
  rw[q] at h;cases h;have m:=Ga q;exact .inl ⟨m,S.cel _ (fD _ _ m) rfl⟩
 |none =>
  rw[q] at h;exact .inr (V8 S ok h)
def aG (S:gh X.env.scope X.N ae N' cr)(ok:X.Ok){C:Af}{x:Ah}(h:ae.names.lookup x=Aa .cell\/ae.names.lookup x=Aa .free):∃ c,(jR X ae C).lookup x=Aa c:=by
 unfold jR;rw[vM,Wy];rcases h with h|h
 .have:=Nr ae.names (C+1) [] (x:=x) (.inl h);obtain⟨c,U⟩:=Mo.mp this;exact⟨c,by rw[U];rfl⟩
 .obtain⟨G,Q⟩:=rR (ju:=X.env.cells) ae.names [] (.inl (Ga h));rw[Q];cases (HT (C+1) ae.names []).lookup x with
  |none=>exact⟨G,rfl⟩
  |some c=>exact⟨c,rfl⟩
def TJ (S:gh X.env.scope X.N ae N' cr)(Q:Inv X aa Y H2 s2)(j:∀ b∈fp,xJ X aa H2 b)(I:∀ b∈fp,b<s2.heap.objs.size)(N:s2.heap.objs.size<=C){O:Bb}(A:CellsOk O (C+1) (BA ae C)) :
  (yY X N' ae (jR X ae C) C fp s2 H2).Ok where
 mod:=Q.ok.mod
 kind:=S.kind
 glob:=Q.ok.glob
 blt:=Q.ok.blt
 above:=N
 inj:=λx y c O L=>by
  rcases xU S Q.ok O with⟨B,_⟩|⟨B,_⟩ <;> rcases xU S Q.ok L with⟨T,_⟩|⟨T,_⟩
  .exact PySem.name_of_addr A.apart B T
  .obtain⟨v,q,U,_⟩:=Q.cell y c T;exact absurd (Bo (Bh U) N) (Lz.mpr (Hi (A.empty x c B).2))
  .obtain⟨v,q,U,_⟩:=Q.cell x c B;exact absurd (Bo (Bh U) N) (Lz.mpr (Hi (A.empty y c T).2))
  .exact Q.ok.inj x y c B T
 has:=λx M=>by
  have u:(relabel ae X.env).names.lookup x=Aa .cell\/(relabel ae X.env).names.lookup x=Aa .free:=M;refine aG S Q.ok ?_;rcases u with h|h
  .rcases pO S h with h|⟨_,h⟩
   .exact .inl h
   .exact .inr h
  .rcases pO S h with h|⟨z,_⟩
   .exact .inr h
   .cases z
 cab:=λx c h L=>by
  have M:ae.names.lookup x=Aa .cell:=Bg h;rcases xU S Q.ok L with⟨m,_⟩|⟨_,m⟩
  .exact By N (Hi (A.empty x c m).2)
  .have:=S.fr2 _ m Z;have this':ae.names.lookup x=Aa .free:=this;rw[M] at this';cases this'
 hd:=Q.ok.hd
 frames:=Q.ok.frames
 stk:=.inl Z
 exf:=λb G=>⟨Cn (Bo (I b G) N),λx c h=>by
  rcases xU S Q.ok h with⟨m,_⟩|⟨m,_⟩
  .exact Di (Cn (Pi (Bo (I b G) N) (A.empty x c m).2))
  .exact(j b G).2.2.2.2.1 x c m⟩
 bs:=Q.bs
 bsz:=By Q.ok.bsz Q.sz
 noex:=λb o e G=>by
  obtain⟨_,_,_,h,_⟩:=j b G;rcases h with h|h
  .exact Q.ok.noex b o e h
  .exact absurd (Bo (Bh e) (By Q.ok.bsz h)) (Fh _)
 exfs:=λb G k=>by
  obtain⟨_,O,L,_⟩:=j b G;rcases Ay.mp (Q.stkSub b k) with z|z
  .exact O z
  .exact L z
 funs:=Q.stack
 frf:=Q.stkFree
def KZ {s4:Ai}{m:J8}(S:gh X.env.scope X.N ae N' cr)(U:Inv X aa Y H2 s2)(hf:∀ b∈fp,xJ X aa H2 b)(y:∀ b∈fp,b<s2.heap.objs.size)(d:s2.heap.objs.size<=C)
  (hn:s4.heap.Ns C m) (os:s4.os=s2.os) (bp:s4.gens=s2.gens) (Q:∀ b o,s2.heap.get? b=Aa o->s4.heap.get? b=Aa o) (f:CellsOk s4.heap (C+1) (BA ae C)) :
  Inv (yY X N' ae (jR X ae C) C fp s2 H2) [] (uF cr Y) H2 s4 where
 ok:=TJ S U hf y d f
 os:=os
 bare:=bp▸U.bare
 base:=Un.kept Q
 loc:=by
  refine⟨m,hn,λj x v h1 O h3=>?_⟩;have t:N'[j]? = Aa x:=h1;unfold uF at O;rw[Es] at O;cases q:cr[j]? with
  |none=>rw[q] at O;cases O
  |some o =>
   rw[q] at O;cases o with
   |none=>cases O
   |some i =>
    have M:(Y[i]?).join=Aa v:=by simpa using O
    have hY:Y[i]? = Aa (Aa v):=by
     cases z:Y[i]? with
     |none=>rw[z] at M;cases M
     |some w=>rw[z] at M;have:w=Aa v:=M;rw[this]
    have hz:(Aa i,x)∈cr.zip N':=by refine Uv.mpr ⟨j,?_⟩;rw[List.getElem?_zip_eq_some];exact⟨q,t⟩
    have hc:=Bk.mp S.caps _ hz;simp only[Av,Ig] at hc;obtain⟨hN,G⟩:=hc;have hk:=S.free _ (Ga G) rfl;obtain⟨mo,zc,hl⟩:=U.loc;have n:qg X.env.scope x:=by
     rcases hk with k|k
     .exact .inr (.inl k)
     .exact .inr (.inr k)
    obtain⟨u,ru,lk⟩:=hl i x v hN hY n;refine⟨u,ru,?_⟩;rcases lk with⟨kl,_⟩|⟨_,c,r,B⟩
    .have A:X.env.scope.names.lookup x=Aa .local:=kl;rcases hk with k|k
     .have I:X.env.scope.names.lookup x=Aa .cell:=k;rw[A] at I;cases I
     .have I:X.env.scope.names.lookup x=Aa .free:=k;rw[A] at I;cases I
    .obtain⟨c',T⟩:=aG S U.ok (C:=C) (.inr G);have e:X.env.cells.lookup x=Aa c':=by
      rcases xU S U.ok T with⟨_,z⟩|⟨z,_⟩
      .rw[G] at z;cases z
      .exact z
     rw[r] at e;cases e;refine .inr ⟨?_,c,T,?_⟩
     .have g:qg (relabel ae X.env) x:=h3;rcases g with h|h|h
      .rcases pO S h with h|⟨z,_⟩
       .rw[G] at h;cases h
       .cases z
      .exact .inl h
      .exact .inr h
     .obtain⟨L,N,l⟩:=B;exact⟨L,Q c L N,l⟩
 cell:=λx c h=>by
  rcases xU S U.ok h with⟨m,_⟩|⟨m,_⟩
  .exact⟨Zt,(f.empty x c m).1⟩
  .obtain⟨v,L,N,l⟩:=U.cell x c m;exact⟨v,L,Q c L N,l⟩
 free:=U.hok.fresh d
 freeC:=λx c h=>by
  rcases xU S U.ok h with⟨m,_⟩|⟨m,_⟩
  .exact U.hok.fresh (By d (Hi (f.empty x c m).2))
  .exact U.freeC x c m
 pin:=λp hp=>absurd (show p∈([]:J0) from hp) aA
 hok:=U.hok.kept Q
 len:=by show (uF cr Y).length=N'.length;simp[uF,S.len]
end
def U0 {P:Ba}{o:HO}(x:jm P w H h)(U:H a=Zt)(Q:zR P w (bx H a o) h a o):jm P w (bx H a o) h:=λb u e=>by
 by_cases Y:b=a
 .subst Y;rw[qT] at e;cases e;exact Q
 .rw[qN Y] at e;exact(x b u e).stay (λc v _ q=>q) (λc q=>by rw[qN (zE q U)];exact q) λc G q=>by rw[qN (zE q U)];exact q
def VZ {P:Ba}{h h':Bb}(x:jm P w H h)(Q:H C=Zt)(k:∀ b o,b≠C->h.get? b=Aa o->h'.get? b=Aa o):jm P w H h':=λb u e =>
 (x b u e).stay (λc v Y q=>k c v (by
  rintro rfl;rcases Y with z|z
  .subst z;rw[Q] at e;cases e
  .rw[Q] at z;cases z) q) (λ_ q=>q) λ_ _ q=>q
section
variable {X:Cx}{ae:Ez}{N':Y0}{cr:Ab (Al Aj)}
def gI (X:Cx)(aa:J0)(Y : _L.St)(P1:Hp)(J1:J9)(ds:Ab D)(O:ag)(ao C:Af)(s:Ai):Prop:=
 ∃ (Q G:Hp) (U : Ab Af) (N:Ab V),Inv X aa Y (bx Q ao (.lst N)) s/\bf X.K Q G U O/\Q ao=Zt/\qP P1 G/\J1<+:U/\qJ X.K G U ds N/\Q C=Zt
def aF {az:Cx}{Y Y':_L.St}{U s':Ai}{fp:J9}{ao:Af}{H' l:Hp}{f:J9}{L:qG}{v:ag}{cl:Ab (Ah × Af)}(I2:Inv X aa Y T U)
  (m:∀ b∈fp,xJ X aa T b) (hY:az=yY X N' ae cl C fp U T) (hC:U.heap.objs.size<=C) (x:U.heap.objs.size<=ao) (A:ao≠C) (st:gb nz az [] P1 J1 fp ao L v ds s' Y' H' l f o)
  {h':Bb} (sb:Ex C s'.heap h'):gI X aa Y P1 J1 ds v ao C { s' with heap:=h' }:=by
 subst hY;obtain⟨c,n,j,rfl,rv,d,hz⟩:=st.acc;have O:∀ b o,b≠C->s'.heap.get? b=Aa o->h'.get? b=Aa o:=λb o N e=>(sb.2 b N).trans e;have z:∀ b o,U.heap.get? b=Aa o->b≠C:=λb o e=>Cn (Bo (Bh e) hC);have nA:∀ b o,U.heap.get? b=Aa o->b≠ao:=λb o e=>Cn (Bo (Bh e) x);have base:Un (gv X.stack) fp T H' U.heap s'.heap:=st.inv.base;have y:∀ b u,H' b=Aa u->b≠ao:=λb u e=>zE e st.acn;have un:Un (gv X.stack) fp T (bx H' ao (.lst j)) U.heap h':=by
  refine⟨λb Q q I N G=>O b Q (z b Q q) (base.keep b Q q I N G),λb Q q I N G=>?_,λb Q q I G=>?_,λb Q q G=>?_,λb i q=>?_,λb Q u q=>?_,λb ps q=>?_⟩
  .obtain⟨h,e⟩:=base.slot b Q q I N G;exact⟨h,O b _ (z b Q q) e⟩
  .rw[qN (nA b Q q)];exact base.free b Q q I G
  .obtain⟨p,e⟩:=base.there b Q q G;exact⟨p,O b p (z b Q q) e⟩
  .have:=base.tups b i q;rw[qN (y _ _ this)];exact this
  .have:=base.frzs b Q u q;rw[qN (y _ _ this)];exact this
  .obtain⟨jd,e⟩:=base.tbls b ps q;exact⟨jd,by rw[qN (y _ _ e)];exact e⟩
 have B:jm X.prog X.w H' h':=VZ st.inv.hok st.inv.free O;have k:h'.get? ao=Aa { cls:=.type "list",data:=.seq c.toArray n }:=O ao _ A st.at';have M:jm X.prog X.w (bx H' ao (.lst j)) h':=U0 B st.acn ⟨by rw[<- d.length,<- zM];exact hz,c,n,rv,k⟩;refine⟨H',l,f,j,?_,st.rel,st.acn,st.same,st.pre,d,st.inv.free⟩;exact I2.call' (s':={ s' with heap:=h' }) (ch:=fp) (st.inv.os) un M st.inv.bare λb N=>by obtain⟨_,r,h2,h3,h4,h5⟩:=m b N;exact⟨h3,r,h4,h5⟩
def Q9 (S:gh X.env.scope X.N ae N' cr)(ok:X.Ok):closureFor ae X.env=pure (vY X.env.cells ae.names []):=hZ λy Y Q=>ok.has y.1 (S.free y Y Q)
def ND (c:gI X aa Y P1 J1 ds U ao C s)(ok:gy X P1 J1 Q (.lst ds) U):EP X aa Y Q (.ref ao) s:=by obtain⟨q,p,k,u,I,r,z,N,B,y,_⟩:=c;exact⟨.ref ao,_,I,rfl,wH r z y λv M L T j A G O=>ok v M L T j (N.trans A) (B.trans G) O⟩
end
end _D
section
namespace _D
open _L PySem.SeqAt
noncomputable def Z1 (b:Ar):Aq:=if b then 1 else 0
mutual
def g_:D->D->Ar
 |.non,.non=>Vq
 |.bl a,.bl b=>a == b
 |.bl a,.int b=>Z1 a == b
 |.int a,.bl b=>a == Z1 b
 |.int a,.int b=>a == b
 |.str a,.str b=>a == b
 |.tup Q,.tup Y=>xT Q Y
 |.lst Q,.lst Y=>xT Q Y
 |_,_=>Yp
def xT:Ab D->Ab D->Ar
 |[],[]=>Vq
 |x::Q,y::Y=>g_ x y&&xT Q Y
 |_,_=>Yp
end
noncomputable def pl:Aj->D->Ar
 |_,.non=>Vq
 |_,.bl _=>Vq
 |_,.int _=>Vq
 |_,.str _=>Vq
 |n+1,.tup Q=>Q.all (pl n)
 |n+1,.lst Q=>Q.all (pl n)
 |_,_=>Yp
def VL (x y:D)(xs ys:Ab D):xT (x::xs) (y::ys)=(g_ x y&&xT xs ys):=Z
theorem vF:∀ (xs ys:Ab D),xT xs ys=((Ch (min xs.length ys.length)).all (λj=>g_ (xs.getD j .non) (ys.getD j .non))&&xs.length == ys.length)
 |[],[]=>rfl
 |[],y::ys=>rfl
 |x::xs,[]=>rfl
 |x::xs,y::ys=>by
  have Q:=vF xs ys;rw[VL,Q,Aw,Aw,Nat.succ_min_succ,Kq,Ik,Ia,Bool.and_assoc];have e:(xs.length+1 == ys.length+1)=(xs.length == ys.length):=by simp
  rw[e];rfl
def GR {xs ys:Ab D}(h:xs.length≠ys.length):xT xs ys=false:=by rw[vF];simp[h]
def dS (xs ys:Ab D):g_ (.tup xs) (.tup ys)=xT xs ys:=Z
def dR (xs ys:Ab D):g_ (.lst xs) (.lst ys)=xT xs ys:=Z
section
variable {X:Cx}{aa:J0}{Y: _L.St}{H P:Hp}{J: Ab Af}{S:ag}{s:Ai}
inductive Kd (X:Cx)(P:Hp)(J : Ab Af)(s:Ai):D->Ac->Prop where
 |non:Kd X P J s .non .none
 |bl (b:Ar):Kd X P J s (.bl b) (.bool b)
 |int (i:Aq) (t:Ms):Kd X P J s (.int i) (.int i t)
 |str (x:Ah) (t:Ms):Kd X P J s (.str x) (.str x t)
 |tup (a:Af) (xs:Ab D) (its:Y8) (vs:Ab V) (rp:qJ X.K P J xs vs) (rv:qQ vs its) (h:s.heap.IsTuple a its.toArray) (q:j_ X.K P a vs):Kd X P J s (.tup xs) (.ref a)
 |lst (a:Af) (xs:Ab D) (its:Y8) (vs:Ab V) (rp:qJ X.K P J xs vs) (rv:qQ vs its) (h:s.heap.IsList a its.toArray) (q:so X.K P a vs):Kd X P J s (.lst xs) (.ref a)
def v9 (I:Inv X aa Y H s)(r:bf X.K H P J S){n:Aj}{d:D}{v:V}{u:Ac}(h:pl n d=Vq)(p:am X.K P J d v)(Q:qR v u):Kd X P J s d u:=by
 cases d with
 |non=>simp only[am] at p;subst p;cases Q;exact .non
 |bl b=>simp only[am] at p;subst p;cases Q;exact .bl b
 |int i=>simp only[am] at p;subst p;obtain⟨t,rfl⟩:=Q;exact .int i t
 |str x=>simp only[am] at p;subst p;obtain⟨t,rfl⟩:=Q;exact .str x t
 |tup U =>
  simp only[am] at p;obtain⟨a,O,rfl,q,t⟩:=p;cases Q;obtain⟨G,C,N,_⟩:=I.tuple (wB r.sub q);exact .tup a U G O t C N q
 |lst U =>
  simp only[am] at p;obtain⟨a,O,rfl,q,t⟩:=p;cases Q;obtain⟨G,C,N,_⟩:=I.list ((xX r.sub q).l);exact .lst a U G O t C N.isList q
 |_=>cases n <;> exact Gm h
def vH (N:qJ X.K P J ds vs)(U:qQ vs ah){j:Aj}(h:j<ah.toArray.size):∃ v,am X.K P J (ds.getD j .non) v/\qR v ah.toArray[j]/\ds.getD j .non∈ds:=by
 have l1:=N.length;have l2:=U.length;have B:j<ah.length:=by simpa using h
 have Q:j<ds.length:=by lia
 obtain⟨v,O,p⟩:=N.get (Bd Q);obtain⟨u,G,q⟩:=U.get O;have L:ah.toArray[j]=u:=by have:ah[j]? = Aa ah[j]:=Bd B;rw[this] at G;simpa using Cw G
 have C:ds.getD j .non=ds[j]:=by simp[Ma,Q]
 rw[L,C];exact⟨v,p,q,Il Q⟩
def wJ {ds:Ab D}(h:ds.all (pl n)=Vq){d:D}(Q:d∈ds):pl n d=true:=Bk.mp h d Q
def zf {h:Bb}(Q:h.IsTuple a xs)(G:h.IsTuple a ys):xs=ys:=by obtain⟨o,e,_,n,d⟩:=Q;obtain⟨O,N,_,C,U⟩:=G;cases e.symm.trans N;cases d.symm.trans U;rfl
def zh {h:Bb}(Q:h.IsList a xs)(G:h.IsList a ys):xs=ys:=by obtain⟨o,e,_,n,d⟩:=Q;obtain⟨O,N,_,C,U⟩:=G;cases e.symm.trans N;cases d.symm.trans U;rfl
def WO {h:Bb}(Q:h.IsTuple a xs)(U:h.IsList a ys):Fv:=by obtain⟨o,e,c,_⟩:=Q;obtain⟨O,N,G,_⟩:=U;cases e.symm.trans N;exact absurd (c.symm.trans G) aC
inductive kc (X:Cx)(P:Hp)(J : Ab Af)(xs ys:Ab D)(its its2:Y8):Prop
 |mk (vs ws:Ab V) (rp:qJ X.K P J xs vs) (rv:qQ vs its) (rp2:qJ X.K P J ys ws) (rv2:qQ ws its2):kc X P J xs ys its its2
def kc.len1 (q:kc X P J xs ys ah Q):xs.length=ah.length:=by obtain⟨O,N,G,U,_,_⟩:=q;exact G.length.trans U.length
def kc.len2 (q:kc X P J xs ys ah Q):ys.length=Q.length:=by obtain⟨O,N,_,_,G,U⟩:=q;exact G.length.trans U.length
inductive rg (X:Cx)(P:Hp)(J : Ab Af):D->D->Prop
 |eq {d d':D} (h:g_ d d'=Vq):rg X P J d d'
 |tt (xs ys:Ab D) (its:Y8) (q:kc X P J xs ys its its):rg X P J (.tup xs) (.tup ys)
 |ll (xs ys:Ab D) (its:Y8) (q:kc X P J xs ys its its):rg X P J (.lst xs) (.lst ys)
def X7 (k1:Kd X P J s d u)(k2:Kd X P J s d' u):rg X P J d d':=by
 cases k1 with
 |non=>cases k2;exact .eq rfl
 |bl b=>cases k2;exact .eq (En _)
 |int i t=>cases k2;exact .eq (En _)
 |str x t=>cases k2;exact .eq (En _)
 |tup a L E I A B h q =>
  cases k2 with
  |tup _ O G C U Q N T =>
   cases zf h N;exact .tt L O E ⟨I,C,A,B,U,Q⟩
  |lst _ O G C U Q N T=>exact(WO h N).elim
 |lst a L E I A B h q =>
  cases k2 with
  |lst _ O G C U Q N T =>
   cases zh h N;exact .ll L O E ⟨I,C,A,B,U,Q⟩
  |tup _ O G C U Q N T=>exact(WO N h).elim
def rW (I:Inv X aa Y H s)(r:bf X.K H P J S){m:Aj}(A:∀ (d d':D) (u:Ac),pl m d=Vq->pl m d'=Vq->Kd X P J s d u->Kd X P J s d' u->g_ d d'=Vq){xs ys:Ab D}{ah:Y8}(N:xs.all (pl m)=Vq)(C:ys.all (pl m)=Vq)(q:kc X P J xs ys ah ah):xT xs ys=true:=by obtain⟨p,k,L,T,U,Q⟩:=q;have l1:=L.length.trans T.length;have l2:=U.length.trans Q.length;rw[vF,l1,l2,Xi,Av];refine⟨Bk.mpr λj G=>?_,BEq.rfl⟩;have G:j<ah.toArray.size:=Fg.mp G;obtain⟨y,E,z,O⟩:=vH L T G;obtain⟨o,w,M,B⟩:=vH U Q G;exact A _ _ _ (wJ N O) (wJ C B) (v9 I r (wJ N O) E z) (v9 I r (wJ C B) w M)
def QH (I:Inv X aa Y H s)(r:bf X.K H P J S):∀ (n:Aj) (d d':D) (u:Ac),pl n d=Vq->pl n d'=Vq->Kd X P J s d u->Kd X P J s d' u->g_ d d'=true:=by
 intro n
 induction n with
 |zero =>
  intro d d' u Q N O C;cases X7 O C with
  |eq h=>exact h
  |tt=>exact Gm Q
  |ll=>exact Gm Q
 |succ m B =>
  intro d d' u Q N O C;cases X7 O C with
  |eq h=>exact h
  |tt U G L q=>exact(dS U G).trans (rW I r B Q N q)
  |ll U G L q=>exact(dR U G).trans (rW I r B Q N q)
structure E3 (A:Bn)(s:Ai)(u u':Ac)(b:Ar):Prop where
 eq:EqAt A s u u' b
 rc:RcAt A s u u' b
 ne:RcNeAt A s u u' (!b)
inductive _c (X:Cx)(P:Hp)(J : Ab Af)(A:Bn)(s:Ai):D->D->Ac->Ac->Prop
 |of {d d':D} {u u':Ac} (b:Ar) (e:g_ d d'=b) (h:E3 A s u u' b):_c X P J A s d d' u u'
 |tt (a b:Af) (xs ys:Ab D) (its its2:Y8) (ha:s.heap.IsTuple a its.toArray) (hb:s.heap.IsTuple b its2.toArray) (q:kc X P J xs ys its its2):_c X P J A s (.tup xs) (.tup ys) (.ref a) (.ref b)
 |ll (a b:Af) (xs ys:Ab D) (its its2:Y8) (ha:s.heap.IsList a its.toArray) (hb:s.heap.IsList b its2.toArray) (q:kc X P J xs ys its its2):_c X P J A s (.lst xs) (.lst ys) (.ref a) (.ref b)
def FU {A:Bn}(Q:A.units<Fk)(k1:Kd X P J s d u)(k2:Kd X P J s d' k):_c X P J A s d d' u k:=by
 cases k1 with
 |non  =>
  cases k2 with
  |non  => exact .of _ rfl ⟨AaA _,RcAt.none_none,RcNeAt.none_none⟩
  |bl b=>exact .of _ rfl ⟨EqAt.none_bool b,RcAt.none_bool b,RcNeAt.none_bool b⟩
  |int b U=>exact .of _ rfl ⟨EqAt.none_int b U,RcAt.none_int b U,RcNeAt.none_int b U⟩
  |str b U=>exact .of _ rfl ⟨EqAt.none_str b U,RcAt.none_str b U,RcNeAt.none_str b U⟩
  |tup b T N E L B G I=>exact .of _ rfl ⟨EqAt.none_tuple G Q,RcAt.none_tuple G Q,RcNeAt.none_tuple G Q⟩
  |lst b T N E L B G I=>exact .of _ rfl ⟨EqAt.none_list G Q,RcAt.none_list G Q,RcNeAt.none_list G Q⟩
 |bl a =>
  cases k2 with
  |non  => exact .of _ rfl ⟨EqAt.bool_none a,RcAt.bool_none a,RcNeAt.bool_none a⟩
  |bl b=>exact .of _ rfl ⟨EqAt.bool_bool a b,RcAt.bool_bool a b,RcNeAt.bool_bool a b⟩
  |int b U=>exact .of _ rfl ⟨EqAt.bool_int a b U,RcAt.bool_int a b U,RcNeAt.bool_int a b U⟩
  |str b U=>exact .of _ rfl ⟨EqAt.bool_str a b U,RcAt.bool_str a b U,RcNeAt.bool_str a b U⟩
  |tup b T N E L B G I=>exact .of _ rfl ⟨EqAt.bool_tuple a G Q,RcAt.bool_tuple a G Q,RcNeAt.bool_tuple a G Q⟩
  |lst b T N E L B G I=>exact .of _ rfl ⟨EqAt.bool_list a G Q,RcAt.bool_list a G Q,RcNeAt.bool_list a G Q⟩
 |int a O =>
  cases k2 with
  |non  => exact .of _ rfl ⟨EqAt.int_none a O,RcAt.int_none a O,RcNeAt.int_none a O⟩
  |bl b=>exact .of _ rfl ⟨EqAt.int_bool a O b,RcAt.int_bool a O b,RcNeAt.int_bool a O b⟩
  |int b U=>exact .of _ rfl ⟨EqAt.int_int a O b U,RcAt.int_int a O b U,RcNeAt.int_int a O b U⟩
  |str b U=>exact .of _ rfl ⟨EqAt.int_str a O b U,RcAt.int_str a O b U,RcNeAt.int_str a O b U⟩
  |tup b T N E L B G I=>exact .of _ rfl ⟨EqAt.int_tuple a O G Q,RcAt.int_tuple a O G Q,RcNeAt.int_tuple a O G Q⟩
  |lst b T N E L B G I=>exact .of _ rfl ⟨EqAt.int_list a O G Q,RcAt.int_list a O G Q,RcNeAt.int_list a O G Q⟩
 |str a O =>
  cases k2 with
  |non  => exact .of _ rfl ⟨EqAt.str_none a O,RcAt.str_none a O,RcNeAt.str_none a O⟩
  |bl b=>exact .of _ rfl ⟨EqAt.str_bool a O b,RcAt.str_bool a O b,RcNeAt.str_bool a O b⟩
  |int b U=>exact .of _ rfl ⟨EqAt.str_int a O b U,RcAt.str_int a O b U,RcNeAt.str_int a O b U⟩
  |str b U=>exact .of _ rfl ⟨EqAt.str_str a O b U,RcAt.str_str a O b U,RcNeAt.str_str a O b U⟩
  |tup b T N E L B G I=>exact .of _ rfl ⟨EqAt.str_tuple a O G Q,RcAt.str_tuple a O G Q,RcNeAt.str_tuple a O G Q⟩
  |lst b T N E L B G I=>exact .of _ rfl ⟨EqAt.str_list a O G Q,RcAt.str_list a O G Q,RcNeAt.str_list a O G Q⟩
 |tup a w z j y M C q =>
  cases k2 with
  |non  => exact .of _ rfl ⟨EqAt.tuple_none C Q,RcAt.tuple_none C Q,RcNeAt.tuple_none C Q⟩
  |bl b=>exact .of _ rfl ⟨EqAt.tuple_bool b C Q,RcAt.tuple_bool b C Q,RcNeAt.tuple_bool b C Q⟩
  |int b U=>exact .of _ rfl ⟨EqAt.tuple_int b U C Q,RcAt.tuple_int b U C Q,RcNeAt.tuple_int b U C Q⟩
  |str b U=>exact .of _ rfl ⟨EqAt.tuple_str b U C Q,RcAt.tuple_str b U C Q,RcNeAt.tuple_str b U C Q⟩
  |tup b T N E L B G I=>exact .tt a b w T z N C G ⟨j,E,y,M,L,B⟩
  |lst b T N E L B G I=>exact .of _ rfl ⟨EqAt.tuple_list C G Q,RcAt.tuple_list C G Q,RcNeAt.tuple_list C G Q⟩
 |lst a w z j y M C q =>
  cases k2 with
  |non  => exact .of _ rfl ⟨EqAt.list_none C Q,RcAt.list_none C Q,RcNeAt.list_none C Q⟩
  |bl b=>exact .of _ rfl ⟨EqAt.list_bool b C Q,RcAt.list_bool b C Q,RcNeAt.list_bool b C Q⟩
  |int b U=>exact .of _ rfl ⟨EqAt.list_int b U C Q,RcAt.list_int b U C Q,RcNeAt.list_int b U C Q⟩
  |str b U=>exact .of _ rfl ⟨EqAt.list_str b U C Q,RcAt.list_str b U C Q,RcNeAt.list_str b U C Q⟩
  |tup b T N E L B G I=>exact .of _ rfl ⟨EqAt.list_tuple C G Q,RcAt.list_tuple C G Q,RcNeAt.list_tuple C G Q⟩
  |lst b T N E L B G I=>exact .ll a b w T z N C G ⟨j,E,y,M,L,B⟩
def E3.cast {b c:Ar}(e:c=b)(h:E3 A s u Q b):E3 A s u Q c:=e▸h
def qAK {A:Bn}{xs ys:Ab D}{ah Q:Y8}(O:A.units<Fk)(N:s.heap.IsTuple a ah.toArray)(C:s.heap.IsTuple b Q.toArray)(l1:xs.length=ah.length)(l2:ys.length=Q.length)
  (sub:∀ j (B:j<ah.toArray.size) (L:j<Q.toArray.size),EqAt A.in1 s ah.toArray[j] Q.toArray[j] (g_ (xs.getD j .non) (ys.getD j .non))) (same:a=b->xT xs ys=Vq):E3 A s (.ref a) (.ref b) (xT xs ys):=by
 have e:xT xs ys=((Ch (min ah.toArray.size Q.toArray.size)).all (λj=>g_ (xs.getD j .non) (ys.getD j .non))&&ah.toArray.size == Q.toArray.size):=by rw[vF,l1,l2];rfl
 have G:=RcAt.tuples N C O sub;have R2:=RcNeAt.tuples N C O sub;rw[<- e] at G R2;refine⟨?_,G,R2⟩;by_cases U:a=b
 .rw[same U,U];exact AaA _
 .exact EqAt.of_refs U G
def qAJ {A:Bn}{xs ys:Ab D}{ah Q:Y8}(O:A.units<Fk)(N:s.heap.IsList a ah.toArray)(C:s.heap.IsList b Q.toArray)(l1:xs.length=ah.length)(l2:ys.length=Q.length)
  (sub:∀ j (L:j<ah.toArray.size) (T:j<Q.toArray.size),EqAt A.in1 s ah.toArray[j] Q.toArray[j] (g_ (xs.getD j .non) (ys.getD j .non))) (same:a=b->xT xs ys=Vq):E3 A s (.ref a) (.ref b) (xT xs ys):=by
 have R:RcAt A s (.ref a) (.ref b) (xT xs ys)/\RcNeAt A s (.ref a) (.ref b) (!xT xs ys):=by
  by_cases G:ah.length=Q.length
  .have e:xT xs ys=(Ch ah.toArray.size).all (λj=>g_ (xs.getD j .non) (ys.getD j .non)):=by rw[vF,l1,l2,<- G,Xi,BEq.rfl,Bool.and_true];rfl
   rw[e];exact⟨RcAt.lists N C G O sub,RcNeAt.lists N C G O sub⟩
  .rw[GR (by rw[l1,l2];exact G)];have B:(ah.toArray.size != Q.toArray.size)=true:=bne_iff_ne.mpr G;exact⟨RcAt.lists_lengths N C B O,RcNeAt.lists_lengths N C B O⟩
 refine⟨?_,R.1,R.2⟩;by_cases U:a=b
 .rw[same U,U];exact AaA _
 .exact EqAt.of_refs U R.1
def aO (I:Inv X aa Y H s)(r:bf X.K H P J S):∀ (n:Aj) (A:Bn) (d d':D) (u E:Ac),A.units+n<Fk->pl n d=Vq->pl n d'=Vq->Kd X P J s d u->Kd X P J s d' E->E3 A s u E (g_ d d'):=by
 intro n
 induction n with
 |zero =>
  intro A d d' u E w N B L T;cases FU w L T with
  |of b e h=>exact h.cast e
  |tt=>exact Gm N
  |ll=>exact Gm N
 |succ m g =>
  intro A d d' u E w N B L T;have O:A.units<Fk:=Qm (Zf _ _) w;have Y9:A.in1.units+m<Fk:=by show A.units+1+m<Fk;lia
  have sub:∀ {U G:Ab D} {C Q:Y8},U.all (pl m)=Vq->G.all (pl m)=Vq->kc X P J U G C Q ->
    ∀ j (N:j<C.toArray.size) (B:j<Q.toArray.size),EqAt A.in1 s C.toArray[j] Q.toArray[j] (g_ (U.getD j .non) (G.getD j .non)):=λ{U G C Q} o p ⟨vs,ws,b1,i,c1,c⟩ j v g2=>by
   obtain⟨w1,l,x,y⟩:=vH b1 i v;obtain⟨w2,t,f,k⟩:=vH c1 c g2;exact(g A.in1 _ _ _ _ Y9 (wJ o y) (wJ p k) (v9 I r (wJ o y) l x) (v9 I r (wJ p k) t f)).eq
  cases FU O L T with
  |of b e h=>exact h.cast e
  |tt a b U G C Q M z q=>exact(qAK O M z q.len1 q.len2 (sub N B q) λe=>by subst e;exact(dS U G).symm.trans (QH I r (m+1) _ _ _ N B L T)).cast (dS U G)
  |ll a b U G C Q M z q=>exact(qAJ O M z q.len1 q.len2 (sub N B q) λe=>by subst e;exact(dR U G).symm.trans (QH I r (m+1) _ _ _ N B L T)).cast (dR U G)
def zC:Aj:=30
def fq:G2:=λa b S=>if pl zC a&&pl zC b then .ok (.bl (g_ a b)) S else .bad
def jo:G2:=λa b S=>if pl zC a&&pl zC b then .ok (.bl (!g_ a b)) S else .bad
set_option tactic.hygienic true in
def qAm (T:X.A.units+64<Fk):gz X (Cs .Eq) fq:=by
 intro aa Y H s P J S v u G C a b Q I r N L O B U;unfold fq at U;split at U
 .rename_i h;rw[Av] at h;exact(aO I r zC X.A a b G C (by unfold zC;lia) h.1 h.2 (v9 I r h.1 O N) (v9 I r h.2 B L)).rc _ _ _ _ ⟨.bl _,H,I,Z,xr U r (by simp only[am])⟩
 .exact Am U
set_option tactic.hygienic true in
def qAs (T:X.A.units+64<Fk):gz X (Cs .NotEq) jo:=by
 intro aa Y H s P J S v u G C a b Q I r N L O B U;unfold jo at U;split at U
 .rename_i h;rw[Av] at h;exact(aO I r zC X.A a b G C (by unfold zC;lia) h.1 h.2 (v9 I r h.1 O N) (v9 I r h.2 B L)).ne _ _ _ _ ⟨.bl _,H,I,Z,xr U r (by simp only[am])⟩
 .exact Am U
end
end _D
end
namespace _D
open _L
variable {aa:J0}{ah us:Y8}{J:J9}{xs ds:Ab D}{vs:Ab V}{f:Ac->Ac->Kk Ac}{s:Ai}{d:D}{P H:Hp}{S:ag}{v:V}{Q:VK}{Y:_L.St}
section
variable {X:Cx}
noncomputable def i2 (C:Aq->Aq->Ar)(f:Aq->Aq->D):G2:=λa b S=>match a,b with
 |.int i,.int j=>if C i j then .ok (f i j) S else .bad
 |_,_=>.bad
def FW {C:Aq->Aq->Ar}{f:Aq->Aq->D}{Ok:D->ag->Prop}(h:qK X P J (i2 C f a b S) Ok):∃ i j,a=.int i/\b=.int j/\C i j=Vq/\Ok (f i j) S:=by
 cases a with
 |int i =>
  cases b with
  |int j =>
   obtain⟨U,h⟩:=x3 (X:=X) h;exact⟨i,j,rfl,rfl,U,h⟩
  |_=>exact Am h
 |_=>exact Am h
def xR (r:am X.K P J (.int i) v):v=.int i:=by simpa only [am] using r
def lN {U:Aq->Aq->Prop}{v:Aq->Aq->V}{C:Aq->Aq->Ar}{d:Aq->Aq->D}(h:o_ X f (rI U v))(N:∀ i j,C i j=Vq->U i j)(hv:∀ P J i j,am X.K P J (d i j) (v i j)):gz X f (i2 C d):=
 gz.of h λH P J S x y a b Q r G L B=>by obtain⟨i,j,rfl,rfl,O,ok⟩:=FW B;exact⟨i,j,xR G,xR L,N i j O,xr ok r (hv P J i j)⟩
def fY {v:Aq->Aq->V}{d:Aq->Aq->D}(h:o_ X f (vq v))(hv:∀ P J i j,am X.K P J (d i j) (v i j)):gz X f (i2 (λ_ _=>Vq) d):=
 gz.of h λH P J S x y a b Q r U N G=>by obtain⟨i,j,rfl,rfl,_,ok⟩:=FW G;exact⟨i,j,xR U,xR N,xr ok r (hv P J i j)⟩
def j7:G2:=i2 (λ_ _=>Vq) λi j=>.int (i-j)
def AO:gz X (Ec .Sub) j7:=fY IA λP J i j=>by simp only[am]
noncomputable def cV (i j:Aq):Ar:=decide (-(2 ^ 64)<i/\i<2 ^ 64)||decide (-(2 ^ 64)<j/\j<2 ^ 64)
def D5:gz X (Ec .Mult) (i2 cV λi j=>.int (i*j)):=lN AY (λi j h=>by
 unfold cV at h;rw[Ow] at h;rcases h with h|h
 .exact .inl (Bg h)
 .exact .inr (Bg h)) λP J i j=>by simp only[am]
noncomputable def RU (i j:Aq):Ar:=decide (0<j/\j<1073741824)
def jU:G2:=i2 RU λi j=>.int (i/j)
def AK:gz X (Ec .FloorDiv) jU:=lN D9 (λi j h=>(Bg h:0<j/\j<1073741824)) λP J i j=>by simp only[am]
def uL:G2:=i2 (λ_ j=>decide (0<j)) λi j=>.int (i % j)
def AM:gz X (Ec .Mod) uL:=lN AX (λi j h=>Bg h) λP J i j=>by simp only[am]
noncomputable def qBb (i j:Aq):Ar:=decide (0<=j/\j<=1000000/\i.natAbs<2 ^ 64)
def GV:G2:=i2 qBb λi j=>.int (i ^ j.toNat)
def AN:gz X (Ec .Pow) GV:=lN AZ (λi j h=>(Bg h:0<=j/\j<=1000000/\i.natAbs<2 ^ 64)) λP J i j=>by simp only[am]
def vw:G2:=i2 (λ_ _=>Vq) λi j=>.bl (decide (i<j))
def sk:G2:=i2 (λ_ _=>Vq) λi j=>.bl (decide (i<=j))
def yl:G2:=i2 (λ_ _=>Vq) λi j=>.bl (decide (j<i))
def y_:G2:=i2 (λ_ _=>Vq) λi j=>.bl (decide (j<=i))
def MF:gz X (Cs .Lt) vw:=fY qAw λP J i j=>by simp only[am]
def qAr:gz X (Cs .LtE) sk:=fY qAv λP J i j=>by simp only[am]
def qAo:gz X (Cs .Gt) yl:=fY qAu λP J i j=>by simp only[am]
def qAn:gz X (Cs .GtE) y_:=fY qAt λP J i j=>by simp only[am]
def y9:D->ag->ax D:=λa S=>match a with
 |.int i=>.ok (.int (-i)) S
 |_=>.bad
def ON:_v X (Yw .USub) y9:=by
 intro aa Y H s P J S v G a Q I r N p U;cases a with
 |int i=>exact OO aa s Y H v G Q I N ⟨i,xR p,xr U r (by simp only[am])⟩
 |_=>exact Am U
def xb:G2:=λa b S=>match b with
 |.non=>match a with
  |.non=>.ok (.bl Vq) S
  |_=>.ok (.bl Yp) S
 |_=>.bad
def LU (r:am X.K P J d v):decide (v=.non)=(match d with|.non=>Vq|_=>Yp):=by
 cases d <;> simp only[am] at r
 case non=>subst r;rfl
 case bl=>subst r;rfl
 case int=>subst r;rfl
 case str=>subst r;rfl
 case ty=>subst r;rfl
 case clo=>obtain⟨rfl,_⟩:=r;rfl
 case obj=>obtain⟨rfl,_⟩:=r;rfl
 case tup=>obtain⟨a,vs,rfl,_⟩:=r;rfl
 case lst=>obtain⟨a,vs,rfl,_⟩:=r;rfl
 case dct0=>obtain⟨a,rfl,_⟩:=r;rfl
 case loc=>obtain⟨a,rfl,_⟩:=r;rfl
 case exn=>obtain⟨a,rfl,_⟩:=r;rfl
 case fd=>obtain⟨a,o,vs,rfl,_⟩:=r;rfl
 case exl=>obtain⟨a,U,vs,rfl,_⟩:=r;rfl
def qAq:gz X (Cs .Is) xb:=gz.of AW λH P J S x y a b Q r N G U=>by
 cases b with
 |non =>
  simp only[am] at G;refine⟨G,?_⟩;rw[LU N];cases a <;> exact xr U r (by simp only[am])
 |_=>exact Am U
def qW:G2:=λa b S=>match a,b with
 |.int i,.int j=>.ok (.int (i+j)) S
 |.str x,.str y=>if x.length+y.length<=bb then .ok (.str (x++y)) S else .bad
 |.tup xs,.tup U=>if xs.length+U.length<=bb then .ok (.tup (xs++U)) S else .bad
 |.lst xs,.lst U=>if xs.length+U.length<=bb then .ok (.lst (xs++U)) S else .bad
 |_,_=>.bad
def kH (I:Inv X aa Y H s)(r:bf X.K H P J S)(p:am X.K P J (.tup xs) v) :
  ∃ a vs ah,v=.ref a/\j_ X.K P a vs/\qJ X.K P J xs vs/\qQ vs ah/\Tf s.heap a ah.toArray/\xs.length=ah.length/\xs.length<=bb:=by
 simp only[am] at p;obtain⟨a,vs,rfl,q,t⟩:=p;obtain⟨ah,U,G,z⟩:=I.tuple (wB r.sub q);exact⟨a,vs,ah,rfl,q,t,U,G,by rw[t.length,U.length],by rw[t.length,zM];exact z⟩
def uA (I:Inv X aa Y H s)(r:bf X.K H P J S)(p:am X.K P J (.lst xs) v) :
  ∃ a vs ah n,v=.ref a/\so X.K P a vs/\qJ X.K P J xs vs/\qQ vs ah/\s.heap.get? a=Aa { cls:=.type "list",data:=.seq ah.toArray n } /\ xs.length=ah.length/\xs.length<=bb:=by
 simp only[am] at p;obtain⟨a,vs,rfl,q,t⟩:=p;have:∃ ah n,qQ vs ah/\s.heap.get? a=Aa { cls:=.type "list",data:=.seq ah.toArray n } /\ vs.length<=sizeLine:=by
  rcases q with q|⟨ah,n,e,z,U⟩
  .obtain⟨z,ah,n,U,e⟩:=(X2 r.sub q).ok I.hok;exact⟨ah,n,U,e,z⟩
  .exact⟨ah,n,U,I.kIn _ _ e,z⟩
 obtain⟨ah,n,U,e,z⟩:=this;exact⟨a,vs,ah,n,rfl,q,t,U,e,by rw[t.length,U.length],by rw[t.length,zM];exact z⟩
def PN (I:Inv X aa Y H s)(r:bf X.K H P J S)(t:qJ X.K P J xs vs)(U:qQ vs ah)(hz:xs.length<=bb)
  (ok:gy X P J Q (.tup xs) S):EP X aa Y Q (.ref s.heap.objs.size) { s with heap:=s.heap.push { cls:=.type "tuple",data:=.seq ah.toArray } }:=by
 refine⟨.ref s.heap.objs.size,_,I.laid (t':=s.toks) (o:=.tup vs) (λb G q=>Ak _ q) (Ax _) ⟨by rw[<- t.length,<- zM];exact hz,ah,U,Ur _ _⟩,Z,bG r (I.hok.fresh (Ax _)) t ok⟩
def n9 (I:Inv X aa Y H s)(r:bf X.K H P J S)(t:qJ X.K P J xs vs)(U:qQ vs ah)(hz:xs.length<=bb)
  (ok:gy X P J Q (.lst xs) S):EP X aa Y Q (.ref s.heap.objs.size) { s with heap:=s.heap.push { cls:=.type "list",data:=.seq ah.toArray } }:=by
 refine⟨.ref s.heap.objs.size,_,I.laid (t':=s.toks) (o:=.lst vs) (λb G q=>Ak _ q) (Ax _) ⟨by rw[<- t.length,<- zM];exact hz,ah,0,U,Be _ Z⟩,Z,wH r (I.hok.fresh (Ax _)) t ok⟩
theorem RN {k l:Ac}(I:Inv X aa Y H s)(r:bf X.K H P J S)(h:qR v k)(ru:qR u l)(o:am X.K P J (.tup xs) v)(t:am X.K P J (.tup ys) u)(c:xs.length+ys.length<=bb)(A:gy X P J Q (.tup (xs++ys)) S) :
  a8 X (Ec .Add k l) (EP X aa Y Q) X.xe s:=by
 obtain⟨a,vs,ah,rfl,q1,i,w,j,l1,_⟩:=kH I r o;obtain⟨b,ws,G,rfl,q2,e,B,y,l2,_⟩:=kH I r t;cases h;cases ru;by_cases C:ah=[]
 .obtain⟨⟨cls,dd,data,x⟩,p,g,n,m⟩:=id j;obtain⟨⟨q,L,data2,E⟩,N,U,n2,O⟩:=id y;simp only at g m U O;subst g m U O;have M:xs=[]:=Kc.mp (by rw[l1,C];rfl);subst M;exact Xd ⟨_,p,rfl⟩ ⟨_,N,rfl⟩ Ss Vv Nt My (Mp _ _) (tuple_addW0 a b ah.toArray G.toArray n n2 dd L x E (by simp[C]))
   ⟨p,N,⟨.ref b,H,I,Z,xr A r t⟩⟩
 .refine _H.v_ j y C (λz=>⟨.ref a,H,I,Z,xr A r ?_⟩) (λz=>?_) (by rw[<- l1,<- l2,<- zM];exact c)
  .have T:ys=[]:=Kc.mp (by rw[l2,z];rfl);rw[T,Gg];exact o
  .exact PN I r (i.append e) (w.append B) (by rw[Bj];exact c) A
def RM (I:Inv X aa Y H s)(r:bf X.K H P J S)(M:qR v O)(y:qR u C)(w:am X.K P J (.lst xs) v)(j:am X.K P J (.lst ys) u)(B:xs.length+ys.length<=bb)(z:gy X P J Q (.lst (xs++ys)) S) :
  a8 X (Ec .Add O C) (EP X aa Y Q) X.xe s:=by
 obtain⟨a,vs,ah,n,rfl,o,T,G,L,l1,_⟩:=uA I r w;obtain⟨b,q,N,p,rfl,k,E,U,A,l2,_⟩:=uA I r j;cases M;cases y;refine Sx L A ?_ (by rw[Bf,Bf,<- l1,<- l2,<- zM];exact B);rw[Po];exact n9 I r (T.append E) (G.append U) (by rw[Bj];exact B) z
inductive _I (a b:D)(S:ag):Prop
 |bad (e:qW a b S=.bad)
 |int (i j:Aq) (ea:a=.int i) (eb:b=.int j)
 |str (x y:Ah) (ea:a=.str x) (eb:b=.str y)
 |tup (x y:Ab D) (ea:a=.tup x) (eb:b=.tup y)
 |lst (x y:Ab D) (ea:a=.lst x) (eb:b=.lst y)
def qBY (a b:D)(S:ag):_I a b S:=by
 cases a with
 |int i=>cases b with
  |int j=>exact .int i j rfl rfl
  |_=>exact .bad rfl
 |str i=>cases b with
  |str j=>exact .str i j rfl rfl
  |_=>exact .bad rfl
 |tup i=>cases b with
  |tup j=>exact .tup i j rfl rfl
  |_=>exact .bad rfl
 |lst i=>cases b with
  |lst j=>exact .lst i j rfl rfl
  |_=>exact .bad rfl
 |_=>exact .bad rfl
def AJ:gz X (Ec .Add) qW:=by
 intro aa Y H s P J S v u E A a b Q I r L T O B U;cases qBY a b S with
 |bad e=>rw[e] at U;exact Am U
 |int i j G N =>
  subst G N;exact AU aa s Y H v u E A Q I L T ⟨i,j,xR O,xR B,xr U r (by simp only[am])⟩
 |str x y G N =>
  subst G N;obtain⟨C,U⟩:=x3 (X:=X) U;simp only[am] at O B;exact YA aa s Y H v u E A Q I L T ⟨x,y,O,B,by rw[<- zM];exact C,xr U r (by simp only[am])⟩
 |tup xs M G N =>
  subst G N;obtain⟨C,U⟩:=x3 (X:=X) U;exact RN I r L T O B C U
 |lst xs M G N =>
  subst G N;obtain⟨C,U⟩:=x3 (X:=X) U;exact RM I r L T O B C U
def b_:G2:=λa b S=>match b with
 |.int k=>match a with
  |.tup xs=>vJ (ji xs k) S
  |.lst xs=>vJ (ji xs k) S
  |.loc i=>match S[i]? with
   |some (.lst xs)=>vJ (ji xs k) S
   |_=>.bad
  |_=>.bad
 |_=>.bad
def dG (U:qJ X.K P J ds vs)(h:ji ds k=Aa d):∃ v,ji vs k=Aa v/\am X.K P J d v:=by
 unfold ji at h ⊢;rw[<- U.length];cases q:qe ds.length k with
 |none=>rw[q] at h;cases h
 |some j =>
  rw[q] at h;obtain⟨v,G,N⟩:=U.get (show ds[j]? = Aa d from h);exact⟨v,G,N⟩
def qBn:Z_ X b_:=by
 intro j U aa Y H s P J S v u B E a b Q I r L M O o N T;cases b with
 |int k =>
  have A:=xR o;cases a with
  |tup xs =>
   obtain⟨d,e,ok⟩:=vN (X:=X) N;simp only[am] at O;obtain⟨p,vs,rfl,q,t⟩:=O;obtain⟨w,C,G⟩:=dG t e;exact CL j U aa s Y H _ u B E Q I L M ⟨p,vs,k,w,rfl,A,wB r.sub q,C,xr ok r G⟩ T
  |lst xs =>
   obtain⟨d,e,ok⟩:=vN (X:=X) N;simp only[am] at O;obtain⟨p,vs,rfl,q,t⟩:=O;obtain⟨w,C,G⟩:=dG t e;exact ZE j U aa s Y H _ u B E Q I L M ⟨p,vs,k,w,rfl,A,(xX r.sub q).l,C,xr ok r G⟩ T
  |loc i =>
   obtain⟨xs,y,N⟩:=bE (X:=X) (f:=λxs=>vJ (ji xs k) S) N;obtain⟨d,e,ok⟩:=vN (X:=X) N;simp only[am] at O;obtain⟨p,rfl,q⟩:=O;obtain⟨vs,z,t⟩:=r.at' i p _ q y;obtain⟨w,C,G⟩:=dG t e;exact ZE j U aa s Y H _ u B E Q I L M ⟨p,vs,k,w,rfl,A,.of z,C,xr ok r G⟩ T
  |_=>exact Am N
 |_=>exact Am N
def GW:G3:=λo i d S=>match o,i with
 |.loc n,.int k=>match S[n]? with
  |some (.lst xs)=>match qe xs.length k with
   |some j=>.ok () (S.set n (.lst (xs.set j d)))
   |none=>.bad
  |_=>.bad
 |_,_=>.bad
def qA9:cP X (cK X GW):=by
 intro aa s Y H o i v E C u Q I T M B h;obtain⟨P,J,S,a,b,d,r,O,A,L,U⟩:=h;cases a with
 |loc n =>
  cases b with
  |int k =>
   obtain⟨xs,N,U⟩:=bE (X:=X) (f:=λxs=>match qe xs.length k with|some j=>.ok () (S.set n (.lst (xs.set j d)))|none=>.bad) U;cases G:qe xs.length k with
   |none=>rw[G] at U;exact Am U
   |some j =>
    rw[G] at U;simp only[am] at O;obtain⟨p,rfl,q⟩:=O;obtain⟨vs,z,t⟩:=r.at' n p _ q N;refine BX aa s Y H _ i v E C u Q I T M B ⟨p,vs,k,j,rfl,xR A,z,by rw[<- t.length];exact G,?_⟩;refine U _ P J (r.put (m':=.lst (xs.set j d)) q N (by intro z;cases z) ⟨vs.set j v,qT,t.set L j⟩) (qP.refl _) (Bt _)
  |_=>exact Am U
 |_=>exact Am U
def sF:D->ag->Al Aj
 |.tup xs,_=>Aa xs.length
 |.lst xs,_=>Aa xs.length
 |.str x,_=>if x.length<=bb then Aa x.length else Zt
 |.dct0,_=>Aa 0
 |.loc i,S=>match S[i]? with
  |some (.lst xs)=>Aa xs.length
  |_=>Zt
 |_,_=>Zt
def aW:DF:=λds S=>match ds with
 |[d]=>match sF d S with
  |some n=>.ok (.int n) S
  |none=>.bad
 |_=>.bad
end
section
variable {X:Cx}
def wK (G:qJ X.K P J [d] vs)(U:qQ vs us):∃ v u,vs=[v]/\us=[u]/\am X.K P J d v/\qR v u:=by obtain⟨v,N,rfl,p,t⟩:=G.cons_inv;have:=t.nil_inv;subst this;obtain⟨u,rfl,q⟩:=jJ U;exact⟨v,u,rfl,rfl,p,q⟩
def kX {e:D}(C:qJ X.K P J [d,e] vs)(U:qQ vs us):∃ v w u x,vs=[v,w]/\us=[u,x]/\am X.K P J d v/\am X.K P J e w/\qR v u/\qR w x:=by obtain⟨v,N,rfl,p,t⟩:=C.cons_inv;obtain⟨w,N,rfl,O,t⟩:=t.cons_inv;have:=t.nil_inv;subst this;obtain⟨u,x,rfl,q,G⟩:=MP U;exact⟨v,w,u,x,rfl,rfl,p,O,q,G⟩
def WV (d:D)(S:ag):Al Aj:=match d with
 |.dct0=>Zt
 |_=>sF d S
def CW (r:bf X.K H P J S)(p:am X.K P J d v)(U:WV d S=Aa n):RH X.K v H n:=by
 cases d with
 |str x =>
  cases (show v=.str x from p);obtain⟨O,rfl⟩:=jX U;exact⟨by rw[<- zM];exact O,rfl⟩
 |tup xs =>
  simp only[am] at p;obtain⟨a,G,rfl,sq,t⟩:=p;cases U;exact .inr ⟨G,wB r.sub sq,t.length⟩
 |lst xs =>
  simp only[am] at p;obtain⟨a,G,rfl,sq,t⟩:=p;cases U;exact .inl ⟨G,(xX r.sub sq).l,t.length⟩
 |loc i =>
  simp only[am] at p;obtain⟨a,rfl,e⟩:=p;obtain⟨xs,N,U⟩:=A0 (f:=λxs=>Aa xs.length) U;cases U;obtain⟨G,z,t⟩:=r.at' i a _ e N;exact .inl ⟨G,.of z,t.length⟩
 |_=>exact nn U
inductive zx (ds:Ab D)(S:ag)(r:ax D):Prop
 |bad (e:r=.bad)
 |of (d:D) (n:Aj) (ed:ds=[d]) (hn:WV d S=Aa n) (e:r=.ok (.int n) S)
def qAV (ds:Ab D)(S:ag):zx ds S (match ds with|[.dct0]=>.bad|_=>aW ds S):=by
 cases ds with
 |nil=>exact .bad rfl
 |cons d ds =>
  cases ds with
  |cons _ _=>cases d <;> exact .bad rfl
  |nil =>
   have z:(match [d] with|[D.dct0]=>ax.bad|_=>aW [d] S)=(match WV d S with|some n=>ax.ok (D.int n) S|none=>.bad):=by cases d <;> rfl
   rw[z];cases U:WV d S with
   |none=>exact .bad rfl
   |some n=>exact .of d n rfl U rfl
def RY (L:Jg):wI X (.builtin "len") (λds S=>match ds with|[.dct0]=>.bad|_=>aW ds S):=by
 intro aa Y H s P J S vs us ds Q I r G O N;have U:qK X P J (match ds with|[D.dct0]=>ax.bad|_=>aW ds S) (gy X P J Q):=N;clear N;cases qAV ds S with
 |bad e=>rw[e] at U;exact Am U
 |of d n C B e =>
  rw[e] at U;subst C;obtain⟨v,u,rfl,rfl,p,q⟩:=wK O G;exact KS aa s Y H _ _ Q I G ⟨v,n,rfl,CW r p B,xr U r (by simp only[am])⟩
noncomputable def pi:D->ag->Al Em
 |.non,_=>Aa "NoneType"
 |.bl _,_=>Aa "bool"
 |.int _,_=>Aa "int"
 |.str _,_=>Aa "str"
 |.tup _,_=>Aa "tuple"
 |.lst _,_=>Aa "list"
 |.dct0,_=>Aa "dict"
 |.loc i,S=>match S[i]? with
  |some (.lst _)=>Aa "list"
  |some (.dct _)=>Aa "dict"
  |_=>Zt
 |_,_=>Zt
def pY (a b:Em):Ar:=a == b||(a == "bool" && b == "int")
def bC (b:Em):Ar:=b == "int" || b == "bool" || b == "tuple" || b == "list" || b == "str" || b == "dict"
noncomputable def CU (a b:Em):Al Ar:=if (Ht a == Ht b)=Vq then Aa Vq else if PySem.W.kitMeta b=Vq then (fastBuiltinMro a).map (·.contains (.type b)) else Zt
noncomputable def _g:Ab Em:=["NoneType","bool","int","str","tuple","list","dict"]
noncomputable def _j:Ab Em:=["int","bool","tuple","list","str","dict"]
def L9:(_g.all λa=>_j.all λb=>decide (CU a b=Aa (pY a b)))=true:=by decide +kernel
def AR (U:bC b=Vq):b∈_j:=by simpa [bC,_j,or_assoc] using U
def LA {K:Ag}{a b:Em}(U:a∈_g)(G:bC b=Vq):Li K (.type a) (.type b)=Aa (pY a b):=
 Bg (p:=CU a b=Aa (pY a b)) (Bk.mp (Bk.mp L9 a U) b (AR G))
def zP:DF:=λds S=>match ds with
 |[d,.ty b]=>if bC b then match pi d S with
   |some a=>.ok (.bl (pY a b)) S
   |none=>.bad
  else .bad
 |_=>.bad
inductive TyV (X:Cx)(H:Hp)(v:V)(a:Em):Prop
 |of (t:ko X.K H v (.type a))
 |tup (p:Af) (vs:Ab V) (e:v=.ref p) (q:j_ X.K H p vs) (ea:a = "tuple")
 |lst (p:Af) (vs:Ab V) (e:v=.ref p) (q:kr X.K H p vs) (ea:a = "list")
def OM (h:pi d S=Aa a):a∈_g:=by
 cases d with
 |non=>cases h;exact .head _
 |bl b=>cases h;exact .tail _ (.head _)
 |int i=>cases h;exact .tail _ (.tail _ (.head _))
 |str x=>cases h;exact .tail _ (.tail _ (.tail _ (.head _)))
 |tup xs=>cases h;exact .tail _ (.tail _ (.tail _ (.tail _ (.head _))))
 |lst xs=>cases h;exact .tail _ (.tail _ (.tail _ (.tail _ (.tail _ (.head _)))))
 |dct0=>cases h;exact .tail _ (.tail _ (.tail _ (.tail _ (.tail _ (.tail _ (.head _))))))
 |loc i =>
  rcases sM (f:=λ_=>Aa "list") (g:=λ_=>Aa "dict") h with⟨_,_,h⟩|⟨_,_,h⟩
  .cases h;exact .tail _ (.tail _ (.tail _ (.tail _ (.tail _ (.head _)))))
  .cases h;exact .tail _ (.tail _ (.tail _ (.tail _ (.tail _ (.tail _ (.head _))))))
 |_=>exact nn h
def qBJ (r:bf X.K H P J S)(p:am X.K P J d v)(h:pi d S=Aa a):TyV X H v a:=by
 cases d with
 |non=>cases h;cases (show v=.non from p);exact .of .non
 |bl b=>cases h;cases (show v=.bl b from p);exact .of (.bl b)
 |int i=>cases h;cases (show v=.int i from p);exact .of (.int i)
 |str x=>cases h;cases (show v=.str x from p);exact .of (.str x)
 |tup xs =>
  cases h;simp only[am] at p;obtain⟨a,vs,e,q,t⟩:=p;exact .tup a vs e (wB r.sub q) rfl
 |lst xs =>
  cases h;simp only[am] at p;obtain⟨a,vs,e,q,t⟩:=p;exact .lst a vs e (xX r.sub q).l rfl
 |dct0 =>
  cases h;simp only[am] at p;obtain⟨a,rfl,q⟩:=p;exact .of (.dK (r.sub _ _ q))
 |loc i =>
  simp only[am] at p;obtain⟨a,rfl,q⟩:=p;rcases sM (f:=λ_=>Aa "list") (g:=λ_=>Aa "dict") h with⟨xs,U,h⟩|⟨G,U,h⟩
  .cases h;obtain⟨vs,z,t⟩:=r.at' i a _ q U;exact .of (.lst z)
  .cases h;obtain⟨vs,z,t⟩:=r.at' i a _ q U;exact .of (.dK z)
 |_=>exact nn h
inductive _F (ds:Ab D)(S:ag):Prop
 |bad (e:zP ds S=.bad)
 |of (d:D) (b a:Em) (ed:ds=[d,.ty b]) (hb:bC b=Vq) (ha:pi d S=Aa a) (e:zP ds S=.ok (.bl (pY a b)) S)
def qBm (ds:Ab D)(S:ag):_F ds S:=by
 cases ds with
 |nil=>exact .bad rfl
 |cons d ds =>
  cases ds with
  |nil=>exact .bad rfl
  |cons e ds =>
   cases ds with
   |cons _ _=>cases e <;> exact .bad rfl
   |nil =>
    cases e with
    |ty b =>
     have z:zP [d,.ty b] S=if bC b then (match pi d S with|some a=>.ok (.bl (pY a b)) S|none=>.bad) else .bad:=rfl
     by_cases G:bC b=Vq
     .rw[Au G] at z;cases U:pi d S with
      |none=>rw[U] at z;exact .bad z
      |some a=>rw[U] at z;exact .of d b a rfl G U z
     .rw[AT G] at z;exact .bad z
    |_=>exact .bad rfl
def V4:wI X (.builtin "isinstance") zP:=by
 intro aa Y H s P J S vs us ds Q I r k y O;cases qBm ds S with
 |bad e=>rw[e] at O;exact Am O
 |of d b a l g A e =>
  subst l;rw[e] at O;obtain⟨v,w,u,x,rfl,rfl,p,N,q,c⟩:=kX y k;simp only[am] at N;subst N;cases (show x=Ht b from c);have U:=LA (K:=X.K) (OM A) g;have G:∀ B,EP X aa Y Q (.bool (pY a b)) { s with toks:=B }:=λB=>⟨.bl _,H,I.tok B,Z,xr O r (by simp only[am])⟩
  cases qBJ r p A with
  |of M=>exact U7 I q M U G
  |tup N j e sq T =>
   subst e T;cases (show u=Ca N from q);obtain⟨ah,E,⟨o,C,L,_⟩,_⟩:=I.tuple sq;exact Ea Wv I.kIn ⟨o,C,L⟩ U (λz=>nomatch z) G
  |lst N j e sq T =>
   subst e T;cases (show u=Ca N from q);obtain⟨ah,E,⟨o,_,C,L,_⟩,_⟩:=I.list sq;exact Ea Rg I.kIn ⟨o,C,L⟩ U (λz=>nomatch z) G
noncomputable def xM:Ab D->Al (Ab Ar)
 |[]=>Aa []
 |.bl b::r=>(xM r).map (b::·)
 |_=>Zt
theorem vX:∀ {ds:Ab D} {bs:Ab Ar} {vs:Ab V} {us:Y8},xM ds=Aa bs->qJ X.K P J ds vs->qQ vs us->us=bs.map Fb
 |[],bs,vs,us,h,U,G=>by
  cases h;have:=U.nil_inv;subst this;cases G;rfl
 |d::ds,bs,vs,us,h,U,G=>by
  cases d with
  |bl b =>
   obtain⟨C,q,rfl⟩:=Ep.mp (show (xM ds).map (b::·)=Aa bs from h);obtain⟨w,B,rfl,p,t⟩:=U.cons_inv;simp only[am] at p;subst p;cases G with
   |cons O N =>
    cases (show _=Fb b from O);rw[vX q t N];rfl
  |_=>exact nn h
def pP (any:Ar):DF:=λds S=>match ds with
 |[d]=>match (x9 d).bind xM with
  |some U=>.ok (.bl (if any then U.any id else U.all id)) S
  |none=>.bad
 |_=>.bad
def eL (bs:Ab Ar):((Ch bs.length).all λi=>bs.getD i Yp)=bs.all id:=by
 induction bs with
 |nil=>rfl
 |cons b bs U =>
  rw[Aw,Kq,Ik,Ia,Ik,<- U];rfl
def eM (bs:Ab Ar):((Ch bs.length).any λi=>bs.getD i Yp)=bs.any id:=by
 induction bs with
 |nil=>rfl
 |cons b bs U =>
  rw[Aw,Kq,We,Xj,We,<- U];rfl
def U8 {h':Bb}{G:Aj}(I:Inv X aa Y H s)(k:∀ b U,b ∉ [s.heap.objs.size]->(s.heap.push o).get? b=Aa U->h'.get? b=Aa U):Inv X aa Y H { s with heap:=h',toks:=G }:=
 I.kept λb u e=>k b u (by simp;exact Cn (Bh e)) (Ak _ e)
def g6 {bs:Ab Ar}(N:ah=bs.map Fb){A:Bn}:TruthOf X.prog X.w A (λi v=>ah.toArray[i]? = Aa v) (λi=>bs.getD i Yp):=λi v B O L hv C=>by
 subst N;have U:(bs.map Fb)[i]? = Aa v:=by simpa using hv
 rw[Es] at U;cases e:bs[i]? with
 |none=>rw[e] at U;exact nn U
 |some b =>
  rw[e] at U;cases Cw U;have:bs.getD i Yp=b:=by simp[Ma,e]
  have G:O (bs.getD i Yp) B:=C;rw[this] at G;exact Nl G
theorem NL {any:Ar}{Ok:D->ag->Prop}(h:qK X P J (pP any ds S) Ok):∃ d xs bs,ds=[d]/\_E d xs/\xM xs=Aa bs/\Ok (.bl (if any then bs.any id else bs.all id)) S:=by
 obtain⟨d,rfl,U⟩:=iT (X:=X) (β:=D) (g:=λd=>match (x9 d).bind xM with|some bs=>.ok (D.bl (if any then bs.any id else bs.all id)) S|none=>.bad) h;cases N:(x9 d).bind xM with
 |none=>rw[N] at U;exact Am U
 |some bs =>
  rw[N] at U;obtain⟨xs,O,G⟩:=Ej.mp N;exact⟨d,xs,bs,rfl,W_ O,G,U⟩
theorem RW (any:Ar)(hc:X.calm=Vq):wI X (.builtin (if any then "any" else "all")) (pP any):=by
 intro aa Y H s P J S vs us ds Q I r i m x;obtain⟨d,xs,j,A,hd,E,ok⟩:=NL x;clear x;subst A;obtain⟨v,u,rfl,rfl,p,q⟩:=wK m i;clear m;have O:∀ {o:Cd} (G:Bb) (N:Aj),(∀ b g,b ∉ [s.heap.objs.size]->(s.heap.push o).get? b=Aa g->G.get? b=Aa g)->EP X aa Y Q (.bool (if any then j.any id else j.all id)) { s with heap:=G,toks:=N }:=
  λ{o} G N k=>⟨.bl _,H,U8 I k,Z,xr ok r (by simp only[am])⟩
 clear i ok;have y:X.A.in1.handled=none:=I.ok.hd hc;cases hd with
 |tup A =>
  subst A;obtain⟨a,ws,ah,rfl,sq,t,B,C,hl,_⟩:=kH I r p;cases (show u=Ca a from q);have T:=vX E t B;have U:ah.toArray.size=j.length:=by rw[T];simp
  have L:a≠s.heap.objs.size:=by obtain⟨o,e,_⟩:=C;exact Cn (Bh e)
  have W:=Walks.tuple (prog:=X.prog) (w:=X.w) y s.heap.objs.size a L ah.toArray;have l:∀ o,(s.heap.push o).IsTuple a ah.toArray:=λo=>by obtain⟨o,e,c⟩:=C;exact⟨o,Ak _ e,c⟩
  have M:s.heap.IsTuple a ah.toArray:=C;cases any with
  |false =>
   refine call_all_walk (Iw M ⟨s.heap.objs.size,_,_,_,_,_,_,Z,W,⟨⟨_,Be _ Z,Z,Z⟩,l _⟩,g6 T,λG N k=>?_⟩);rw[U,eL];exact O G N k
  |true =>
   refine call_any_walk (Iw M ⟨s.heap.objs.size,_,_,_,_,_,_,Z,W,⟨⟨_,Be _ Z,Z,Z⟩,l _⟩,g6 T,λG N k=>?_⟩);rw[U,eM];exact O G N k
 |lst A =>
  subst A;obtain⟨a,ws,ah,n,rfl,sq,t,B,C,hl,_⟩:=uA I r p;cases (show u=Ca a from q);have h:s.heap.IsList a ah.toArray:=⟨_,C,Z,n,Z⟩;have T:=vX E t B;have U:ah.toArray.size=j.length:=by rw[T];simp
  have L:a≠s.heap.objs.size:=Cn (Bh C);have W:=Walks.list (prog:=X.prog) (w:=X.w) y s.heap.objs.size a L ah.toArray;have z:∀ o,(s.heap.push o).IsList a ah.toArray:=λo=>⟨_,Ak _ C,rfl,n,rfl⟩;cases any with
  |false =>
   refine call_all_walk (Gu h ⟨s.heap.objs.size,_,_,_,_,_,_,Z,W,⟨⟨_,Be _ Z,Z,Z⟩,z _⟩,g6 T,λG N k=>?_⟩);rw[U,eL];exact O G N k
  |true =>
   refine call_any_walk (Gu h ⟨s.heap.objs.size,_,_,_,_,_,_,Z,W,⟨⟨_,Be _ Z,Z,Z⟩,z _⟩,g6 T,λG N k=>?_⟩);rw[U,eM];exact O G N k
def aU:DF:=λds S=>match ds with
 |[.int i]=>.ok (.int i) S
 |[.bl b]=>.ok (.int (Z1 b)) S
 |_=>.bad
inductive _G (ds:Ab D)(S:ag):Prop
 |bad (e:aU ds S=.bad)
 |int (i:Aq) (e:ds=[.int i])
 |bl (b:Ar) (e:ds=[.bl b])
def qBk (ds:Ab D)(S:ag):_G ds S:=by
 cases ds with
 |nil=>exact .bad rfl
 |cons d ds =>
  cases ds with
  |cons _ _=>cases d <;> exact .bad rfl
  |nil =>
   cases d with
   |int i=>exact .int i rfl
   |bl b=>exact .bl b rfl
   |_=>exact .bad rfl
def RX:wI X (.type "int") aU:=by
 intro aa Y H s P J S vs us ds Q I r U N G;cases qBk ds S with
 |bad e=>rw[e] at G;exact Am G
 |int i e =>
  subst e;obtain⟨v,u,rfl,rfl,p,q⟩:=wK N U;exact rQ aa s Y H _ _ Q I U (.inl ⟨_,by rw[xR p],xr G r (by simp only[am])⟩)
 |bl b e =>
  subst e;obtain⟨v,u,rfl,rfl,p,q⟩:=wK N U;simp only[am] at p;subst p;exact rQ aa s Y H _ _ Q I U (.inr ⟨_,rfl,xr G r (by simp only[am];rfl)⟩)
def xN:DF:=λds S=>match ds with
 |[d]=>match x9 d with
  |some xs=>.ok (.tup xs) S
  |none=>.bad
 |_=>.bad
def KW:wI X (.type "tuple") xN:=by
 intro aa Y H s P J S vs us ds Q I r C B E;obtain⟨d,rfl,U⟩:=iT (X:=X) (β:=D) (g:=λd=>match x9 d with|some xs=>.ok (D.tup xs) S|none=>.bad) E;obtain⟨xs,N,G⟩:∃ xs,x9 d=Aa xs/\gy X P J Q (.tup xs) S:=by
  cases N:x9 d with
  |none=>rw[N] at U;exact Am U
  |some xs=>rw[N] at U;exact⟨xs,rfl,U⟩
 obtain⟨v,u,rfl,rfl,p,q⟩:=wK B C;cases W_ N with
 |tup e =>
  subst e;have L:=p;simp only[am] at p;obtain⟨a,O,rfl,sq,t⟩:=p;exact bW aa s Y H _ _ Q I C ⟨a,O,rfl,.inr ⟨wB r.sub sq,xr G r L⟩⟩
 |lst e =>
  subst e;simp only[am] at p;obtain⟨a,O,rfl,sq,t⟩:=p;exact bW aa s Y H _ _ Q I C ⟨a,O,rfl,.inl ⟨(xX r.sub sq).l,λl T=>bG r T t G⟩⟩
def cA:DF:=λds S=>match ds with
 |[d]=>match x9 d with
  |some xs=>.ok (.lst xs) S
  |none=>.bad
 |_=>.bad
def T9:wI X (.type "list") cA:=by
 intro aa Y H s P J S vs us ds Q I r C L T;obtain⟨d,rfl,U⟩:=iT (X:=X) (β:=D) (g:=λd=>match x9 d with|some xs=>.ok (D.lst xs) S|none=>.bad) T;obtain⟨xs,N,G⟩:∃ xs,x9 d=Aa xs/\gy X P J Q (.lst xs) S:=by
  cases N:x9 d with
  |none=>rw[N] at U;exact Am U
  |some xs=>rw[N] at U;exact⟨xs,rfl,U⟩
 obtain⟨v,u,rfl,rfl,p,q⟩:=wK L C;cases W_ N with
 |tup e =>
  subst e;simp only[am] at p;obtain⟨a,O,rfl,sq,t⟩:=p;exact fB aa s Y H _ _ Q I C ⟨a,O,rfl,.inr (wB r.sub sq),λl B=>wH r B t G⟩
 |lst e =>
  subst e;simp only[am] at p;obtain⟨a,O,rfl,sq,t⟩:=p;exact fB aa s Y H _ _ Q I C ⟨a,O,rfl,.inl ((xX r.sub sq).l),λl B=>wH r B t G⟩
end
section
variable {X:Cx}
structure ul (K:Ag)(cl:J9):Prop where
 ex:∀ C∈cl,og K C
 one:∀ C∈cl,∀ B∈cl,Li K (.ref C) (.ref B)=Aa (C == B)
 ve:∀ C∈cl,Li K (.ref C) (.type "ValueError")=Aa Vq
def v8 (U:J9):DF:=λds S=>match ds with
 |[.exn (.ref C),.obj B]=>if U.contains C&&U.contains B then .ok (.bl (C == B)) S else .bad
 |[.exn (.ref C),.ty b]=>if U.contains C&&(b == "ValueError") then .ok (.bl Vq) S else .bad
 |_=>zP ds S
def VO (I:Inv X aa Y H s)(r:bf X.K H P J S)(p:am X.K P J (.exn (.ref C)) v)(q:qR v u):∃ a,u=.ref a/\uN a C s.heap:=by simp only[am] at p;obtain⟨a,rfl,z⟩:=p;obtain⟨y,_⟩:=I.hok a _ (r.sub _ _ z);exact⟨a,q,y⟩
inductive F_ (cl:J9)(ds:Ab D)(S:ag):Prop
 |bad (e:v8 cl ds S=.bad)
 |old (e:v8 cl ds S=zP ds S)
 |obj (C B:Af) (ed:ds=[.exn (.ref C),.obj B]) (h1:C∈cl) (h2:B∈cl) (e:v8 cl ds S=.ok (.bl (C == B)) S)
 |ve (C:Af) (ed:ds=[.exn (.ref C),.ty "ValueError"]) (h1:C∈cl) (e:v8 cl ds S=.ok (.bl Vq) S)
def qAO (U:J9)(C:Af)(d:D)(S:ag):F_ U [.exn (.ref C),d] S:=by
 cases d with
 |obj B =>
  have z:v8 U [.exn (.ref C),.obj B] S=if (U.contains C&&U.contains B)=Vq then .ok (.bl (C == B)) S else .bad:=Z
  by_cases h:(U.contains C&&U.contains B)=Vq
  .rw[Au h] at z;have G:=Ct.mp h;exact .obj C B Z (Ew.mp G.1) (Ew.mp G.2) z
  .rw[AT h] at z;exact .bad z
 |ty b =>
  have z:v8 U [.exn (.ref C),.ty b] S=if (U.contains C&&(b == "ValueError"))=Vq then .ok (.bl Vq) S else .bad:=Z
  by_cases h:(U.contains C&&(b == "ValueError"))=Vq
  .rw[Au h] at z;have G:=Ct.mp h;cases (Ig.mp G.2);exact .ve C rfl (Ew.mp G.1) z
  .rw[AT h] at z;exact .bad z
 |_=>exact .old rfl
def CJ (U:J9)(ds:Ab D)(S:ag):F_ U ds S:=by
 cases ds with
 |nil=>exact .old rfl
 |cons a ds =>
  cases a with
  |exn c =>
   cases c with
   |ref C =>
    cases ds with
    |nil=>exact .old rfl
    |cons b ds =>
     cases ds with
     |nil=>exact qAO U C b S
     |cons _ _=>cases b <;> exact .old rfl
   |_=>exact .old rfl
  |_=>exact .old rfl
def Q6 (O:ul X.K T):wI X (.builtin "isinstance") (v8 T):=by
 intro aa Y H s P J S vs us ds Q I r M A U;cases CJ T ds S with
 |bad e=>rw[e] at U;exact Am U
 |old e=>rw[e] at U;exact V4 aa Y H s P J S vs us ds Q I r M A U
 |obj C B j G k e =>
  rw[e] at U;subst j;obtain⟨v,w,u,x,rfl,rfl,p,N,q,y⟩:=kX A M;simp only[am] at N;obtain⟨rfl,_⟩:=N;cases (show x=Ca B from y);obtain⟨a,rfl,E⟩:=VO I r p q;exact Ea (b7 (O.ex C G)) I.kIn E (O.one C G B k) (λz=>nomatch z) λL=>⟨.bl _,H,I.tok L,rfl,xr U r (by simp only[am])⟩
 |ve C j G e =>
  rw[e] at U;subst j;obtain⟨v,w,u,x,rfl,rfl,p,N,q,y⟩:=kX A M;simp only[am] at N;subst N;cases (show x=Ht "ValueError" from y);obtain⟨a,rfl,E⟩:=VO I r p q;exact Ea (b7 (O.ex C G)) I.kIn E (O.ve C G) (λz=>nomatch z) λL=>⟨.bl _,H,I.tok L,rfl,xr U r (by simp only[am])⟩
def t_ (X:Cx)(id:Em)(g:D->Ab D->ag->ax D):Prop:=
 ∀ (aa:J0) (Y : _L.St) (H:Hp) (s:Ai) (P:Hp) (J : Ab Af) (S:ag) (v:V) (U:Ac) (vs:Ab V) (us:Y8) (a:D) (ds:Ab D) (Q:VK),Inv X aa Y H s->bf X.K H P J S->qR v U->am X.K P J a v->qQ vs us->qJ X.K P J ds vs->qU X P J (g a ds S) Q ->
  a8 X (call (.builtin id) (U::us)) (EP X aa Y Q) X.xe s
def kj (T:Em)(g:D->Ab D->ag->ax D)(O:DE)(C:DA):DE:=λG S=>(O G S).bind λa U=>if (pi a U == Aa T)=Vq then (C G U).bind λds N=>g a ds N else .bad
def K2 (r:bf X.K H P J S)(p:am X.K P J a v)(h:pi a S=Aa T)(hT:T = "list" \/ T = "dict" \/ T = "int" \/ T = "str"):_M X.K T v H:=by
 cases a with
 |int i=>cases h;simp only[am] at p;subst p;rfl
 |str x=>cases h;simp only[am] at p;subst p;rfl
 |lst xs =>
  cases h;simp only[am] at p;obtain⟨b,vs,rfl,q,t⟩:=p;exact .inl ⟨rfl,vs,(xX r.sub q).l⟩
 |dct0 =>
  cases h;simp only[am] at p;obtain⟨b,rfl,q⟩:=p;exact .inr (.inr (.inl ⟨rfl,.inl ⟨[],r.sub _ _ q⟩⟩))
 |loc i =>
  simp only[am] at p;obtain⟨b,rfl,q⟩:=p;rcases sM (f:=λ_=>Aa "list") (g:=λ_=>Aa "dict") h with⟨xs,U,h⟩|⟨G,U,h⟩
  .cases h;obtain⟨vs,z,t⟩:=r.at' i b _ q U;exact .inl ⟨rfl,vs,kr.of z⟩
  .cases h;obtain⟨vs,z,t⟩:=r.at' i b _ q U;exact .inr (.inr (.inl ⟨rfl,.inl ⟨vs,z⟩⟩))
 |non=>cases h;exact absurd hT aC
 |bl b=>cases h;exact absurd hT aC
 |tup xs=>cases h;exact absurd hT aC
 |_=>exact nn h
variable {o e:Bl}{es:Ab Bl}{fo:DE}{fa:DA}{name:Ah}{cy bq:Eb}{T id:Em}{g:D->Ab D->ag->ax D}
def VC {β:Type}{k:ax β}{Ok:β->ag->Prop}(h:qK X P J (if (pi a S == Aa T)=Vq then k else .bad) Ok):pi a S=Aa T/\qK X P J k Ok:=by
 by_cases z:(pi a S == Aa T)=Vq
 .rw[Au z] at h;exact⟨Ig.mp z,h⟩
 .rw[AT z] at h;exact Am h
theorem OZ (pa:Wf T)(slot:Slot T name id)(C:typeOf (.builtin id)=pure (.type "method_descriptor"))(hT:T = "list" \/ T = "dict" \/ T = "int" \/ T = "str")(hm:t_ X id g)(ho:PE X o (tD X fo))(c:PA X (e::es) (kh X fa))
  (G:Fz o name X.env (eval o X.env)=eval o X.env:=by rfl)
  (O:((Eu bq (Bc (e::es) X.env)).all (λx=>!x.1)&&(Uc bq (Od [] X.env)).all (λx=>x.1.isSome)
   && decide ((e::es).length+([]:Ab Keyword).length+(if ([] : Ab Keyword).isEmpty then 0 else 1)<30))=true:=by rfl)
  (N:(cy.endLine == bq.line)=true:=by rfl) (hs:Bc (e::es) X.env=(Yp,eval e X.env)::Bc es X.env:=by rfl) (U:(Eu bq (Bc es X.env)).any (·.1)=false:=by rfl) :
  PE X (.Call (.Attribute o name cy) (e::es) [] bq) (tD X (kj T g fo fa)):=by
 intro aa s Y H Q I h;obtain⟨P,J,b,S,r,a,af⟩:=h;refine Ud G O N rfl (bi (zK ho I r a af) λvv s1 ⟨v,H1,y,k,d,t,G1,B⟩=>?_);obtain⟨q,M⟩:=VC B;obtain⟨u,m⟩:=K1 G1.inv G1.val (K2 G1.rel G1.rep q hT);refine⟨T,id,pa,slot,C,u,m,?_⟩;have w:=wN c G1.inv G1.rel G1.env (P:=y) (J:=k) (Ok:=gy X y k Q) (qU.base G1.same G1.pre (r:=(fa b t).bind λds A=>g d ds A) M) bq;rw[hs] at w ⊢;refine Nu (by show (Yp||(Eu bq (Bc es X.env)).any (·.1))=Yp;rw[U] <;> rfl) (Jl ?_);exact bi w λus s2 ⟨vs,n,l,J2,ds,A,p,rv,i,zc,E,z,j,L⟩=>hm aa Y n s2 l J2 A v vv vs us d ds Q p i G1.val (am.mono z j _ _ G1.rep) rv E (qU.base z j L)
def aI (T:Em)(g:D->Ab D->ag->ax D)(fo:DE):DE:=λG S=>(fo G S).bind λa U=>if (pi a U == Aa T)=Vq then g a [] U else .bad
theorem ED (w:Wf T)(slot:Slot T name id)(N:typeOf (.builtin id)=pure (.type "method_descriptor"))(hT:T = "list" \/ T = "dict" \/ T = "int" \/ T = "str")(hm:t_ X id g)(M:PE X o (tD X fo))
  (G:Fz o name X.env (eval o X.env)=eval o X.env:=by rfl) (U:(cy.endLine == bq.line)=true:=by rfl):PE X (.Call (.Attribute o name cy) [] [] bq) (tD X (aI T g fo)):=by
 intro aa s Y H Q I h;obtain⟨P,J,l,S,r,q,k⟩:=h;refine wpAny_Call_method0_late G U (bi (zK M I r q k) λB E ⟨v,y,j,p,d,z,G1,O⟩=>?_);obtain⟨A,C⟩:=VC O;obtain⟨L,u⟩:=K1 G1.inv G1.val (K2 G1.rel G1.rep A hT);exact⟨T,id,w,slot,N,L,u,Nu rfl (PySem.evalArgs_none (hm aa Y y E j p z v B [] [] d [] Q G1.inv G1.rel G1.val G1.rep .nil .nil (qU.base G1.same G1.pre C)))⟩
def wZ:D->Ab D->ag->ax D:=λa ds S=>match a,ds with
 |.loc i,[d]=>match S[i]? with
  |some (.lst xs)=>if xs.length<bb then .ok .non (S.set i (.lst (xs++[d]))) else .bad
  |_=>.bad
 |_,_=>.bad
inductive ApV (a:D)(ds:Ab D)(S:ag):Prop
 |bad (e:wZ a ds S=.bad)
 |of (i:Aj) (d:D) (xs:Ab D) (ea:a=.loc i) (ed:ds=[d]) (hS:S[i]? = Aa (.lst xs)) (hl:xs.length<bb) (e:wZ a ds S=.ok .non (S.set i (.lst (xs++[d]))))
def apV (a:D)(ds:Ab D)(S:ag):ApV a ds S:=by
 cases a with
 |loc i =>
  cases ds with
  |nil=>exact .bad rfl
  |cons d ds =>
   cases ds with
   |cons _ _=>exact .bad rfl
   |nil =>
    have z:wZ (.loc i) [d] S=(match S[i]? with|some (.lst xs)=>(if xs.length<bb then .ok .non (S.set i (.lst (xs++[d]))) else .bad)|_=>.bad):=rfl;cases U:S[i]? with
    |none=>rw[U] at z;exact .bad z
    |some m =>
     rw[U] at z;cases m with
     |lst xs =>
      by_cases G:xs.length<bb
      .exact .of i d xs Z Z U G (z.trans (Au G))
      .exact .bad (z.trans (AT G))
     |_=>exact .bad z
 |_=>exact .bad rfl
def UM:t_ X "list.append" wZ:=by
 intro aa Y H s P J S v E vs us a ds Q I r A p N G U;cases apV a ds S with
 |bad e=>rw[e] at U;exact Am U
 |of i d xs L M C j e =>
  rw[e] at U;subst L M;obtain⟨w,u,rfl,rfl,B,y⟩:=wK G N;simp only[am] at p;obtain⟨b,rfl,q⟩:=p;obtain⟨O,z,t⟩:=r.at' i b _ q C;refine UQ aa s Y H (.ref b) [w] E [u] Q I A (.cons y .nil) ⟨b,O,w,rfl,rfl,z,by rw[<- t.length,<- zM];exact j,?_⟩;exact xr U (r.put (m':=.lst (xs++[d])) q C (by intro z;cases z) ⟨O++[w],qT,t.append (.cons B .nil)⟩) (by simp only[am])
end
noncomputable def CO:D->Al ku
 |.int i=>Aa (.inl i)
 |.str x=>Aa (.inr x)
 |_=>Zt
def OQ (U:Ab (ku × D))(k:ku):Al D:=(U.find? λG=>decide (G.1=k)).map (·.2)
def qBx (U:Ab (ku × D))(k:ku)(v:D):Ab (ku × D):=
 if (U.any λG=>decide (G.1=k))=Vq then U.map (λG=>if G.1=k then (G.1,v) else G) else U++[(k,v)]
section
variable {X:Cx}{i e:Bl}
abbrev mL:G3:=GW
def O9 (U:X.A.units+1<Fk):cP X (cK X mL):=qA9
def qEF:D->Ab D->ag->ax D:=λa ds S=>match a,ds with
 |.loc n,[i,x]=>match S[n]? with
  |some (.dct U)=>match CO i with
   |some k=>.ok ((OQ U k).getD x) S
   |none=>.bad
  |_=>.bad
 |_,_=>.bad
def fJ:D->Ab D->ag->ax D:=λa ds S=>match a,ds with
 |.lst xs,[.bl k]=>match xM xs with
  |some U=>.ok (.int (U.countP (· == k):Aj)) S
  |none=>.bad
 |_,_=>.bad
noncomputable def dY (k:Ar):Ab Ar->Al Aj
 |[]=>Zt
 |b::r=>if b=k then Aa 0 else (dY k r).map (· + 1)
def fK:D->Ab D->ag->ax D:=λa ds S=>match a,ds with
 |.lst xs,[.bl k]=>match (xM xs).bind (dY k) with
  |some j=>.ok (.int j) S
  |none=>.bad
 |_,_=>.bad
def aQ (k:Ar){bs:Ab Ar}{y:Ac}(N:y∈(bs.map Fb).toArray):AaO y (.bool k) (Ue k y):=by
 have G:y∈bs.map Fb:=by rwa [List.mem_toArray] at N
 obtain⟨b,_,rfl⟩:=Cj.mp G;exact λU w A E s Q h=>Aa8 b k U w E Q h
def oS (k:Ar)(bs:Ab Ar):(bs.map Fb).countP (Ue k)=bs.countP (· == k):=by rw[List.countP_map];rfl
def YZ {β:Type}{r:ax β}{Ok:β->ag->Prop}(e:r=.bad)(h:qK X P J r Ok):Fv:=by rw[e] at h;exact h
inductive BlV (a:D)(ds:Ab D):Prop
 |no (h:∀ (g:Ab D->Ar->ax D),(match a,ds with|.lst xs,[.bl k]=>g xs k|_,_=>.bad)=.bad)
 |of (xs:Ab D) (k:Ar) (ea:a=.lst xs) (ed:ds=[.bl k])
def _V (a:D)(ds:Ab D):BlV a ds:=by
 cases a with
 |lst xs =>
  cases ds with
  |nil=>exact .no λ_=>rfl
  |cons d ds =>
   cases ds with
   |cons _ _=>cases d <;> exact .no λ_=>rfl
   |nil =>
    cases d with
    |bl k=>exact .of xs k rfl rfl
    |_=>exact .no λ_=>rfl
 |_=>exact .no λ_=>rfl
def B0:t_ X "list.count" fJ:=by
 intro aa Y H s P J S v z vs us a ds Q I r j p O N U;cases _V a ds with
 |no h=>exact(YZ (X:=X) (r:=fJ a ds S) (h _) U).elim
 |of xs k M u =>
  subst M u;have U:qK X P J (match xM xs with|some G=>ax.ok (D.int (G.countP (· == k):Aj)) S|none=>.bad) (gy X P J Q):=U;cases B:xM xs with
  |none=>rw[B] at U;exact Am U
  |some G =>
   rw[B] at U;obtain⟨g,E,rfl,rfl,T,A⟩:=wK N O;simp only[am] at T;subst T;cases (show E=Fb k from A);obtain⟨b,l,ah,n,rfl,sq,t,C,L,c,_⟩:=uA I r p;cases (show z=Ca b from j);have q:=vX B t C;subst q;refine Jv PySem.F.slot_list_count ⟨_,L,rfl⟩ PySem.F.entry_list_count (PySem.F.args_list_count_2 _ _) (PySem.SeqAt.list_countAt b (G.map Fb).toArray n Zt #[] (.bool k) (Ue k)) ⟨L,λy w=>(aQ k w).at _ _,?_⟩;refine⟨.int _,H,I.tok _,⟨_,rfl⟩,?_⟩;rw[show (G.map Fb).toArray.toList=G.map Fb from rfl,oS];exact xr U r (by simp only[am])
theorem QU:∀ {bs:Ab Ar} {j:Aj},dY k bs=Aa j->∃ h:j<bs.length,bs[j]=k/\∀ m (hm:m<bs.length),m<j->bs[m]≠k
 |[],j,h=>by cases h
 |b::r,j,h=>by
  unfold dY at h;by_cases U:b=k
  .rw[Au U] at h;cases h;exact⟨by simp,by simpa using U,λm hm z=>absurd z (Nat.not_lt_zero _)⟩
  .rw[AT U] at h;obtain⟨i,O,rfl⟩:=Ep.mp h;obtain⟨C,G,N⟩:=QU O;refine⟨by simp;lia,by simpa using G,λm hm B=>?_⟩;cases m with
   |zero=>simpa using U
   |succ m=>simpa using N m (by simp at hm;lia) li
def B1:t_ X "list.index" fK:=by
 intro aa Y H s P J S v vv vs us a ds Q I r rv p L O U;cases _V a ds with
 |no h=>exact(YZ (X:=X) (r:=fK a ds S) (h _) U).elim
 |of xs k x ed =>
  subst x ed;have U:qK X P J (match (xM xs).bind (dY k) with|some j=>ax.ok (D.int j) S|none=>.bad) (gy X P J Q):=U;cases E:(xM xs).bind (dY k) with
  |none=>rw[E] at U;exact Am U
  |some j =>
   rw[E] at U;obtain⟨A,hb,hi⟩:=Ej.mp E;obtain⟨vx,z,rfl,rfl,w,q⟩:=wK O L;simp only[am] at w;subst w;cases (show z=Fb k from q);obtain⟨b,ws,ah,n,rfl,sq,t,N,M,hl,c⟩:=uA I r p;cases (show vv=Ca b from rv);have B:=vX hb t N;subst B;obtain⟨u,g,h3⟩:=QU hi;have G:A.length<=sizeLine:=by have e1:=t.length;have l:=N.length;rw[Ao] at l;rw[zM] at c;lia
   refine Jv PySem.F.slot_list_index ⟨_,M,Z⟩ PySem.F.entry_list_index (PySem.F.args_list_index_2 _ _) (AaB b (A.map Fb).toArray n (.bool k) (Ue k) (λy hy=>aQ k hy) j (by simpa using u) ?_ ?_ ?_) ⟨M,?_⟩
   .rw[Dv] at G;lia
   .simp[Ue,g]
   .intro m hm C;have T:m<A.length:=by simpa using hm
    have:=h3 m T C;simp[Ue,this]
   .exact⟨.int _,H,I.tok _,⟨_,Z⟩,xr U r (by simp only[am])⟩
end
section
variable {X:Cx}{a b c e:Bl}{ai:Eb}{fe:DE}
def qET (i:Aj)(g:G2)(fe:DE):DS:=λU S=>match U[i]? with
 |some (Aa x)=>(fe U S).toS U λy N=>(g x y N).toS U λz G=>.nx (U.set i (Aa z)) G
 |_=>.bad
noncomputable def DD (i j k:Aj)(ac:qG)(S1:ag):Ab D->ja
 |[x,y,z]=>.nx (((ac.set i (Aa x)).set j (Aa y)).set k (Aa z)) S1
 |_=>.bad
def lW (i j k:Aj)(f:DA):DS:=λU S=>(f U S).toS U λds G=>DD i j k U G ds
def N8 {i j k:Aj}{f:DA}{A t E p:Eb}{kt k2 pt2}(hc:X.calm=Vq) (w:X.N.Nodup) (ha:PA X [a,b,c] (kh X f)) (hi:X.N[i]? = Aa x:=by rfl) (hj:X.N[j]? = Aa y:=by rfl) (hk:X.N[k]? = Aa z:=by rfl) (u:i≠j:=by decide) (T:i≠k:=by decide) (l:j≠k:=by decide)
  (m:X.env.scope.names.lookup x=Aa .local:=by rfl) (n:X.env.scope.names.lookup y=Aa .local:=by rfl) (hz:X.env.scope.names.lookup z=Aa .local:=by rfl)
  (hw:Ic [.Tuple [.Name x A,.Name y t,.Name z E] kt p] (.Tuple [a,b,c] k2 pt2) X.env=pure (Aa [x,y,z]):=by rfl)
  (hs:Ie [.Tuple [.Name x A,.Name y t,.Name z E] kt p] (.Tuple [a,b,c] k2 pt2) ai.line X.env=pure false:=by rfl) :
  PS X (.Assign [.Tuple [.Name x A,.Name y t,.Name z E] kt p] (.Tuple [a,b,c] k2 pt2) ai) (jb X (lW i j k f)):=by
 intro aa s Y H D I h;obtain⟨P,J,ac,S,r,re,af⟩:=h;rw[Zv];refine Ad (Hk ?_);rw[hs];refine Ad (An ?_);rw[AT aC];refine Ad (Tuple_ (bi (dM ha I r re af _) λus N ⟨vs,L,P1,J1,ds,S1,I1,G,r1,M,U,e1,e2,q⟩=>?_))
 match ds,U,q with
 |[],_,q=>exact Am q
 |[_],_,q=>exact Am q
 |[_,_],_,q=>exact Am q
 |_::_::_::_::_,_,q=>exact Am q
 |[d1,d2,d3],U,q =>
  obtain⟨v1,t1,rfl,p1,U⟩:=U.cons_inv;obtain⟨v2,t2,rfl,p2,U⟩:=U.cons_inv;obtain⟨v3,t3,rfl,p3,U⟩:=U.cons_inv;cases U.nil_inv;obtain⟨C,O,B,rfl,q1,q2,q3⟩:∃ C O B,us=[C,O,B]/\qR v1 C/\qR v2 O/\qR v3 B:=by
   cases G with
   |cons z1 G=>cases G with
    |cons z2 G=>cases G with
     |cons z3 G=>cases G;exact⟨_,_,_,rfl,z1,z2,z3⟩
  refine Dh ?_ (by show 3<=sizeLine;decide);have I2:Inv X aa Y L { N with heap:=N.heap.push { cls:=.type "tuple",data:=.seq [C,O,B].toArray } }:=I1.kept (t':=N.toks) λb o e=>Ak _ e;rw[hw];refine Ad (An ?_);show a8 X (do rule "assign.swapped-stores";let items <- unpackItems (.ref N.heap.objs.size) 3 Zt;Ny [λv=>Lm X.env z v,λv=>Lm X.env y v,λv=>Lm X.env x v] items.reverse;pure Xq) _ _ _;refine Ad (Kx (Ad (Xr (items:=#[C,O,B]) (I.ok.hd hc) (Ur N.heap _) λh' g=>?_)));have I3:=I2.kept (h':=h') (t':=N.toks) λb o e=>g b o (Cn (Bh e)) e;show Ap _ _ (Ny [λv=>Lm X.env z v,λv=>Lm X.env y v,λv=>Lm X.env x v] [B,O,C] >>= λ_=>pure Xq) _ _ _;refine Ad (Ir (Ni (yL I3 w hk (.inl hz) q3 (λs2 I4=>?_) (.inr hz))));refine Ir (Ni (yL I4 w hj (.inl n) q2 (λs3 I5=>?_) (.inr n)));refine Ir (Ni (yL I5 w hi (.inl m) q1 (λs4 I6=>Ra (An ?_)) (.inr m)));rw[Rb _ _ (Di u),Rb _ _ (Di T),Rb _ _ (Di l)] at I6;exact⟨_,L,I6,q _ L P1 J1 r1 (((M.set i p1).set j p2).set k p3) (qP.refl _) (Bt _)⟩
def wG (xs:Ab D)(lo U:Al Aq):Ab D:=(xs.drop (_H.di xs.length 0 lo)).take (_H.di xs.length xs.length U-_H.di xs.length 0 lo)
abbrev DO:=qG->ag->ax (Al Aq)
def OkO (X:Cx)(P:Hp)(J : Ab Af)(Q:Al Aq->Hp->Prop)(o:Al Aq)(O:ag):Prop:=∀ G N U,bf X.K G N U O->qP P N->J<+:U->Q o G
def xl (X:Cx)(f:DO):TO:=λY H Q=>∃ P J U S,bf X.K H P J S/\zH X.K P J Y U/\qK X P J (f U S) (OkO X P J Q)
def zL:DO:=λ_ S=>.ok Zt S
def zF (f:DE):DO:=λU S=>(f U S).bind λd G=>match d with
 |.int i=>.ok (Aa i) G
 |_=>.bad
def N4:PO X Zt (xl X zL):=λaa s Y H Q I ⟨P,J,G,S,r,N,U⟩=>DU aa s Y H Q I (U H P J r (qP.refl _) (Bt _))
def N5 (M:PE X e (tD X fe)):PO X (Aa e) (xl X (zF fe)):=by
 intro aa s Y H Q I h;obtain⟨P,J,G,S,r,L,A⟩:=h;refine DV (te:=tD X fe) M aa s Y H Q I ⟨P,J,G,S,r,L,?_⟩;have U:qK X P J ((fe G S).bind λd N=>match d with|.int i=>.ok (Aa i) N|_=>.bad) (OkO X P J Q):=A;cases q:fe G S with
 |bad=>rw[q] at U;exact U
 |ex c x j=>rw[q] at U;exact U
 |ok d N =>
  rw[q] at U;intro v B E z w O C T;cases d with
  |int i=>exact⟨i,xR T,U B E z w O C⟩
  |_=>exact Am U
def qJ.cut {K:Ag}(r:qJ K P J ds vs)(lo U:Al Aq):qJ K P J (wG ds lo U) (fE vs lo U):=by unfold wG fE;rw[r.length];exact(r.drop _).take _
def xa (d:D)(lo U:Al Aq)(S:ag):ax D:=match d with
 |.lst xs=>.ok (.lst (wG xs lo U)) S
 |.loc i=>match S[i]? with
  |some (.lst xs)=>.ok (.lst (wG xs lo U)) S
  |_=>.bad
 |.tup xs=>.ok (.tup (wG xs lo U)) S
 |_=>.bad
def nq (fe:DE)(C L:DO):DE:=λU S=>(fe U S).bind λd B=>(C U B).bind λlo N=>(L U N).bind λG O=>xa d lo G O
end
end _D
namespace _D
open _L _H
section
variable {prog:Ba}{w:Bu}{A:Bn}{E:J7}{s:Ai}
theorem bY {lo O:Al Aq}{Q:J7}(Y:Tf s.heap t items)(hs:s.heap.IsSliceOf G B C .none)(pl:Pg B lo)(T:Pg C O)
  (hw:di items.size 0 lo=0/\di items.size items.size O=items.size) (h:Q (.ref t) s):Ap (As prog w) A (Oa (.ref t) (.ref G)) Q E s:=by
 obtain⟨L,U,J,_⟩:=id hs;have N:s.TypeIs (.ref G) "slice":=⟨L,U,J⟩;unfold Oa
 try with_reducible refine Dc ?_
 first|refine Ad (An ?_)|skip
 refine Ad (Rh Y.typeIs aC ?_);refine Ad (Dt (name:=Fd "__getitem__") Y.typeIs Fj
  (Dx Fj Y.typeIs Vw ?_ (Ww _ _)))
 show Ap _ _ (Qu (.ref t) >>= _) _ _ s;refine Ad (tupleItemsOf_ Y ?_);refine Ad (Lo N ?_);rw[Au aC];refine Ad (kB hs pl T ?_);show Ap _ _ (if (((di items.size 0 lo:Aj):Aq) == 0&&(1:Aq) == 1&&(di items.size items.size O-di items.size 0 lo) == items.size)=Vq then _ else _) _ _ s;rw[hw.1,hw.2,Au aA];unfold Builtin.Tuple.tupleIsExact;refine Ad (Ad (Lo Y.typeIs (An ?_)));rw[Au aC];exact Ad (Kx (An ⟨_,Z,An h⟩))
end
section
variable {X:Cx}{e:Bl}{fe:DE}{ai p2:Eb}
def qCD (X:Cx):V->Al Aq->Al Aq->Hp->VK->Prop:=λx lo Y H Q=>∃ P J S d,bf X.K H P J S/\am X.K P J d x/\qU X P J (xa d lo Y S) Q
def qCH:zr X (qCD X):=by
 intro y s Y H x v j w lo G M Q I L A pl E h;obtain⟨P,J,S,d,r,p,N⟩:=h;cases d with
 |lst O =>
  simp only[am] at p;obtain⟨a,U,rfl,q,t⟩:=p;exact XB y s Y H _ v j w lo G M Q I L A pl E ⟨a,U,rfl,(xX r.sub q).l,λb B=>wH r B (qJ.cut t lo G) N⟩
 |loc i =>
  obtain⟨O,u,N⟩:=bE (X:=X) (f:=λO=>ax.ok (D.lst (wG O lo G)) S) N;simp only[am] at p;obtain⟨a,rfl,q⟩:=p;obtain⟨U,z,t⟩:=r.at' i a _ q u;exact XB y s Y H _ v j w lo G M Q I L A pl E ⟨a,U,rfl,kr.of z,λb B=>wH r B (qJ.cut t lo G) N⟩
 |tup O =>
  have g:=p;simp only[am] at p;obtain⟨a,U,rfl,q,t⟩:=p;by_cases T:di U.length 0 lo=0/\di U.length U.length G=U.length
  .cases L;obtain⟨o,c,k,m⟩:=I.tuple (wB r.sub q);have C:o.toArray.size=U.length:=by rw[Bf];exact c.length.symm
   refine⟨"tuple",_,Fj.lookup,k.typeIs,bY k A pl E (by rw[C];exact T) ⟨.ref a,H,I,Z,xr N r ?_⟩⟩;have e:wG O lo G=O:=by unfold wG;rw[t.length,T.1,T.2,<- t.length];simp
   rw[e];exact g
  .exact OA y s Y H _ v j w lo G M Q I L A pl E ⟨a,U,Z,wB r.sub q,T,λb B=>bG r B (qJ.cut t lo G) N⟩
 |_=>exact Am N
def GE {lo C:Al Bl}(he:PE X e (tD X fe))(s:PO X lo (xl X I))(h:PO X C (xl X T)):PE X (.Subscript e (.Slice lo C Zt p2) ai) (tD X (nq fe I T)):=
 se (iY qCH he s h) λY H Q ⟨P,J,O,S,r,p,b⟩=>by
  refine⟨P,J,O,S,r,p,?_⟩;have N:qK X P J ((fe O S).bind λd E=>(I O E).bind λlo B=>(T O B).bind λC L=>xa d lo C L) (gy X P J Q):=b;cases q:fe O S with
  |bad=>rw[q] at N;exact N
  |ex c x m=>rw[q] at N;exact N
  |ok d E =>
   rw[q] at N;intro v H1 y k r1 M w rp;refine⟨y,k,O,E,r1,p.mono M w,?_⟩;have U:qK X y k ((I O E).bind λlo B=>(T O B).bind λC L=>xa d lo C L) (gy X y k Q):=qU.base M w N;cases o:I O E with
   |bad=>rw[o] at U;exact U
   |ex c x m=>rw[o] at U;exact U
   |ok l B =>
    rw[o] at U;intro H2 z f i g j;refine⟨z,f,O,B,i,(p.mono M w).mono g j,?_⟩;have G:qK X z f ((T O B).bind λC L=>xa d l C L) (gy X z f Q):=qU.base g j U;cases A:T O B with
    |bad=>rw[A] at G;exact G
    |ex c x m=>rw[A] at G;exact G
    |ok u L =>
     rw[A] at G;intro H3 P3 a r3 t n;exact⟨P3,a,L,d,r3,am.mono (g.trans t) (j.trans n) _ _ rp,qU.base t n G⟩
def pS (d:D)(S:ag):ax D:=match d with
 |.int i=>if i.natAbs.log2<1920 then .ok (.str (toString i)) S else .bad
 |.str x=>if x.length<=bb then .ok (.str x) S else .bad
 |_=>.bad
set_option tactic.hygienic true in
def EJ (T:PE X e (tD X fe)):PE X (.FormattedValue e (-1) Zt ai) (tD X (d1 pS fe)):=by
 intro k s Y H Q I h;obtain⟨P,J,z,S,r,B,L⟩:=h;refine FormattedValue_plain (bi (zK T I r B L) λj M ⟨v,O,y,u,d,w,G1,G⟩=>?_);have p:=G1.rep;have C:=G1.val;have U:=qU.base G1.same G1.pre G;cases d with
 |int i =>
  simp only[pS] at U;split at U
  .rename_i N;simp only[am] at p;subst p;obtain⟨t,rfl⟩:=C;exact formatField_int_small N ⟨.str _,O,G1.inv.tok _,⟨_,rfl⟩,xr U G1.rel (by simp only[am])⟩
  .exact Am U
 |str x =>
  simp only[pS] at U;split at U
  .rename_i N;simp only[am] at p;subst p;obtain⟨t,rfl⟩:=C;exact formatField_str (λE A=>⟨.str _,O,G1.inv.tok _,⟨_,rfl⟩,xr U G1.rel (by simp only[am])⟩) (by rw[<- zM];exact N)
  .exact Am U
 |_=>exact Am U
noncomputable def pZ (Q:Ah):Ab DE->qG->ag->ax D
 |[],_,S=>if Q.length<=bb then .ok (.str Q) S else .bad
 |p::J,Y,S=>(p Y S).bind λd U=>match d with
  |.str y=>if (Q++y).length<=bb then pZ (Q++y) J Y U else .bad
  |_=>.bad
def PJ (X:Cx)(es:Ab Bl)(fs:Ab DE):Prop:=
 ∀ (U:Ah) (N:J0) (s:Ai) (Y : _L.St) (H P:Hp) (J : Ab Af) (G:qG) (S:ag) (Q:VK),Inv X N Y H s->bf X.K H P J S->zH X.K P J Y G->qU X P J (pZ U fs G S) Q ->
  a8 X (joinParts U (evalEach es X.env)) (EP X N Y Q) X.xe s
def II:PJ X [] []:=by intro N B s Y H P J O S Q I r C U;obtain⟨G,U⟩:=x3 (X:=X) U;exact joinParts_nil ⟨.str _,H,I.tok _,⟨_,rfl⟩,xr U r (by simp only[am])⟩ (by rw[<- zM];exact G)
def DQ {fs:Ab DE}(M:PE X e (tD X fe))(B:PJ X es fs):PJ X (e::es) (fe::fs):=by
 intro G z s Y H P J C S Q I r w O;have O:qK X P J ((fe C S).bind λd N=>match d with|.str y=>if (G++y).length<=bb then pZ (G++y) fs C N else .bad|_=>.bad) (gy X P J Q):=O;refine joinParts_cons (bi (zK M I r w O) λk L ⟨v,E,T,j,d,N,G1,U⟩=>?_);cases d with
 |str y =>
  have p:=G1.rep;simp only[am] at p;subst p;obtain⟨t,rfl⟩:=G1.val;obtain⟨A,U⟩:=x3 (X:=X) U;exact⟨by rw[<- zM];exact A,B (G++y) z L Y E T j C N Q G1.inv G1.rel G1.env (qU.base G1.same G1.pre U)⟩
 |_=>exact Am U
def c9 (fs:Ab DE):DE:=λQ S=>pZ Ou fs Q S
def TQ {G U:Bl}{N:Ab Bl}{fs:Ab DE}(h:PJ X (G::U::N) fs):PE X (.JoinedStr (G::U::N) ai) (tD X (c9 fs)):=by intro T s Y H Q I O;obtain⟨P,J,B,S,r,L,C⟩:=O;exact JoinedStr_many (h Ou T s Y H P J B S Q I r L C)
end
end _D
namespace _D
open _L
variable {J:J9}{N ps:Y0}{ys ah ds:Ab D}{er:Ab Du}{xs:Ab V}{Q:J7}{I C:Af}{m:Aj}{dk:Aj->Al (Aj->Ac)}{tp tq:Ar}{h':Bb}{yn:Bb->Prop}{items:Br Ac}{T id:Em}{fd:Ft}{R:It->Hp->Prop}{S:ag}
def xK (tp:Ar)(h:Bb)(it l:Af)(k:Aj):Prop:=if tp then h.IsTupleIter it l k else h.IsListIter it l k
def yN (tp:Ar)(h:Bb)(l:Af)(xs:Br Ac):Prop:=if tp then h.IsTuple l xs else h.IsList l xs
def xK.keep {it l:Af}(x:xK tp h it l k)(q:∀ o,h.get? it=Aa o->h'.get? it=Aa o):xK tp h' it l k:=by cases tp <;> (obtain⟨o,e,r⟩:=x;exact⟨o,q o e,r⟩)
def yN.keep {l:Af}{xs:Br Ac}(x:yN tp h l xs)(q:∀ o,h.get? l=Aa o->h'.get? l=Aa o):yN tp h' l xs:=by cases tp <;> (obtain⟨o,e,r⟩:=x;exact⟨o,q o e,r⟩)
def xK.there {it l:Af}(x:xK tp h it l k):∃ o,h.get? it=Aa o/\∀ v,o.data≠.cell v:=by cases tp <;> (obtain⟨o,e,_,d⟩:=x;exact⟨o,e,λv z=>by rw[d] at z;cases z⟩)
section
variable {prog:Ba}{w:Bu}{A:Bn}{E:J7}{s:Ai}
theorem B6 {it t:Af}(Y:s.heap.IsTupleIter it t i)(B:s.heap.IsTuple t items)(U:items[i]? = Aa x)
  (L:∀ h',h'.IsTupleIter it t (i+1)->Ex it s.heap h'->Q x { s with heap:=h' }) : Ap (As prog w) A (Cp (.ref it)) Q E s:=by
 obtain⟨o,e,c,d⟩:=id Y;obtain⟨u,G,_,m,O⟩:=B;unfold Cp;refine Ad (Dt (name:=Fd "__next__") Y.typeIs Ja (Dx Ja Y.typeIs Px ?_ (Pp _)));show Ap _ _ (field (.ref it) 0 >>= _) _ _ s;refine Ad (Dr e d (x:=.ref t) rfl ?_);show Ap _ _ (if (Ca t == El)=Vq then _ else _) _ _ s;rw[AT (show ¬ ((Ca t == El)=Vq) from Fc)];show Ap _ _ (field (.ref it) 1 >>= _) _ _ s;refine Ad (Dr e d (x:=.int i 0) Z ?_);show Ap _ _ (seqItems? (.ref t) >>= _) _ _ s;refine Ad (Gr G O ?_);simp only[EQ,U];refine Ad (Ge e d aA (An ⟨x,Z,An (L _ ⟨_,Dy _ e (IN (Hs d _)),(Rm ..).trans c,?_⟩ (Gz ..))⟩));rw[Hs d];simp[Jr]
theorem iN {it t:Af}{Q:J7}(U:A.handled=Zt)(Y:s.heap.IsTupleIter it t i)(L:s.heap.IsTuple t items)(G:items[i]? = Zt)
  (H:∀ h' e,Uw it s.heap h'->(∃ o,h'.get? e=Aa o/\o.cls=.type "StopIteration")->E (.ref e) { s with heap:=h' }) : Ap (As prog w) A (Cp (.ref it)) Q E s:=by
 obtain⟨o,e,c,d⟩:=id Y;obtain⟨u,O,_,m,B⟩:=L;unfold Cp;refine Ad (Dt (name:=Fd "__next__") Y.typeIs Ja (Dx Ja Y.typeIs Px ?_ (Pp _)));show Ap _ _ (field (.ref it) 0 >>= _) _ _ s;refine Ad (Dr e d (x:=.ref t) rfl ?_);show Ap _ _ (if (Ca t == El)=Vq then _ else _) _ _ s;rw[AT (show ¬ ((Ca t == El)=Vq) from Fc)];show Ap _ _ (field (.ref it) 1 >>= _) _ _ s;refine Ad (Dr e d (x:=.int i 0) Z ?_);show Ap _ _ (seqItems? (.ref t) >>= _) _ _ s;refine Ad (Gr O B ?_);simp only[EQ,G];refine Ad (Kx (Ad (Ge e d aA ?_)));show Ap _ _ (Zg (.type "StopIteration") [] >>= _) _ _ _;refine Ad ?_;simp only[Zg,newTuple];refine Ad (Dh ?_ (by size_fits));refine Ad (m:=Ll _ _) (Jx (a:=El) (by first|rfl|(simp only[Ll];rfl)) (Dh ?_ (by size_fits)));simp only[ZB];refine Ad (Wg ?_)
 first|rw[show A.in1.handled=Zt from U]|rw[U]
 exact Ad (An (Ux (H _ _ (((Gz ..).extBut.push _).push _) ⟨_,Be _ Z,Z⟩)))
def iL {it l:Af}{xs:Br Ac}(Y:xK tp s.heap it l k)(O:yN tp s.heap l xs)(U:xs[k]? = Aa x)
  (G:∀ h',xK tp h' it l (k+1)->Ex it s.heap h'->Q x { s with heap:=h' }) : Ap (As prog w) A (Cp (.ref it)) Q E s:=by
 cases tp with
 |false=>exact wpAny_nextOf_list_item Y O U G
 |true=>exact B6 Y O U G
def fU {it l:Af}{xs:Br Ac}{Q:J7}(G:A.handled=Zt)(Y:xK tp s.heap it l k)(B:yN tp s.heap l xs)(U:xs[k]? = Zt)
  (O:∀ h' e,Uw it s.heap h'->(∃ o,h'.get? e=Aa o/\o.cls=.type "StopIteration")->E (.ref e) { s with heap:=h' }) : Ap (As prog w) A (Cp (.ref it)) Q E s:=by
 cases tp with
 |false=>exact wpAny_nextOf_list_end G Y B U O
 |true=>exact iN G Y B U O
structure ZA (z I O i j:Af):Prop where
 Iz:I≠z
 Oz:O≠z
 iz:i≠z
 jz:j≠z
 IO:I≠O
 Ii:I≠i
 Ij:I≠j
 Oi:O≠i
 Oj:O≠j
 ij:i≠j
structure Off (z O i j a:Af):Prop where
 z:a≠z
 O:a≠O
 i:a≠i
 j:a≠j
abbrev KE (z O i j:Af)(h h':Bb):Prop:=∀ c o,c≠z->c≠O->c≠i->c≠j->h.get? c=Aa o->h'.get? c=Aa o
structure M_ (prog:Ba)(w:Bu)(i:Af)(d:Aj)(val:Aj->Al (Aj->Ac))(At:Bb->Aj->Prop)(ip:Bb->Prop):Prop where
 next:∀ {A:Bn} {E:J7} {s:Ai} {k:Aj} {x:Aj->Ac} {Q:J7},At s.heap k->ip s.heap->val k=Aa x->(∀ h',At h' (k+1)->Ex i s.heap h'->Q (x s.toks) { s with heap:=h',toks:=s.toks+d }) -> Ap (As prog w) A (Cp (.ref i)) Q E s
 stop:∀ {A:Bn} {E:J7} {s:Ai} {k:Aj} {Q:J7},A.handled=Zt->At s.heap k->ip s.heap->val k=Zt->(∀ h' e,Uw i s.heap h'->(∃ o,h'.get? e=Aa o/\o.cls=.type "StopIteration")->E (.ref e) { s with heap:=h' }) -> Ap (As prog w) A (Cp (.ref i)) Q E s
def RP (tp:Ar)(i a:Af)(xs:Br Ac):M_ prog w i 0 (λk=>xs[k]?.map λx _=>x) (λh k=>xK tp h i a k) λh=>yN tp h a xs:=
 ⟨λY U O G=>by
  obtain⟨x,e,rfl⟩:=Ep.mp O;exact iL Y U e G,λB Y U O G=>fU B Y U (Kr.mp O) G⟩
abbrev _z (i:Af)(At:Bb->Aj->Prop):Prop:=∀ h h' k,At h k->(∀ o,h.get? i=Aa o->h'.get? i=Aa o)->At h' k
def FK {At:Bb->Aj->Prop}{ip:Bb->Prop}{k:Aj}{ys:Br Ac}{x:Aj->Ac}{y p q:Ac}(ar:M_ prog w i d dk At ip)(t:_z i At)(D:ZA z I O i j)(a:Off z O i j b)
  (hz:Py s.heap z I O .none) (hI:Ki s.heap I (.ref i) (.ref j)) (hO:Ki s.heap O p q) (h1:At s.heap k) (h2:xK tq s.heap j b k) (ha:∀ h',Ex z s.heap h'->ip h') (hb:yN tq s.heap b ys) (hx:dk k=Aa x) (hy:ys[k]? = Aa y)
  (hQ:∀ h',Py h' z I O (Jr s.heap.objs.size)->Ki h' O (x s.toks) y->At h' (k+1)->xK tq h' j b (k+1)->Ki h' s.heap.objs.size (x s.toks) y->h'.objs.size=s.heap.objs.size+1->KE z O i j s.heap h'->Q (.ref s.heap.objs.size) { s with heap:=h',toks:=s.toks+d }) :
  Ap (As prog w) A (Ih.«zip.__next__» ⟨[.ref z],[]⟩) (λfin s'=>∃ v,fin=.done (.ret v)/\Q v s') E s:=by
 show Ap _ _ (field (.ref z) 2 >>= _) _ _ _;refine Ad (Dr hz Z (x:=.bool Yp) Z ?_);show Ap _ _ (field (.ref z) 3 >>= _) _ _ _;refine Ad (Dr hz Z (x:=.ref I) Z (Ad (Gr hI Z ?_)));show Ap _ _ (Gi (.ref z) >>= _) _ _ _;refine Ad ?_;unfold Gi;refine Ad (Dr hz Z (x:=.none) Z (An ?_));simp only[Dw];refine Ad (Kx (Ad (Dr hz Z (x:=.ref O) Z (Ad (Ix hz aA λg1 z1 U=>?_)))));replace z1:Py g1 z I O .ellipsis:=z1;refine Ad ?_;simp only[Zh,dL,Mh,Nj];refine Ad (Ad (Rp ?_));show Ap _ _ (Cp (.ref i) >>= _) _ _ _;refine Ad (ar.next (t _ g1 k h1 λo e=>U.extBut _ _ D.iz e) (ha g1 U) hx λg2 i2 L=>An ?_);have O2:Ki g2 O p q:=L.extBut _ _ D.Oi (U.extBut _ _ D.Oz hO);refine Ad (Gr O2 Z (Ad (Op O2 λg3 h B=>Ad (Uy (An ?_)))));replace h:Ki g3 O (x s.toks) q:=h;refine Ad (Ad (Rp ?_));show Ap _ _ (Cp (.ref j) >>= _) _ _ _;refine Ad (iL (h2.keep λo e=>B.extBut _ _ D.Oj.symm (L.extBut _ _ D.ij.symm (U.extBut _ _ D.jz e))) (hb.keep λo e=>B.extBut _ _ a.O (L.extBut _ _ a.i (U.extBut _ _ a.z e))) hy λg4 j4 u=>An ?_);have O4:Ki g4 O (x s.toks) q:=u.extBut _ _ D.Oj h;refine Ad (Gr O4 Z (Ad (Op O4 λY g H=>Ad (Uy (An (An ?_))))));replace g:Ki Y O (x s.toks) y:=g;refine Ad (Gr g Z (Ad (wpAny_newTuple ?_)));have sz:Y.objs.size=s.heap.objs.size:=by rw[H.1,u.1,B.1,L.1,U.1]
 have z5:Py Y z I O .ellipsis:=H.extBut _ _ D.Oz.symm (u.extBut _ _ D.jz.symm (B.extBut _ _ D.Oz.symm (L.extBut _ _ D.iz.symm z1)));have k5:KE z O i j s.heap Y:=λc o G r c3 n e=>H.extBut _ _ r (u.extBut _ _ n (B.extBut _ _ r (L.extBut _ _ c3 (U.extBut _ _ G e))));have i5:At Y (k+1):=t _ _ _ i2 λo e=>H.extBut _ _ D.Oi.symm (u.extBut _ _ D.ij (B.extBut _ _ D.Oi.symm e));have j5:xK tq Y j b (k+1):=j4.keep λo e=>H.extBut _ _ D.Oj.symm e;have zl:z<Y.objs.size:=Bh z5;show Ap _ _ (Mi (.ref z) (.ref Y.objs.size) >>= _) _ _ _;refine Ad ?_;unfold Mi;have z6:Py (Y.push { cls:=.type "tuple",data:=.seq #[x s.toks,y] }) z I O .ellipsis:=Ak _ z5;refine Ad (Ix z6 aA λg7 z7 s7=>?_);replace z7:Py g7 z I O (Jr Y.objs.size):=z7;refine Ix z7 aA λM f s8=>?_;replace f:Py M z I O (Jr Y.objs.size):=f;have up:∀ c o,c≠z->Y.get? c=Aa o->M.get? c=Aa o:=λc o G e=>s8.extBut _ _ G (s7.extBut _ _ G (Ak _ e));have T8:Ki M Y.objs.size (x s.toks) y:=s8.extBut _ _ (Hj zl) (s7.extBut _ _ (Hj zl) (Be _ Z));have l:M.objs.size=Y.objs.size+1:=by rw[s8.1,s7.1,Er]
 rw[sz] at f T8 l;refine An ⟨_,Z,?_⟩;show Q (.ref Y.objs.size) _;rw[sz];exact hQ M f (up _ _ D.Oz g) (t _ _ _ i5 λo e=>up _ o D.iz e) (j5.keep λo e=>up _ o D.jz e) T8 l λc o G r c3 n e=>up c o G (k5 c o G r c3 n e)
end
section
variable {prog:Ba}{w:Bu}{A:Bn}{E:J7}{s:Ai}
def FO {At:Bb->Aj->Prop}{ip:Bb->Prop}{k:Aj}{ys:Br Ac}{p q:Ac}{Q:Fin->Ai->Prop}(hh:A.handled=Zt)(ar:M_ prog w i d dk At ip)(kp:_z i At)(D:ZA z I O i j)(f:Off z O i j b)
  (hz:Py s.heap z I O .none) (hI:Ki s.heap I (.ref i) (.ref j)) (hO:Ki s.heap O p q) (h1:At s.heap k) (h2:xK tq s.heap j b k) (ha:∀ h',Ex z s.heap h'->ip h') (hb:yN tq s.heap b ys) (u:dk k=Zt\/ys[k]? = Zt)
  (hE:∀ h' e tk,KE z O i j s.heap h'->(∃ o,h'.get? e=Aa o/\o.cls=.type "StopIteration")->E (.ref e) { s with heap:=h',toks:=tk }) : Ap (As prog w) A (Ih.«zip.__next__» ⟨[.ref z],[]⟩) Q E s:=by
 show Ap _ _ (field (.ref z) 2 >>= _) _ _ _;refine Ad (Dr hz Z (x:=.bool Yp) Z ?_);show Ap _ _ (field (.ref z) 3 >>= _) _ _ _;refine Ad (Dr hz Z (x:=.ref I) Z (Ad (Gr hI Z ?_)));show Ap _ _ (Gi (.ref z) >>= _) _ _ _;refine Ad ?_;unfold Gi;refine Ad (Dr hz Z (x:=.none) Z (An ?_));simp only[Dw];refine Ad (Kx (Ad (Dr hz Z (x:=.ref O) Z (Ad (Ix hz aA λl g Y=>?_)))));replace g:Py l z I O .ellipsis:=g;refine Ad ?_;simp only[Zh,dL,Mh,Nj];refine Ad (Ad (Rp ?_));show Ap _ _ (Cp (.ref i) >>= _) _ _ _;have L:At l k:=kp _ _ _ h1 λo e=>Y.extBut _ _ D.iz e;cases v:dk k with
 |none =>
  refine Ad (ar.stop hh L (ha l Y) v λa e x2 h=>?_);obtain⟨n,U,B⟩:=h;have z2:Py a z I O .ellipsis:=x2 _ _ D.iz.symm g;have r:e≠z:=λy=>by subst y;rw[z2] at U;cases U;simp at B
  exact Ix z2 aA λg3 _ G=>hE g3 e s.toks (λc o M _ t _ y=>G.extBut _ _ M (x2 _ _ t (Y.extBut _ _ M y))) ⟨n,G.extBut _ _ r U,B⟩
 |some x =>
  have hy:ys[k]? = none:=by
   rcases u with y|y
   .rw[v] at y;cases y
   .exact y
  refine Ad (ar.next L (ha l Y) v λa i2 H=>An ?_);have O2:Ki a O p q:=H.extBut _ _ D.Oi (Y.extBut _ _ D.Oz hO);refine Ad (Gr O2 rfl (Ad (Op O2 λg3 O3 G=>Ad (Uy (An ?_)))));refine Ad (Ad (Rp ?_));show Ap _ _ (Cp (.ref j) >>= _) _ _ _;refine Ad (fU hh (h2.keep λo e=>G.extBut _ _ D.Oj.symm (H.extBut _ _ D.ij.symm (Y.extBut _ _ D.jz e))) (hb.keep λo e=>G.extBut _ _ f.O (H.extBut _ _ f.i (Y.extBut _ _ f.z e))) hy λg4 e x4 h=>?_);obtain⟨n,U,B⟩:=h;have z4:Py g4 z I O .ellipsis:=x4 _ _ D.jz.symm (G.extBut _ _ D.Oz.symm (H.extBut _ _ D.iz.symm g));have r:e≠z:=λy=>by subst y;rw[z4] at U;cases U;simp at B
  exact Ix z4 aA λg5 _ s5=>hE g5 e (s.toks+d) (λc o M c2 t c4 y=>s5.extBut _ _ M (x4 _ _ c4 (G.extBut _ _ c2 (H.extBut _ _ t (Y.extBut _ _ M y))))) ⟨n,s5.extBut _ _ r U,B⟩
noncomputable abbrev cE (tp:Ar)(l:Af):Cd:={ cls:=.type (if tp then "tuple_iterator" else "list_iterator"),data:=.fields #[.ref l,.int 0 0] }
abbrev P_ (o:Cd)(h:Bb):Bb:=h.push o
abbrev O_ (o:Cd)(tq:Ar)(h:Bb)(b:Af):Bb:=(P_ o h).push (cE tq b)
abbrev N_ (o:Cd)(tq:Ar)(h:Bb)(b:Af):Bb:=(O_ o tq h b).push { cls:=.type "tuple",data:=.seq #[.ref h.objs.size,.ref (P_ o h).objs.size] }
abbrev NN (o:Cd)(tq:Ar)(h:Bb)(b:Af):Bb:=(N_ o tq h b).push { cls:=.type "tuple",data:=.seq #[.none,.none] }
abbrev wt (o:Cd)(tq:Ar)(h:Bb)(b:Af):Bb:=(NN o tq h b).push { cls:=.type "zip",data:=.fields #[.none,.bool Yp,.bool Yp,.ref (O_ o tq h b).objs.size,.ref (N_ o tq h b).objs.size] }
abbrev nP (v:Ac)(o:Cd)(tq:Ar)(b:Af)(yn:Bb->Prop):Prop:=Meets (Ih.«zip.__new__» ⟨[.type "zip",v,.ref b],[]⟩) λ_ R s=>yn s.heap/\R (.ok (.ret (.ref (NN o tq s.heap b).objs.size))) { s with heap:=wt o tq s.heap b }
set_option maxHeartbeats 4000000 in
def RC (tp:Ar)(a b:Af)(xs ys:Br Ac):nP (.ref a) (cE tp a) tp b λh=>yN tp h a xs/\yN tp h b ys:=
 .of_wp λprog w A R s h=>by
  obtain⟨Y,g,d,U,os⟩:=s;obtain⟨⟨O,H⟩,h⟩:=h;have L:=sub_zip;have G:∀ B:Cd,yN tp (Y.push B) b ys:=λB=>H.keep λo e=>Ak _ e;cases tp
  .have l1:Zi (Qv ⟨Y,g,d,U,os⟩) a xs:=O;have l2:Zi (Qv ⟨Y.push { cls:=.type "list_iterator",data:=.fields #[.ref a,.int 0 0] },g,d,U,os⟩) b ys:=G _;wp_walk using Gu l1,Gu l2;exact⟨_,Z,h⟩
  .have l1:Heap.IsTuple (Qv ⟨Y,g,d,U,os⟩) a xs:=O;have l2:Heap.IsTuple (Qv ⟨Y.push { cls:=.type "tuple_iterator",data:=.fields #[.ref a,.int 0 0] },g,d,U,os⟩) b ys:=G _;wp_walk using Iw l1,Iw l2;exact⟨_,Z,h⟩
def lC {h:Bb}{it l:Af}(e:h.get? it=Aa (cE tp l)):xK tp h it l 0:=by
 cases tp
 .exact⟨_,e,Z,Z⟩
 .exact⟨_,e,Z,Z⟩
def KU (k:nP v o tq b yn)(y:o.isFreed=Yp)(hp:yn s.heap)
  (h:∀ h',Py h' (s.heap.objs.size+4) (s.heap.objs.size+2) (s.heap.objs.size+3) .none->Ki h' (s.heap.objs.size+2) (.ref s.heap.objs.size) (.ref (s.heap.objs.size+1)) ->
   Ki h' (s.heap.objs.size+3) .none .none->h'.get? s.heap.objs.size=Aa o->xK tq h' (s.heap.objs.size+1) b 0->h'.objs.size=s.heap.objs.size+5->(∀ c o,s.heap.get? c=Aa o->h'.get? c=Aa o)->Q (.ref (s.heap.objs.size+4)) { s with heap:=h' }) :
  Ap (As prog w) A (call (.type "zip") [v,.ref b]) Q E s:=by
 refine callType_new F.called_zip aC (F.typeCall_zip_2 _ _) (F.newCall_zip_2 _ _) (λO=>F.args_object_init_3 O _ _) F.entry_zip_new k ⟨hp,?_⟩;have U:(P_ o s.heap).objs.size=s.heap.objs.size+1:=Er ..;have L:(O_ o tq s.heap b).objs.size=s.heap.objs.size+2:=by rw[Er,U]
 have Y:(N_ o tq s.heap b).objs.size=s.heap.objs.size+3:=by rw[Er,L]
 have B:(NN o tq s.heap b).objs.size=s.heap.objs.size+4:=by rw[Er,Y]
 have q:(wt o tq s.heap b).objs.size=s.heap.objs.size+5:=by rw[Er,B]
 have G:(wt o tq s.heap b).get? (NN o tq s.heap b).objs.size=Aa _:=Be _ Z;have M:(wt o tq s.heap b).get? (N_ o tq s.heap b).objs.size=Aa _:=Ak _ (Be _ Z);have H:(wt o tq s.heap b).get? (O_ o tq s.heap b).objs.size=Aa _:=Ak _ (Ak _ (Be _ Z));have z:(wt o tq s.heap b).get? (P_ o s.heap).objs.size=Aa (cE tq b):=Ak _ (Ak _ (Ak _ (Be _ Z)));have p:(wt o tq s.heap b).get? s.heap.objs.size=Aa o:=Ak _ (Ak _ (Ak _ (Ak _ (Be _ y))));have j:∀ c u,s.heap.get? c=Aa u->(wt o tq s.heap b).get? c=Aa u:=λc u e=>Ak _ (Ak _ (Ak _ (Ak _ (Ak _ e))));show _/\_;rw[L,Y,B] at G;rw[U,L] at H;rw[Y] at M;rw[U] at z;rw[B];exact⟨⟨_,G,Z⟩,h _ G H M p (lC z) q j⟩
end
def Sq (tp:Ar)(K:Ag)(H:Hp)(a:Af)(xs:Ab V):Prop:=if tp then j_ K H a xs else kr K H a xs
section
variable {X:Cx}{aa:J0}{Y: _L.St}{H:Hp}{s:Ai}
def Sq.at (I:Inv X aa Y H s)(q:Sq tp X.K H a xs):∃ ah,qQ xs ah/\yN tp s.heap a ah.toArray:=by
 cases tp with
 |true =>
  obtain⟨ah,U,p,_⟩:=I.tuple q;exact⟨ah,U,p⟩
 |false =>
  obtain⟨ah,U,p,_⟩:=I.list q;exact⟨ah,U,p.isList⟩
def Sq.inj {ys:Ab V}(I:Inv X aa Y H s)(q:Sq tp X.K H a xs)(U:Sq tp X.K H a ys):xs=ys:=by
 cases tp with
 |true=>exact I.tuple_inj q U
 |false=>exact I.list_inj q U
def Sq.off (I:Inv X aa Y H s)(q:Sq tp X.K H a xs)(f:xJ X aa H b):a≠b:=by
 have U:H a≠Zt\/∃ o,X.K.lookup a=Aa o:=by
  cases tp with
  |true =>
   rcases q with (q|⟨o,q⟩)|⟨o,_,_,q,_⟩
   .exact .inl (by rw[q];intro z;cases z)
   .exact .inl (by rw[q];intro z;cases z)
   .exact .inr ⟨_,q⟩
  |false =>
   rcases q with (q|⟨o,q⟩)|⟨o,_,_,q,_⟩
   .exact .inl (by rw[q];intro z;cases z)
   .exact .inl (by rw[q];intro z;cases z)
   .exact .inr ⟨_,q⟩
 rintro rfl;rcases U with k|⟨o,k⟩
 .exact k f.1
 .have e:=I.mod.kin a o k;rcases f.2.2.2.1 with z|z
  .exact I.ok.noex a o e z
  .exact absurd (Bh (I.ok.bs a o e).1) (Lz.mpr z)
def Inv.turnLay {fp:J9}{T:Af}{ah:Y8}(I:Inv X aa Y H s)(G:∀ b∈fp,xJ X aa H b)(k:∀ b o,b ∉ fp->s.heap.get? b=Aa o->h'.get? b=Aa o)(p:∀ b∈fp,∃ o,h'.get? b=Aa o)
  (hT:s.heap.objs.size<=T) (M:qQ xs ah) (L:Tf h' T ah.toArray) (hz:xs.length<=sizeLine):Inv X aa Y (bx H T (.tup xs)) { s with heap:=h' }:=by
 have B:H T=none:=I.hok.fresh hT;have A:∀ b o,s.heap.get? b=Aa o->b≠T:=λb o e=>Cn (Bo (Bh e) hT);refine I.step (g':=s.gens) (d':=s.drawn) (t':=s.toks) (ch:=fp) (λb U=>⟨(G b U).2.2.2.1,(G b U).2.1,(G b U).2.2.2.2.1,(G b U).2.2.2.2.2⟩) (λb o _ _ hc e _=>k b o hc e) (λb o _ _ hc e _=>⟨o.slots,k b o hc e⟩)
  (λb o _ e n=>by rw[qN (A b o e)];exact n) (λb o hc e=>⟨o,k b o hc e⟩) (λb ys e=>by rw[qN (zE e B)];exact e) (λb o u e=>by rw[qN (zE e B)];exact e)
  (λb ps e=>⟨#[],by rw[qN (zE e B),e];simp⟩) (λm y=>?_) (λb u e=>?_) I.bare
 .obtain⟨o,E,j,w,r⟩:=y;exact⟨o,E,j,k _ o (λz=>(G _ z).2.1 rfl) w,r⟩
 .by_cases U:b=T
  .subst U;rw[qT] at e;cases e;exact⟨hz,ah,M,L⟩
  .rw[qN U] at e;refine(I.hok b u e).stay (λc v hc q=>k c v (λz=>?_) q) (λc q=>by rw[qN (zE q B)];exact q) λc ys q=>by rw[qN (zE q B)];exact q
   have O:=(G c z).1;rcases hc with rfl|hc
   .rw[O] at e;cases e
   .rw[O] at hc;cases hc
def Inv.turnL {fp:J9}(I:Inv X aa Y H s)(U:∀ b∈fp,xJ X aa H b)(k:∀ b o,b ∉ fp->s.heap.get? b=Aa o->h'.get? b=Aa o):Inv X aa Y H { s with heap:=h' }:=by
 refine I.step (g':=s.gens) (d':=s.drawn) (t':=s.toks) (ch:=fp) (λb O=>⟨(U b O).2.2.2.1,(U b O).2.1,(U b O).2.2.2.2.1,(U b O).2.2.2.2.2⟩) (λb o _ _ hc e _=>k b o hc e) (λb o _ _ hc e _=>⟨o.slots,k b o hc e⟩)
  (λb o _ e n=>n) (λb o hc e=>⟨o,k b o hc e⟩) (λb ys e=>e) (λb o u e=>e) (λb ps e=>⟨#[],by rw[e];simp⟩) (λm A=>?_) (λb u e=>?_) I.bare
 .obtain⟨o,L,E,B,r⟩:=A;exact⟨o,L,E,k _ o (λz=>(U _ z).2.1 rfl) B,r⟩
 .refine(I.hok b u e).stay (λc v hc q=>k c v (λz=>?_) q) (λc q=>q) λc ys q=>q;have G:=(U c z).1;rcases hc with rfl|hc
  .rw[G] at e;cases e
  .rw[G] at hc;cases hc
end
structure wn (P:Ba)(w:Bu)(K:Ag)(i z:Af)(At:Bb->Aj->Prop)(G:(Aj->Al V)->Hp->Prop):Prop where
 kp:_z i At
 there:∀ {h k},At h k->∃ o,h.get? i=Aa o/\∀ v,o.data≠.cell v
 inj:∀ {X:Cx} {pins:J0} {Y : _L.St} {s:Ai} {H:Hp} {f g},X.K=K->Inv X pins Y H s->G f H->G g H->f=g
 arm:∀ {X:Cx} {pins:J0} {Y : _L.St} {s:Ai} {H:Hp} {f},X.prog=P->X.w=w->X.K=K->Inv X pins Y H s->xJ X pins H z->G f H ->
  ∃ d val ip,M_ P w i d val At ip/\(∀ h',Ex z s.heap h'->ip h')/\(∀ k x,f k=Aa x->∃ u,val k=Aa u/\∀ t,qR x (u t))/\∀ k,f k=Zt->val k=Zt
def qBS (tp:Ar)(K:Ag)(a:Af)(f:Aj->Al V)(H:Hp):Prop:=∃ xs:Ab V,Sq tp K H a xs/\f=λk=>xs[k]?
def KM {P:Ba}{K:Ag}(tp:Ar)(i z a:Af):wn P w K i z (λh k=>xK tp h i a k) (qBS tp K a) where
 kp:=λ_ _ _ x q=>x.keep q
 there:=λx=>x.there
 inj:=λG I ⟨xs,q,e⟩ ⟨ys,E,y⟩=>by subst G;rw[e,y,q.inj I E]
 arm:=λ{X p Y s H f} B A G I L ⟨xs,q,e⟩=>by
  subst B A G e;obtain⟨ah,O,sq⟩:=q.at I;refine⟨0,_,_,RP tp i a ah.toArray,λh' k=>sq.keep λo e=>k.extBut _ _ (q.off I L) e,λk x U=>?_,λk U=>?_⟩
  .obtain⟨u,j,M⟩:=O.get U;exact⟨λ_=>u,by simp[j],λ_=>M⟩
  .have U:=List.getElem?_eq_none_iff.mp U;have:=O.length;simp only[Kr];rw[List.getElem?_toArray,Iy];lia
def _B (tq:Ar)(K:Ag)(G:(Aj->Al V)->Hp->Prop)(b:Af):It:=
  ⟨λi H=>∃ f ys x y,G f H/\Sq tq K H b ys/\f i=Aa x/\ys[i]? = Aa y,
   λi H v Y=>∃ T x y,v=.ref T/\H T=Zt/\Y=bx H T (.tup [x,y])/\(∀ f,G f H->f i=Aa x)/\∀ ys,Sq tq K H b ys->ys[i]? = Aa y,
   λi H=>∃ f ys,G f H/\Sq tq K H b ys/\(f i=Zt\/ys.length<=i)⟩
def W0 (At:Bb->Aj->Prop)(tq:Ar)(z I O i j b:Af)(k:Aj)(h:Bb):Prop:=∃ p q,Py h z I O .none/\Ki h I (.ref i) (.ref j)/\Ki h O p q/\At h k/\xK tq h j b k
def mC {At:Bb->Aj->Prop}{h:Bb}(H:∀ {h k},At h k->∃ o,h.get? i=Aa o/\∀ v,o.data≠.cell v)(st:W0 At tq z I O i j b k h):∀ c∈[z,I,O,i,j],∃ o,h.get? c=Aa o/\∀ v,o.data≠.cell v:=λc Y=>by
 obtain⟨p,q,U,E,B,L,G⟩:=st;simp only[Ay,Cz,Fw] at Y;rcases Y with rfl|rfl|rfl|rfl|rfl
 .exact⟨_,U,λv y=>by cases y⟩
 .exact⟨_,E,λv y=>by cases y⟩
 .exact⟨_,B,λv y=>by cases y⟩
 .exact H L
 .exact G.there
def M6 {c z O i j:Af}(h:c ∉ [z,I,O,i,j]):c≠z/\c≠O/\c≠i/\c≠j:=by simp only[Ay,Cz,Fw,not_or] at h;exact⟨h.1,h.2.2.1,h.2.2.2.1,h.2.2.2.2⟩
def FE {P:Ba}{K:Ag}{At:Bb->Aj->Prop}{G:(Aj->Al V)->Hp->Prop}(M:wn P w K i z At G)(D:ZA z I O i j):n_ P w K (.Tuple nw x1 nu) (_B tq K G b) [z,I,O,i,j] z (W0 At tq z I O i j b) where
 mem:=.head _
 obj:=λk h st=>mC M.there st
 keep:=λk h h' st v=>by obtain⟨p,q,A,t,s3,s4,s5⟩:=st;exact⟨p,q,v z (.head _) _ A,v I (.tail _ (.head _)) _ t,v O (.tail _ (.tail _ (.head _))) _ s3,M.kp _ _ _ s4 λo e=>v i (.tail _ (.tail _ (.tail _ (.head _)))) o e,s5.keep λo e=>v j (.tail _ (.tail _ (.tail _ (.tail _ (.head _))))) o e⟩
 item:=by
  intro X hP hw hK U k aa s Y H E B L st hg;subst hP hw hK;obtain⟨p,q,A,t,s3,s4,s5⟩:=st;obtain⟨f,ys,x,y,qa,qb,hx,hy⟩:=hg;obtain⟨d,dk,ip,ar,ha,v1,v2⟩:=M.arm rfl rfl rfl B (L z (.head _)) qa;obtain⟨ib,rb,hb⟩:=qb.at B;obtain⟨u,hu,ru⟩:=v1 k x hx;obtain⟨u',z1,zo⟩:=rb.get hy;have r:∀ {c:Af} {a:Ab V},Sq tq X.K H c a->Off z O i j c:=λ{c a} l=>⟨l.off B (L z (.head _)),l.off B (L O (.tail _ (.tail _ (.head _)))),l.off B (L i (.tail _ (.tail _ (.tail _ (.head _))))),l.off B (L j (.tail _ (.tail _ (.tail _ (.tail _ (.head _))))))⟩;have hT:s.TypeIs (.ref z) "zip":=⟨_,A,rfl⟩;unfold Pd;refine Ad (Kn (Dt (name:=Fd "__next__") hT Ox (Dx Ox hT Zj
   (FK ar M.kp D (r qb) A t s3 s4 s5 ha hb hu (by simpa using z1) λh' a1 a2 a3 a4 a5 a6 a7=>An ?_) (Xz _))))
  refine⟨_,Z,wpAny_letOwnedTupleGo_zip (s:={ s with heap:=h',toks:=s.toks+d }) a1 λh2 b1 b2=>?_⟩;have up:∀ c o,c≠z->h'.get? c=Aa o->h2.get? c=Aa o:=λc o n e=>(b2.2 c n).trans e;have zl:z<s.heap.objs.size:=Bh A;have T2:Ki h2 s.heap.objs.size (u s.toks) u':=up _ _ (Hj zl) a5;have zc:W0 At tq z I O i j b (k+1) h2:=⟨_,u',b1,up _ _ D.Iz (a7 I _ D.Iz D.IO D.Ii D.Ij t),up _ _ D.Oz a2,M.kp _ _ _ a3 λo e=>up _ o D.iz e,a4.keep λo e=>up _ o D.jz e⟩;refine⟨.ref s.heap.objs.size,bx H s.heap.objs.size (.tup [x,y]),?_,Z,⟨_,x,y,Z,B.hok.fresh (Ax _),Z,λg qz=>by rw[M.inj Z B qz qa];exact hx,λa qz=>by rw[qz.inj B qb];exact hy⟩,zc,λc U=>?_⟩
  .show _L.Inv X aa Y (bx H s.heap.objs.size (.tup [x,y])) { s with heap:=h2,toks:=s.toks+d };refine(Inv.turnLay (fp:=[z,I,O,i,j]) (ah:=[u s.toks,u']) (h':=h2) B L (λc o U e=>?_) (λc U=>?_) (Ax _) (.cons (ru _) (.cons zo .nil)) ⟨_,T2,Z,_,Z⟩ (by show 2<=sizeLine;decide)).tok (s.toks+d)
   .have U:=M6 U;exact up c o U.1 (a7 c o U.1 U.2.1 U.2.2.1 U.2.2.2 e)
   .obtain⟨o,e,_⟩:=mC M.there zc c U;exact⟨o,e⟩
  .have hn:=(L c U).1;rw[qN ?_]
   .exact hn
   .rintro rfl;obtain⟨o,e,_⟩:=mC M.there ⟨p,q,A,t,s3,s4,s5⟩ _ U;exact absurd (Bh e) (Fh _)
 done:=by
  intro X hP hw hK U k aa s Y H E B L st hg;subst hP hw hK;obtain⟨p,q,A,t,s3,s4,s5⟩:=st;obtain⟨f,ys,qa,qb,zn⟩:=hg;obtain⟨d,dk,ip,ar,ha,v1,v2⟩:=M.arm rfl rfl rfl B (L z (.head _)) qa;obtain⟨ib,rb,hb⟩:=qb.at B;have r:∀ {c:Af} {a:Ab V},Sq tq X.K H c a->Off z O i j c:=λ{c a} l=>⟨l.off B (L z (.head _)),l.off B (L O (.tail _ (.tail _ (.head _)))),l.off B (L i (.tail _ (.tail _ (.tail _ (.head _))))),l.off B (L j (.tail _ (.tail _ (.tail _ (.tail _ (.head _))))))⟩;have hT:s.TypeIs (.ref z) "zip":=⟨_,A,rfl⟩;have l2:=rb.length;unfold Pd;refine Ad (Kn (Dt (name:=Fd "__next__") hT Ox (Dx Ox hT Zj
   (FO (B.ok.hd U) ar M.kp D (r qb) A t s3 s4 s5 ha hb ?_ λh' e tk v he=>?_) (Xz _))))
  .rcases zn with y|y
   .exact .inl (v2 k y)
   .exact .inr (by simp;lia)
  .obtain⟨o,ho,z2⟩:=he;refine Ad (Sy (T:="StopIteration") (b:=Vq) ⟨o,ho,z2⟩ isSubtype_stop (An ⟨Z,(Inv.turnL (fp:=[z,I,O,i,j]) (h':=h') B L λc o U e=>?_).tok tk⟩));have U:=M6 U;exact v c o U.1 U.2.1 U.2.2.1 U.2.2.2 e
 self:=λ_ _ _ _ _ st h=>by obtain⟨p,q,A,_⟩:=st;exact Zk A h
noncomputable def yB (xs ys:Ab D):Ab D:=List.zipWith (λx y=>D.tup [x,y]) xs ys
def OT (ds:Ab D):Al (Ab D):=match ds with
 |[.tup xs,.tup ys]=>Aa (yB xs ys)
 |[.lst xs,.lst ys]=>Aa (yB xs ys)
 |_=>Zt
def dN (f:DA):DI:=λY S=>(f Y S).bind λds U=>vJ (OT ds) U
def FJ {xs:Ab D}{i:Aj}:(yB xs ys)[i]? = match xs[i]?,ys[i]? with|some x,Aa y=>Aa (D.tup [x,y])|_,_=>none:=by unfold yB;rw[List.getElem?_zipWith];cases xs[i]? <;> cases ys[i]? <;> rfl
def nK (xs ys:Ab D):(yB xs ys).length=min xs.length ys.length:=by simp[yB]
section
variable {K:Ag}
def Sq.mono {P Y:Hp}(e:qP P Y){a:Af}{xs:Ab V}(q:Sq tp K P a xs):Sq tp K Y a xs:=by
 cases tp with
 |true=>exact vL e q
 |false=>exact e.seq q
def za {P:Hp}{F:(Aj->Al V)->Hp->Prop}{f:Aj->Al V}{xs:Ab D}(B:∀ H,qP P H->F f H)(k:∀ i (h:i<xs.length),∃ v,f i=Aa v/\am K P J xs[i] v)(nf:∀ i,xs.length<=i->f i=Zt)(L:Sq tq K P b ws)(O:qJ K P J ys ws):wj K (_B tq K F b) P J (yB xs ys) where
 go:=λi H j q S Y r e _=>by
  rw[nK] at Y;have G:i<ws.length:=by rw[<- O.length];lia
  obtain⟨v,hv,_⟩:=k i li;exact⟨f,ws,v,ws[i],B _ (e.trans r.sub),L.mono (e.trans r.sub),hv,by simp⟩
 yld:=λi H x H' j q S Y r e M y=>by
  obtain⟨T,u,w,rfl,p,rfl,c,l⟩:=y;rw[nK] at Y;have E:i<xs.length:=by lia
  have G:i<ys.length:=by lia
  obtain⟨a,t,d⟩:=k i E;obtain⟨v2,g,n⟩:=O.get (Bd G);have A:=c f (B _ (e.trans r.sub));have z:=l ws (L.mono (e.trans r.sub));rw[t] at A;cases A;rw[g] at z;cases z;obtain⟨s,U⟩:=r.pure (o:=.tup [u,w]) p;refine⟨_,.tup [xs[i],ys[i]],?_,s,U,?_⟩
  .rw[FJ,Bd E,Bd G]
  .exact X4 (.of qT) (.cons (am.mono (e.trans U) M _ _ d) (.cons (am.mono (e.trans U) M _ _ n) .nil))
 stop:=λi H j q S Y r e _=>by
  rw[nK] at Y;have l2:=O.length;refine⟨f,ws,B _ (e.trans r.sub),L.mono (e.trans r.sub),?_⟩;by_cases h:xs.length<=i
  .exact .inl (nf i h)
  .exact .inr li
end
section
variable {X:Cx}{e1 e2:Bl}{nw:Ab Bl}{x1:Aj}{nu:Eb}{f:DA}{p ai:Eb}
def KC {H P:Hp}{At:Bb->Aj->Prop}{F:(Aj->Al V)->Hp->Prop}(I:Inv X aa Y H s)(r:bf X.K H P J S)(M:nP v o tq b yn)(L:o.isFreed=Yp)(hp:yn s.heap)
  (y:wn X.prog X.w X.K s.heap.objs.size (s.heap.objs.size+4) At F) (U:∀ h':Bb,h'.get? s.heap.objs.size=Aa o->At h' 0) (it:wj X.K (_B tq X.K F b) P J ah) (q:yd X P J R ah S):a8 X (call (.type "zip") [v,.ref b]) (λv E=>a8 X (Pe v) (yc X aa Y (.Tuple nw x1 nu) R) X.xe E) X.xe s:=by
 refine KU M L hp λh' G j w k u l A=>?_;refine Zk (s:={ s with heap:=h' }) G ?_;have D:ZA (s.heap.objs.size+4) (s.heap.objs.size+2) (s.heap.objs.size+3) s.heap.objs.size (s.heap.objs.size+1):=by constructor <;> (intro z;simp at z)
 refine⟨_,[s.heap.objs.size+4,s.heap.objs.size+2,s.heap.objs.size+3,s.heap.objs.size,s.heap.objs.size+1],_,_,H,Z,I.kept (t':=s.toks) A,FE y D,⟨_,_,G,j,w,U _ k,u⟩,λc O=>?_,q _ _ P J r (qP.refl _) (Bt _) it⟩;have B:s.heap.objs.size<=c:=by simp only[Ay,Cz,Fw] at O;rcases O with rfl|rfl|rfl|rfl|rfl <;> simp
 exact I.fpOk B (I.hok.fresh B)
def XR {H P:Hp}{xs:Ab D}(I:Inv X aa Y H s)(r:bf X.K H P J S)(O:Sq tp X.K P a vs)(G:Sq tp X.K P b ws)(U:qJ X.K P J xs vs)(E:qJ X.K P J ys ws)
  (q:yd X P J R (yB xs ys) S):a8 X (call (.type "zip") [.ref a,.ref b]) (λv B=>a8 X (Pe v) (yc X aa Y (.Tuple nw x1 nu) R) X.xe B) X.xe s:=by
 obtain⟨z,j,L⟩:=(O.mono r.sub).at I;obtain⟨w,M,A⟩:=(G.mono r.sub).at I;exact KC I r (RC tp a b _ _) rfl ⟨L,A⟩ (KM tp _ _ a) (λ_ e=>lC e) (za (λH e=>⟨vs,O.mono e,rfl⟩) (λi h=>U.get (Bd h)) (λi h=>Iy (by rw[<- U.length];exact h)) G E) q
inductive _p (ds:Ab D)(its:Ab D):Prop
 |tup (xs ys:Ab D) (ed:ds=[.tup xs,.tup ys]) (e:its=yB xs ys)
 |lst (xs ys:Ab D) (ed:ds=[.lst xs,.lst ys]) (e:its=yB xs ys)
def RB (h:OT ds=Aa ah):_p ds ah:=by
 cases ds with
 |nil=>exact nn h
 |cons a ds =>
  cases a with
  |tup xs =>
   cases ds with
   |nil=>exact nn h
   |cons b ds =>
    cases b with
    |tup ys =>
     cases ds with
     |nil=>exact .tup xs ys rfl (Cw h).symm
     |cons _ _=>exact nn h
    |_=>exact nn h
  |lst xs =>
   cases ds with
   |nil=>exact nn h
   |cons b ds =>
    cases b with
    |lst ys =>
     cases ds with
     |nil=>exact .lst xs ys rfl (Cw h).symm
     |cons _ _=>exact nn h
    |_=>exact nn h
  |_=>exact nn h
def HB (i:Gl X "zip")(hm:X.mg "zip" = Zt)(n:PA X [e1,e2] (kh X f))(hs:Bc [e1,e2] X.env=(Yp,eval e1 X.env)::Bc [e2] X.env:=by rfl)(O:(Eu ai (Bc [e2] X.env)).any (·.1)=false:=by rfl) :
  PI X (.Tuple nw x1 nu) (.Call (.Name "zip" p) [e1,e2] [] ai) (u_ X (dN f)):=by
 intro aa s Y H R I h;obtain⟨P,J,ac,S,r,re,c⟩:=h;refine Call_ (uW I i hm boot_zip (Gq (bi (wN n I r re c ai) λus s1 ⟨vs,H1,P1,J1,ds,S1,l,k,g,t,o,e1,e2,z⟩=>?_) hs O));obtain⟨ah,d,q⟩:=vN z;cases RB d with
 |tup xs ys E e =>
  subst E e;obtain⟨v,w,u,x,rfl,rfl,G,U,B,j⟩:=kX o k;simp only[am] at G U;obtain⟨a,va,rfl,M,y⟩:=G;obtain⟨b,vb,rfl,A,L⟩:=U;cases (show u=Ca a from B);cases (show x=Ca b from j);exact XR (tp:=Vq) l g M A y L (q.base e1 e2)
 |lst xs ys E e =>
  subst E e;obtain⟨v,w,u,x,rfl,rfl,G,U,B,j⟩:=kX o k;simp only[am] at G U;obtain⟨a,va,rfl,M,y⟩:=G;obtain⟨b,vb,rfl,A,L⟩:=U;cases (show u=Ca a from B);cases (show x=Ca b from j);exact XR (tp:=Yp) l g M.l A.l y L (q.base e1 e2)
end
def we (K:Ag)(mg:J8)(x:Ah)(st:Du)(ps:Y0):Prop:=∃ f fd,mg x=Aa (.ref f)/\uj K x x st f fd/\yC K fd ps []
def Lk (K:Ag)(f:Af)(fd:Ft):Prop:=∃ G U Y,K.lookup f=Aa ⟨G,U,.func fd,Y⟩
def kQ {K:Ag}{st:Du}(F:uj K x q st f fd):Lk K f fd:=by obtain⟨B,U,kV,G,L,H,O,E,Y,_,lk,_⟩:=F.ex;exact⟨B,U,Y,lk⟩
def Lk.one {K:Ag}(h:Lk K f fd)(h':Lk K f Y):fd=Y:=by obtain⟨H,E,L,e⟩:=h;obtain⟨O,B,U,G⟩:=h';rw[e] at G;cases G;rfl
def uz (P:Ba)(w:Bu)(K:Ag)(mg:J8)(base:Bb)(cm:Ar)(k:Aj)(x:Ah)(n:Aj)(F:DF):Prop:=
 ∃ f fd ps,ps.length=n/\mg x=Aa (.ref f)/\Da K (.ref f)=Vq/\yC K fd ps [] /\ Lk K f fd/\rh P w K mg base cm k f fd ps (wu K n F)
def cO (P:Ba)(w:Bu)(K:Ag)(mg:J8)(base:Bb)(cm:Ar)(k:Aj)(x:Ah)(ps:Y0)(F:DF):Prop:=
 ∃ f fd,mg x=Aa (.ref f)/\Da K (.ref f)=Vq/\yC K fd ps [] /\ Lk K f fd/\rh P w K mg base cm k f fd ps (wu K ps.length F)
section
variable {P:Ba}{w:Bu}{K:Ag}{mg:J8}{base:Bb}{cm:Ar}
def FS {Y:Ac}(hm:mg x=Aa (.ref f))(lk:Lk K f fd)(h:fd.code=Y/\Mod K mg base):f7 K x Y:=λc T e=>by obtain⟨O,G,U,lk⟩:=lk;rw[<- h.1];exact PySem.W.law_code h.2.kin h.2.glob e hm (h.2.kin _ _ lk) rfl
def EY {st:Du}{k:Aj}{g:DS}(h:we K mg x st ps)(S:cz N ps (qF st))
  (U:∀ (f:Af) (Y:Ac) (A:Bn) (G:Ab Hg) (s:Ai) (H:Hp) (E:XK),f7 K x Y->RoomC cm k (A.deeper (Fu x (qF st) s.heap.objs.size f Y)) ->
   kg (jt cm P w K mg base N x (qF st) f Y A G s H E) (zG st) (jb (jt cm P w K mg base N x (qF st) f Y A G s H E) g)):uz P w K mg base cm (k+1) x ps.length (qL N.length g):=by
 obtain⟨f,fd,O,F,L⟩:=h;exact⟨f,fd,ps,rfl,O,F.kp,L,kQ F,fnX F S λY A G s H E M B=>U f Y A G s H E (FS O (kQ F) M) B⟩
def TZ {st:Du}{k:Aj}{g:DS}(h:we K mg x st ps)(S:cz N ps (qF st))
  (U:∀ (f:Af) (Y:Ac) (A:Bn) (G:Ab Hg) (s:Ai) (H:Hp) (E:XK),f7 K x Y->RoomC cm k (A.deeper (Fu x (qF st) s.heap.objs.size f Y)) ->
   kg (jt cm P w K mg base N x (qF st) f Y A G s H E) (zG st) (jb (jt cm P w K mg base N x (qF st) f Y A G s H E) g)):cO P w K mg base cm (k+1) x ps (qL N.length g):=by
 obtain⟨f,fd,O,F,L⟩:=h;exact⟨f,fd,O,F.kp,L,kQ F,fnX F S λY A G s H E M B=>U f Y A G s H E (FS O (kQ F) M) B⟩
def uz.mono {j k n:Aj}{F:DF}(h:uz P w K mg base cm j x n F)(y:j<=k:=by decide):uz P w K mg base cm k x n F:=by obtain⟨f,fd,ps,u,q,U,B,L,X⟩:=h;exact⟨f,fd,ps,u,q,U,B,L,X.len,λA M s H Y O z Q E G=>X.run A M s H Y O z Q E (G.mono y)⟩
end
section
variable {X:Cx}{cm:Ar}{k n:Aj}{F:DF}{x:Ah}{p ai:Eb}{e:Bl}{es:Ab Bl}{fa:DA}
def dcN (G:uz X.prog X.w X.K X.mg X.base cm k x n F)(B:RoomC cm k X.A)(H:Fn1 X)(E:Gl X x)(A:PA X (e::es) (kh X fa))(Y:(x == ("__debug__" : Ah))=false:=by decide)(L:Bc (e::es) X.env=(Yp,eval e X.env)::Bc es X.env:=by rfl)(U:(Eu ai (Bc es X.env)).any (·.1)=false:=by rfl) :
  PE X (.Call (.Name x p) (e::es) [] ai) (tD X (qI n F fa)):=by
 obtain⟨f,fd,ps,z,M,O,w,j,G⟩:=G;exact TM G B H E M O w A Y L U
def EE (Y:Gl X x)(hm:X.mg x=Aa (.ref C))(U:Da X.K (.ref C)=Vq)(G:(x == ("__debug__" : Ah))=false:=by decide):PE X (.Name x ai) (tD X (dC (.obj C))):=
 mJ Y hm (v:=.ref C) Z (λP J => by simp only[am];exact⟨trivial,U⟩) G
end
def zW:DF:=λds S=>match ds with
 |[.dct0]=>.bad
 |_=>aW ds S
def T7 {X:Cx}:wI X (.builtin "len") zW:=RY trivial
def FR:∃ C:Aq->Aq->Ar,C=cV:=⟨_,Z⟩
def FQ:Aq->Aq->Ar:=Oe FR
def cW:FQ=cV:=Of FR
def yQ:G2:=i2 FQ λi j=>.int (i*j)
def ZU {X:Cx}:gz X (Ec .Mult) yQ:=by unfold yQ;rw[cW];exact D5
def Y9 (Y:RoomC cm k A):A.units+1<Fk:=by have:=Y.units;lia
structure QE (X:Cx)(e:Bl)(f:DE):Prop where
 get:PE X e (tD X f)
structure QT (X:Cx)(e:Bl)(t:DT):Prop where
 get:PT X e (oi X t)
structure QW (X:Cx)(e:Bl)(t:DT):Prop where
 get:ur X e t
structure QA (X:Cx)(es:Ab Bl)(f:DA):Prop where
 get:PA X es (kh X f)
structure QO (X:Cx)(e:Al Bl)(f:DO):Prop where
 get:PO X e (xl X f)
structure QG (X:Cx)(t:Bl)(g:DG):Prop where
 get:PG X t (rq X g)
structure Z6 (X:Cx)(ts:Ab Bl)(g:uk):Prop where
 get:wf X ts (oM X g)
structure QI (X:Cx)(tg it:Bl)(f:DI):Prop where
 get:PI X tg it (u_ X f)
structure QS (X:Cx)(s:Du)(f:DS):Prop where
 get:PS X s (jb X f)
structure QB (X:Cx)(ss:Ab Du)(f:DS):Prop where
 get:kg X ss (jb X f)
structure QJ (X:Cx)(es:Ab Bl)(fs:Ab DE):Prop where
 get:PJ X es fs
structure ZOp (X:Cx)(f:Ac->Ac->Kk Ac)(g:G2):Prop where
 get:gz X f g
structure _W (X:Cx)(f:Ac->Kk Ac)(g:D->ag->ax D):Prop where
 get:_v X f g
structure _q (X:Cx)(g:G2):Prop where
 get:Z_ X g
structure gn (X:Cx)(f:Ac)(F:DF):Prop where
 get:wI X f F
structure uf (X:Cx)(id:Em)(g:D->Ab D->ag->ax D):Prop where
 get:t_ X id g
structure zj (X:Cx)(g:G3):Prop where
 get:cP X (cK X g)
structure ZPass (X:Cx):Prop where
 get:Us (As X.prog X.w) X.A X.env X.xe
section
variable {X:Cx}{a b c e e1 e2 o i:Bl}{es aq:Ab Bl}{fa fb fc fe fo fi:DE}{ta tb:DT}{fA:DA}{f g:DS}{st:Du}{_O:Ab Du}{x:Ah}{p ai:Eb}{n k:Aj}{cm:Ar}{F:DF}{su:G2}
def qC2:QE X (.Constant .none j ai) (dC .non):=⟨EN⟩
def qDl:QE X (.Constant (.bool v) j ai) (dC (.bl v)):=⟨OY⟩
def qC0:QE X (.Constant (.int v) j ai) (dC (.int v)):=⟨EL⟩
def qC5:QE X (.Constant (.str v) j ai) (dC (.str v)):=⟨ET⟩
def IW (m:Aj)(U:X.N[m]? = Aa x)(hv:qg X.env.scope x)(G:(x == ("__debug__" : Ah))=Yp)(Y:(x == ("__classdict__" : Ah))=Yp):QE X (.Name x ai) (qB m):=⟨dv m U hv G Y⟩
def SB (G:Gl X x)(hm:X.mg x=Zt)(hv:Gc x=Aa (.type nm))(Y:x ≠ "__name__")(U:(x == ("__debug__" : Ah))=Yp):QE X (.Name x ai) (dC (.ty nm)):=⟨TL G hm hv Y U⟩
def IV (U:Gl X x)(hm:X.mg x=Aa (.ref C))(G:Da X.K (.ref C)=Vq)(Y:(x == ("__debug__" : Ah))=Yp):QE X (.Name x ai) (dC (.obj C)):=⟨EE U hm G Y⟩
def SD (U:Gl X x)(hm:∃ t,X.mg x=Aa (.int v t))(Y:(x == ("__debug__" : Ah))=Yp):QE X (.Name x ai) (dC (.int v)):=⟨let ⟨_,h⟩:=hm;mJ (v:=.int v) U h ⟨_,Z⟩ (λ_ _=>by simp only[am]) Y⟩
def qDq {h:D->ag->ax D}(U:_W X (Yw op) h)(Y:QE X a fa):QE X (.UnaryOp op a ai) (d1 h fa):=⟨qAD U.1 Y.1⟩
def qC3 (Y:QE X a fa):QE X (.UnaryOp .Not a ai) (WB fa):=⟨EO Y.1⟩
def qDp (U:ZOp X (Ec op) su)(G:QE X a fa)(Y:QE X b fb):QE X (.BinOp a op b ai) (d2 su fa fb):=⟨qAC U.1 G.1 Y.1⟩
def qCw (Y:ZOp X (Cs op) su)(U:QE X a fa)(G:QE X b fb)(hm:Lu op b=false:=by first|exact lI _|with_unfolding_all rfl):QE X (.Compare a [op] [b] ai) (d2 su fa fb):=⟨EF Y.1 U.1 G.1 hm⟩
def qBz (G:ZOp X (Cs op) su)(U:ZOp X (Cs Y) g')(O:QE X a fa)(B:QE X b fb)(L:QE X c fc)(hm:Xx [op,Y] [b,c]=false:=by with_unfolding_all rfl):QE X (.Compare a [op,Y] [b,c] ai) (wM su g' fa fb fc):=⟨GA G.1 U.1 O.1 B.1 L.1 hm⟩
def qC4  (h:QE X a fa):QE X (.BoolOp op [a] ai) fa:=⟨ER h.1⟩
def qCu (U:QE X a fa)(Y:QE X (.BoolOp .And (b::aq) ai) fb):QE X (.BoolOp .And (a::b::aq) ai) (jS fa fb):=⟨EC U.1 Y.1⟩
def qDn (U:QT X c ta)(G:QE X a fa)(Y:QE X b fb):QE X (.IfExp c a b ai) (ny ta fa fb):=⟨qAA U.1 G.1 Y.1⟩
def qC6  (h:QA X es fA):QE X (.Tuple es x1 ai) (zO fA):=⟨EW h.1⟩
def qC1 (h:QA X es fA):QE X (.List es ai) (zJ fA):=⟨EM h.1⟩
def qCV (h:QA X es fA):QE X (.List es ai) (mI fA):=⟨TR h.1⟩
def qDo (U:_q X su)(G:QE X a fa)(Y:QE X b fb)(hs:gJ b:=by intro _ _;rfl):QE X (.Subscript a b ai) (d2 su fa fb):=⟨qAB U.1 G.1 Y.1 hs⟩
def qB1 {lo Y:Al Bl}(B:QE X e fe)(E:QO X lo U)(O:QO X Y G):QE X (.Subscript e (.Slice lo Y Zt L) ai) (nq fe U G):=⟨GE B.1 E.1 O.1⟩
def qCZ:QO X Zt zL:=⟨N4⟩
def qCa (Y:QE X e fe):QO X (Aa e) (zF fe):=⟨N5 Y.1⟩
def qCz (Y:QE X e fe):QE X (.FormattedValue e (-1) Zt ai) (d1 pS fe):=⟨EJ Y.1⟩
def qDD:QJ X [] []:=⟨II⟩
def qCY {fs:Ab DE}(U:QE X e fe)(Y:QJ X es fs):QJ X (e::es) (fe::fs):=⟨DQ U.1 Y.1⟩
def qCU {fs:Ab DE}(h:QJ X (e1::e2::aq) fs):QE X (.JoinedStr (e1::e2::aq) ai) (c9 fs):=⟨TQ h.1⟩
def qCq:QA X [] qC:=⟨E9⟩
def qCS (U:QE X e fa)(Y:QA X es fA)(hs:Bc (e::es) X.env=(Yp,eval e X.env)::Bc es X.env:=by rfl):QA X (e::es) (qA fa fA):=⟨TK U.1 Y.1 hs⟩
def qcN (G:uz X.prog X.w X.K X.mg X.base cm k x n F)(O:RoomC cm k X.A)(E:Fn1 X)(L:Gl X x)(H:QA X (e::es) fA)(Y:(x == ("__debug__" : Ah))=Yp)(B:Bc (e::es) X.env=(Yp,eval e X.env)::Bc es X.env:=by rfl)(U:(Eu ai (Bc es X.env)).any (·.1)=false:=by rfl):QE X (.Call (.Name x p) (e::es) [] ai) (qI n F fA):=⟨dcN G O E L H.1 Y B U⟩
def BG (E:gn X (.builtin id) F)(O:Gl X x)(hm:X.mg x=Zt)(hv:Gc x=Aa (.builtin id))(L:QA X (e::es) fA)(B:x ≠ "__name__")(Y:(x == ("__debug__" : Ah))=Yp)(G:Bc (e::es) X.env=(Yp,eval e X.env)::Bc es X.env:=by rfl)(U:(Eu ai (Bc es X.env)).any (·.1)=false:=by rfl):QE X (.Call (.Name x p) (e::es) [] ai) (qH F fA):=⟨G9 E.1 O hm hv L.1 B Y G U⟩
def JH (E:gn X (.type T) F)(O:Gl X x)(hm:X.mg x=Zt)(hv:Gc x=Aa (.type T))(L:QA X (e::es) fA)(B:x ≠ "__name__")(Y:(x == ("__debug__" : Ah))=Yp)(G:Bc (e::es) X.env=(Yp,eval e X.env)::Bc es X.env:=by rfl)(U:(Eu ai (Bc es X.env)).any (·.1)=false:=by rfl):QE X (.Call (.Name x p) (e::es) [] ai) (qH F fA):=⟨VD E.1 O hm hv L.1 B Y G U⟩
theorem qDm {L:Eb}{h:D->Ab D->ag->ax D}(H:Wf T)(slot:Slot T name id)(B:typeOf (.builtin id)=pure (.type "method_descriptor"))(hT:T = "list" \/ T = "dict" \/ T = "int" \/ T = "str")(hm:uf X id h)(E:QE X o fo)(A:QA X (e::es) fA)
  (U:Fz o name X.env (eval o X.env)=eval o X.env:=by rfl)
  (O:((Eu ai (Bc (e::es) X.env)).all (λx=>!x.1)&&(Uc ai (Od [] X.env)).all (λx=>x.1.isSome)&&decide ((e::es).length+([]:Ab Keyword).length+(if ([] : Ab Keyword).isEmpty then 0 else 1)<30))=true:=by rfl)
  (G:(L.endLine == ai.line)=true:=by rfl) (hs:Bc (e::es) X.env=(Yp,eval e X.env)::Bc es X.env:=by rfl) (Y:(Eu ai (Bc es X.env)).any (·.1)=false:=by rfl):QE X (.Call (.Attribute o name L) (e::es) [] ai) (kj T h fo fA):=⟨OZ H slot B hT hm.1 E.1 A.1 U O G hs Y⟩
theorem qCv {O:Eb}{h:D->Ab D->ag->ax D}(L:Wf T)(slot:Slot T name id)(G:typeOf (.builtin id)=pure (.type "method_descriptor"))(hT:T = "list" \/ T = "dict" \/ T = "int" \/ T = "str")(hm:uf X id h)(B:QE X o fo)
  (Y:Fz o name X.env (eval o X.env)=eval o X.env:=by rfl) (U:(O.endLine == ai.line)=true:=by rfl):QE X (.Call (.Attribute o name O) [] [] ai) (aI T h fo):=⟨ED L slot G hT hm.1 B.1 Y U⟩
def qDs (h:QW X e ta):QT X e ta:=⟨ur.pt h.1⟩
def qCd (Y:QT X a ta):QW X (.BoolOp .And [a] ai) ta:=⟨NB Y.1⟩
def qDM (Y:QT X a ta):QW X (.BoolOp .Or [a] ai) ta:=⟨HR Y.1⟩
def qDL (U:QT X a ta)(Y:QW X (.BoolOp .And (b::aq) ai) tb):QW X (.BoolOp .And (a::b::aq) ai) (yO ta tb):=⟨HQ U.1 Y.1⟩
def qDt (U:QT X a ta)(Y:QW X (.BoolOp .Or (b::aq) ai) tb):QW X (.BoolOp .Or (a::b::aq) ai) (w6 ta tb):=⟨qAI U.1 Y.1⟩
def qDJ (Y:QT X a ta):QT X (.UnaryOp .Not a ai) (x5 ta):=⟨HM Y.1⟩
def qDI (Y:ZOp X (Cs op) su)(U:QE X a fa)(G:QE X b fb)(hm:Lu op b=false:=by first|exact lI _|with_unfolding_all rfl):QT X (.Compare a [op] [b] ai) (bh (d2 su fa fb)):=⟨HL Y.1 U.1 G.1 hm⟩
def qB7 (G:ZOp X (Cs op) su)(U:ZOp X (Cs Y) g')(O:QE X a fa)(B:QE X b fb)(L:QE X c fc)(hm:Xx [op,Y] [b,c]=false:=by with_unfolding_all rfl):QT X (.Compare a [op,Y] [b,c] ai) (bh (wM su g' fa fb fc)):=⟨GN G.1 U.1 O.1 B.1 L.1 hm⟩
def qDK (G:QE X a fa)(U:∀ Y,isTrue a X.env Y=(do let v <- Y;Lx a.pos;holding [v] (truthy v)):=by intro _;rfl):QT X a (bh fa):=⟨HP G.1 U⟩
def SE (G:X.N.Nodup)(O:X.N[m]? = Aa x)(U:Loc X.env.scope x)(Y:X.fn x=Vq\/X.env.scope.names.lookup x=Aa .local):QG X (.Name x ai) (be m):=⟨N0 G O U Y⟩
def qCW:Z6 X [] xD:=⟨N1⟩
def qB3 (U:QG X e h)(G:Z6 X es Y)(hs:(Gk (e::es) X.env).map (·.2)=assign e X.env::(Gk es X.env).map (·.2):=by rfl):Z6 X (e::es) (qY h Y):=⟨GG U.1 G.1 hs⟩
def qC8 (O:X.calm=Vq)(h:Z6 X es U)(G:(Gk es X.env).length=n:=by rfl)(Y:(Gk es X.env).findIdx? (·.1)=none:=by rfl):QG X (.Tuple es kk ai) (lc n U):=⟨H9 O h.1 G Y⟩
def qC7 (Y:QE X o fo)(G:QE X i fi)(hs:zj X h)
  (U:∀ v,assign (.Subscript o i ai) X.env v=(do
   let ov <- holding [v] (eval o X.env);let iv <- holding [v,ov] (eval i X.env)
   Lx ai
   holding [v,ov,iv] (setItem ov iv v)
   release [v,ov,iv] []):=by intro _;rfl):QG X (.Subscript o i ai) (yz fo fi h):=⟨H8 Y.1 G.1 hs.1 U⟩
def qDB (Y:QE X e fa):QI X tg e (u0 fa):=⟨HA Y.1⟩
def qB4 (G:Gl X "range")(hm:X.mg "range" = Zt)(U:QA X (e::es) fA)(hs:Bc (e::es) X.env=(Yp,eval e X.env)::Bc es X.env:=by rfl)(Y:(Eu ai (Bc es X.env)).any (·.1)=false:=by rfl):QI X tg (.Call (.Name "range" p) (e::es) [] ai) (u4 fA):=⟨GH G hm U.1 hs Y⟩
def qDC (L:Gl X "zip")(hm:X.mg "zip" = Zt)(B:QA X [e1,e2] fA)(hs:Bc [e1,e2] X.env=(Yp,eval e1 X.env)::Bc [e2] X.env:=by rfl)(Y:(Eu ai (Bc [e2] X.env)).any (·.1)=false:=by rfl):QI X (.Tuple U G O) (.Call (.Name "zip" p) [e1,e2] [] ai) (dN fA):=⟨HB L hm B.1 hs Y⟩
def qCs:QB X [] qS:=⟨HF⟩
def qCt (h:QS X st f):QB X [st] f:=⟨HG h.1⟩
def qCT (Y:QS X st f)(U:QB X _O g):QB X (st::_O) (qE f g):=⟨N6 Y.1 U.1⟩
def qCb (Y:QE X e fa)(hs:Ly e Zt ai.line X.env=pure false:=by rfl):QS X (.Expr e ai) (wD fa):=⟨N7 Y.1 hs⟩
def qDH (Y:QE X e fa):QS X (.Return (Aa e) ai) (qO fa):=⟨HI Y.1⟩
def qDr {as bs:Ab Du}(G:QT X c ta)(Y:QB X as f)(U:QB X bs g):QS X (.If c as bs ai) (cu ta f g):=⟨qAH G.1 Y.1 U.1⟩
def qDG (hp:ZPass X)(O:X.calm=Vq)(B:QI X tg iter Y)(U:QG X tg h)(G:QB X er f)(hs:∀ x,Gs iter X.env x=pure x:=by intro _;rfl):QS X (.For tg iter er [] ai) (gF Y h f):=⟨HE hp.1 O B.1 U.1 G.1 hs⟩
def IY (G:X.N.Nodup)(B:QE X e fa)(L:X.N[m]? = Aa x)(O:Loc X.env.scope x)(hs:Ly e (Aa (.Name x Y)) ai.line X.env=pure Yp)(U:X.fn x=Vq\/X.env.scope.names.lookup x=Aa .local):QS X (.Assign [.Name x Y] e ai) (qV fa (be m)):=⟨HJ G B.1 L O hs U⟩
def qDE (U:QE X e fa)(G:QG X tg h)(hs:Ie [tg] e ai.line X.env=pure false:=by rfl)(hw:Ic [tg] e X.env=pure none:=by rfl)(Y:(Gk [tg] X.env).map (·.2)=[assign tg X.env]:=by rfl):QS X (.Assign [tg] e ai) (qV fa h):=⟨HC U.1 G.1 hs hw Y⟩
def IX {l:Aj}{U Y O:Eb}{kt k2 pt2}(M:X.calm=Vq) (E:X.N.Nodup) (H:QA X [a,b] fA) (w:X.N[m]? = Aa x) (L:X.N[l]? = Aa y) (G:m≠l) (B:X.env.scope.names.lookup x=Aa .local) (A:X.env.scope.names.lookup y=Aa .local)
  (hw:Ic [.Tuple [.Name x U,.Name y Y] kt O] (.Tuple [a,b] k2 pt2) X.env=pure (Aa [x,y]):=by rfl) (hs:Ie [.Tuple [.Name x U,.Name y Y] kt O] (.Tuple [a,b] k2 pt2) ai.line X.env=pure false:=by rfl) :
  QS X (.Assign [.Tuple [.Name x U,.Name y Y] kt O] (.Tuple [a,b] k2 pt2) ai) (gG m l fA):=⟨HH M E H.1 w L G B A hw hs⟩
def SG {l q:Aj}{L Y B G:Eb}{kt k2 pt2}(w:X.calm=Vq) (A:X.N.Nodup) (M:QA X [a,b,c] fA) (v:X.N[m]? = Aa x) (u:X.N[l]? = Aa y) (j:X.N[q]? = Aa z) (U:m≠l) (O:m≠q) (E:l≠q) (H:X.env.scope.names.lookup x=Aa .local) (d:X.env.scope.names.lookup y=Aa .local) (hz:X.env.scope.names.lookup z=Aa .local)
  (hw:Ic [.Tuple [.Name x L,.Name y Y,.Name z B] kt G] (.Tuple [a,b,c] k2 pt2) X.env=pure (Aa [x,y,z]):=by rfl) (hs:Ie [.Tuple [.Name x L,.Name y Y,.Name z B] kt G] (.Tuple [a,b,c] k2 pt2) ai.line X.env=pure false:=by rfl) :
  QS X (.Assign [.Tuple [.Name x L,.Name y Y,.Name z B] kt G] (.Tuple [a,b,c] k2 pt2) ai) (lW m l q fA):=⟨N8 w A M.1 v u j U O E H d hz hw hs⟩
def BH {H G:Eb}(w:X.calm=Vq)(A:Fn1 X)(E:Gl X x)(hm:X.mg x=Aa (.ref C))(O:tQ X.K C L=Vq)(M:QA X (e::aq) fA)(Y:(x == ("__debug__" : Ah))=Yp)(B:Bc (e::aq) X.env=(Yp,eval e X.env)::Bc aq X.env:=by rfl)(U:(Eu G (Bc aq X.env)).any (·.1)=false:=by rfl) :
  QS X (.Raise (Aa (.Call (.Name x H) (e::aq) [] G)) Zt ai) (xG (.ref C) fA):=⟨GM w A E hm O M.1 Y B U⟩
def IZ {U:Du}{Y:Ab Du}{w G:Eb}{M:Y8}(l:Fn1 X)(j:∀ E O,ZPass (Cx.tryIn X E O)->QB (Cx.tryIn X E O) er f)(hs:∀ e,QB (Cx.suite X e) (U::Y) g)(u:Gl X x)(hm:X.mg x=Aa (.ref A))(B:∀ c∈M,Jq X.K c (.ref A)=Aa Vq)(z:X.N.Nodup)(d:X.N[m]? = Aa nm)(L:X.env.scope.names.lookup nm=Aa .local)(H:(x == ("__debug__" : Ah))=Yp)(q:X.N.length=n) :
  QS X (.Try er [.ExceptHandler (Aa (.Name x w)) (Aa nm) (U::Y) G] [] [] ai) (nF n m M f g):=⟨q▸HK l (λE O y=>(j E O ⟨y⟩).1) (λe=>(hs e).1) u hm B z d L H⟩
def qDx:ZOp X (Ec .Add) qW:=⟨AJ⟩
def qEC:ZOp X (Ec .Sub) j7:=⟨AO⟩
def qD7:ZOp X (Ec .Mult) yQ:=⟨ZU⟩
def qD0:ZOp X (Ec .FloorDiv) jU:=⟨AK⟩
def qD6:ZOp X (Ec .Mod) uL:=⟨AM⟩
def qD9:ZOp X (Ec .Pow) GV:=⟨AN⟩
def qEd:ZOp X (Cs .Lt) vw:=⟨MF⟩
def qEc:ZOp X (Cs .LtE) sk:=⟨qAr⟩
def qEY:ZOp X (Cs .Gt) yl:=⟨qAo⟩
def qEX:ZOp X (Cs .GtE) y_:=⟨qAn⟩
def qEa:ZOp X (Cs .Is) xb:=⟨qAq⟩
def qEW (Y:RoomC cm k X.A):ZOp X (Cs .Eq) fq:=⟨qAm Y.units⟩
def qEe (Y:RoomC cm k X.A):ZOp X (Cs .NotEq) jo:=⟨qAs Y.units⟩
def qD8:_W X (Yw .USub) y9:=⟨ON⟩
def qEb:_q X b_:=⟨qBn⟩
def qD2:gn X (.builtin "isinstance") zP:=⟨V4⟩
def qD4:gn X (.builtin "len") zW:=⟨T7⟩
def qDy (Y:X.calm=Vq):gn X (.builtin "all") (pP Yp):=⟨RW Yp Y⟩
def qD1:gn X (.type "int") aU:=⟨RX⟩
def qCj:gn X (.type "tuple") xN:=⟨KW⟩
def qDU:gn X (.type "list") cA:=⟨T9⟩
def qCN:uf X "list.append" wZ:=⟨UM⟩
def qCe:uf X "list.count" fJ:=⟨B0⟩
def qCf:uf X "list.index" fK:=⟨B1⟩
def qEB (Y:RoomC cm k X.A):zj X mL:=⟨O9 (Y9 Y)⟩
end
section
variable {P:Ba}{w:Bu}{K:Ag}{mg:J8}{base:Bb}{cm:Ar}
def qCk:ZPass (jt cm P w K mg base N G ae f Y A U s H E):=⟨G6⟩
def qBf {st:Du}{k:Aj}{g:DS}(h:we K mg x st ps)(S:cz N ps (qF st))(G:zG st=er)
  (U:∀ (f:Af) (Y:Ac) (A:Bn) (O:Ab Hg) (s:Ai) (H:Hp) (E:XK),f7 K x Y->RoomC cm k (A.deeper (Fu x (qF st) s.heap.objs.size f Y)) ->
   QB (jt cm P w K mg base N x (qF st) f Y A O s H E) er g):uz P w K mg base cm (k+1) x ps.length (qL N.length g):=
 EY h S λf Y A O s H E L B=>G▸(U f Y A O s H E L B).1
def qAE {st:Du}{k:Aj}{g:DS}(h:we K mg x st ps)(S:cz N ps (qF st))(G:zG st=er)
  (U:∀ (f:Af) (Y:Ac) (A:Bn) (O:Ab Hg) (s:Ai) (H:Hp) (E:XK),f7 K x Y->RoomC cm k (A.deeper (Fu x (qF st) s.heap.objs.size f Y)) ->
   QB (jt cm P w K mg base N x (qF st) f Y A O s H E) er g):cO P w K mg base cm (k+1) x ps (qL N.length g):=
 TZ h S λf Y A O s H E L B=>G▸(U f Y A O s H E L B).1
def TY {st:Du}(h:we K mg x st ps):uz P w K mg base cm 0 x ps.length λ_ _=>.bad:=by obtain⟨f,fd,O,F,G⟩:=h;exact⟨f,fd,ps,rfl,O,F.kp,G,kQ F,⟨λU H Q E z=>z.1,λA B s H Y L U Q E _ _ _ _ z=>by obtain⟨_,_,_,_,_,_,_,z⟩:=z;exact Am z⟩⟩
end
structure zu (X:Cx)(ifs:Ab Bl)(t:DT):Prop where
 get:ut X ifs t
section
variable {X:Cx}{e:Bl}{es:Ab Bl}{t u:DT}
def qCc:zu X [] zU:=⟨NA⟩
def qB8 (Y:QT X e t)(U:zu X es u):zu X (e::es) (yO t u):=⟨GO Y.1 U.1⟩
end
def ou (o:Al (Aj × MO))(S:ag):Prop:=match o with
 |none=>Jg
 |some p=>S[p.1]? = Aa p.2
open Classical in
def nG (o:Al (Aj × MO))(S:ag):Ar:=decide (ou o S)
def yK:nG o S=Vq↔ou o S:=by simp[nG]
structure pc (K:Ag)(Jww:It)(P:Hp)(J : Ab Af)(o:Al (Aj × MO))(ds:Ab D):Prop where
 go:∀ i H P1 J1 S,i<ds.length->bf K H P1 J1 S->ou o S->qP P P1->J<+:J1->Jww.go i H
 yld:∀ i H x H' P1 J1 S,i<ds.length->bf K H P1 J1 S->ou o S->qP P P1->J<+:J1->Jww.yld i H x H'->∃ P2 d,ds[i]? = Aa d/\bf K H' P2 J1 S/\qP P1 P2/\am K P2 J1 d x
 stop:∀ i H P1 J1 S,ds.length<=i->bf K H P1 J1 S->ou o S->qP P P1->J<+:J1->Jww.stop i H
def wj.two {K:Ag}{P:Hp}(h:wj K G P J ds):pc K G P J Zt ds:=
 ⟨λi H Y U S a b _ c d=>h.go i H Y U S a b c d,λi H x O Y U S a b _ c d e=>h.yld i H x O Y U S a b c d e,λi H Y U S a b _ c d=>h.stop i H Y U S a b c d⟩
abbrev qh:=qG->ag->ax (Al (Aj × MO) × Ab D)
inductive rn (X:Cx)(f:qh)(Y : _L.St)(H:Hp)(R:It->Hp->Prop):Prop
 |mk (P:Hp) (J : Ab Af) (env:qG) (S:ag) (r:bf X.K H P J S) (re:zH X.K P J Y env) (af:qK X P J (f env S) (λp S'=>∀ Jww H' P' J',bf X.K H' P' J' S'->qP P P'->J<+:J'->pc X.K Jww P' J' p.1 p.2->R Jww H')):rn X f Y H R
def xH (f:DI):qh:=λY S=>(f Y S).bind λds U=>.ok (Zt,ds) U
section
variable {X:Cx}{K:Ag}{tg e:Bl}{fa:DE}
def N2 (h:PI X tg e (u_ X f)):PI X tg e (rn X (xH f)):=PI.weak h λY H R ⟨P,J,G,S,r,M,U⟩=>by
 refine⟨P,J,G,S,r,M,?_⟩;unfold xH at U;cases q:f G S with
 |bad=>rw[q] at U;exact U
 |ex c x y=>rw[q] at U;exact U
 |ok ds j =>
  rw[q] at U;exact λE A z w L O B it=>U E A z w L O B it.two
def L5 {P:Hp}{n:Aj}(hJ:J[n]? = Aa a):pc K (_C K a) P J (Aa (n,.lst ds)) ds where
 go:=λi H O L S U r st e G=>by obtain⟨Y,z,t⟩:=r.at' n a _ (pD G hJ) st;exact⟨Y,Y[i]'(by rw[<- t.length];exact U),.of z,by simp⟩
 yld:=λi H x M O L S U r st e G y=>by obtain⟨rfl,y⟩:=y;obtain⟨Y,z,t⟩:=r.at' n a _ (pD G hJ) st;have E:=y Y (.of z);obtain⟨v,B,A⟩:=t.get (Bd U);rw[E] at B;cases B;exact⟨O,_,Bd U,r,qP.refl _,A⟩
 stop:=λi H O L S U r st e G=>by obtain⟨Y,z,t⟩:=r.at' n a _ (pD G hJ) st;exact⟨Y,.of z,by rw[<- t.length];exact U⟩
noncomputable def itD (d:D)(S:ag):ax (Al (Aj × MO) × Ab D):=match d with
 |.tup xs=>.ok (Zt,xs) S
 |.lst xs=>.ok (Zt,xs) S
 |.loc n=>match S[n]? with
  |some (.lst xs)=>.ok (Aa (n,.lst xs),xs) S
  |_=>.bad
 |_=>.bad
def jc (f:DE):qh:=λY S=>(f Y S).bind λd U=>itD d U
def qAF (E:PE X e (tD X fa)):PI X tg e (rn X (jc fa)):=by
 intro aa s Y H R I h;obtain⟨P,J,ac,S,r,x,af⟩:=h;refine bi (zK E I r x af) λy G ⟨v,g,P1,J1,d,w,G1,U⟩=>?_;have O:∀ ds,x9 d=Aa ds->(∀ A M L B,bf X.K M L B w->qP P L->J<+:B->pc X.K A L B Zt ds->R A M)->a8 X (Pe y) (yc X aa Y tg R) X.xe G:=λds u q =>
  i6 G1.inv G1.rel G1.val G1.rep u λA M L B l k c it=>q A M L B l (G1.same.trans k) (G1.pre.trans c) it.two
 cases d with
 |tup xs=>exact O xs rfl U
 |lst xs=>exact O xs rfl U
 |loc n =>
  obtain⟨xs,i,U⟩:=bE (X:=X) (f:=λxs=>ax.ok (Aa (n,MO.lst xs),xs) w) U;have j:=G1.rep;simp only[am] at j;obtain⟨a,rfl,E⟩:=j;cases (show y=Ca a from G1.val);obtain⟨vs,z,t⟩:=G1.rel.at' n a _ E i;obtain⟨ah,rv,p,hz⟩:=G1.inv.list (kr.of z);refine Gu p.isList ?_;refine⟨G.heap.objs.size,[G.heap.objs.size],_,_,g,rfl,G1.inv.kept (t':=G.toks) λb o e=>Ak _ e,hJ a _,⟨_,Be _ rfl,rfl,rfl⟩,λb hb=>?_,U _ _ P1 J1 G1.rel G1.same G1.pre (L5 E)⟩;have e:b=G.heap.objs.size:=by simpa using hb
  subst e;exact G1.inv.fpOk (Ax _) (G1.inv.hok.fresh (Ax _))
 |_=>exact Am U
end
noncomputable def _o (m:Ar)(Y:Bl)(ao:Ac)(ac:Hg):Kk Nq:=match m with
 |false=>do let _ <- call (.builtin "list.append") [ao,<- eval Y ac]
 |true=>do let v <- eval Y ac;Lx Y.pos;let _ <- call (.builtin "set.add") [ao,v]
def w4 (m:Ar)(G:Bl)(U:Ab Dz)(ae:Ez)(O:Eb)(k:Aj)(ao:Ac)(ac:Hg):Kk Nq:=
 match U[k+1]? with
 |some Y=>do
  let x <- eval Y.iter ac
  Lx Y.iter.pos
  let x <- Gs Y.iter ac x;let it <- holding [x] (Pe x);let _ <- runOwn (.compStart (wF m G U ae O) (k+1) it ao ac) ac
 |none=>_o m G ao ac
def FB (m:Ar)(G Y iter:Bl)(B:Ab Bl)(U:Ab Dz)(ae:Ez)(O:Eb)(it ao:Ac)(ac:Hg)(k:Aj)(H:U[k]? = Aa ⟨Y,iter,B,0⟩)(E:∀ g',U[k+1]? = Aa g'->g'.is_async=0) :
  f8 (wF m G U ae O) k it ao ac=(do
   Lx iter.pos
   match <- Pd it with
   |none=>pure (.done .next)
   |some v =>
    Kl Y it v
    assign Y ac v
    let mut ok:=Vq
    for c in B do
     if ok then ok <- isTrue c ac (eval c ac)
    if ok then w4 m G U ae O k ao ac
    again (.compLoop (wF m G U ae O) k it ao ac)):=by
 cases m <;>
 .unfold f8 w4 wF _o;simp only[H];cases q:U[k+1]? with
  |none=>rfl
  |some g' =>
   have L:=E g' q;have A:(g'.is_async != 0)=false:=by rw[L];rfl
   simp only[A,Bs,Dp,bind_assoc,pure_bind];rfl
abbrev DK:=qG->ag->Ab D->ax (qG × Ab D)
def _n (o:Al (Aj × MO))(g:DG)(t:DT)(k:DK):Ab D->DK
 |[],G,S,U=>if nG o S then .ok (G,U) S else .bad
 |d::ds,G,S,U=>if nG o S then (g d G S).bind λY L=>(t Y L).bind λb O =>
   if b then (k Y O U).bind λp B=>_n o g t k ds p.1 B p.2 else _n o g t k ds Y O U
  else .bad
def qX (fe:DE):DK:=λU S Y=>(fe U S).bind λx G=>if Y.length<bb then .ok (U,Y++[x]) G else .bad
def kIn (fi:qh)(g:DG)(t:DT)(k:DK):DK:=λY S U=>(fi Y S).bind λp G=>_n p.1 g t k p.2 Y G U
def FP (B:Acc)(az:Cx)(aa:J0)(P1:Hp)(J1:J9)(ao:Af)(ac:qG)(S:ag)(ds:Ab D)(s:Ai):Prop:=
 ∃ Y H P J o,gb B az aa P1 J1 [] ao ac S ds s Y H P J o
section
variable {az:Cx}{dn tg iter:Bl}{e_:Ab Bl}{bp:Ab Dz}{ae:Ez}{ai:Eb}{k:Aj}{it ao:Af}{fp:J9}{ci:It}{tn:Aj->Bb->Prop}{aa:J0}
def VX {X:Cx}(f:xJ X aa H b)(E:b ∉ fp):xJ X (aa++v7 fp h) H b:=by
 obtain⟨M,G,L,A,U,Y⟩:=f;refine⟨M,G,L,A,U,λp O=>?_⟩;rcases Cg.mp O with z|z
 .exact Y p (Ds _ z)
 .rcases Cg.mp z with z|z
  .exact Y p (Ce _ z)
  .rintro rfl;exact E (eI z).1
def R4 {m:Ar}{M:Nk}{A:Bn}{Q:Fin->Ai->Prop}{Qa Qd:Ai->Prop}{E:J7}{s:Ai}{it ao:Ac}{en:Hg}(U:bp[k]? = Aa ⟨tg,iter,e_,0⟩)(has:∀ g',bp[k+1]? = Aa g'->g'.is_async=0)
  (O:∀ s,Qa s->Q (.again (.compLoop (wF m dn bp ae ai) k it ao en)) s) (o:∀ s,Qd s->Q (.done .next) s)
  (h:Ap M A (Pd it) (λr Y=>(r=Zt->Qd Y)/\∀ v,r=Aa v->Ap M A (Kl tg it v) (λ_ w=>Ap M A (assign tg en v) (λ_ L=>Ap M A (kG e_ en) (λb s4=>(b=Yp->Qa s4)/\(b=Vq->Ap M A (w4 m dn bp ae ai k ao en) (λ_ G=>Qa G) E s4)) E L) E w) E Y) E s) :
  Ap M A (f8 (wF m dn bp ae ai) k it ao en) Q E s:=by
 rw[FB m dn tg iter e_ bp ae ai it ao en k U has];refine Ad (Hk (Ad (bi h λr Y ⟨j,z⟩=>?_)));cases r with
 |none=>exact An (o _ (j rfl))
 |some v =>
  refine Ad (bi (z v rfl) λ_ w y=>Ad (bi y λ_ L u=>Ad (bi u λb s4 H=>?_)));cases b with
  |false=>exact An (O _ (H.1 rfl))
  |true=>exact Ad (bi (H.2 rfl) λ_ G q=>An (O _ q))
def NR (U:∀ H:Hp,(∀ b∈fp,H b=Zt)->∀ b∈fp,xJ az aa H b)(Y:ao ∉ fp)(o:Cd)(H':Hp)(w:∀ b∈fp,H' b=Zt):∀ b∈fp,xJ az (aa++[(ao,o)]) H' b:=λb G=>by
 obtain⟨y,E,M,j,L,O⟩:=U H' w b G;refine⟨y,E,M,j,L,λp A=>?_⟩;rcases Cg.mp A with z|z
 .exact O p (Ds _ z)
 .rcases Cg.mp z with z|z
  .exact O p (Ce _ z)
  .rw[Cc.mp z];rintro rfl;exact Y G
def g9 {i:Aj}(T:n_ az.prog az.w az.K tg ci fp it tn)(U:tn (i+1) h)(pl:∀ b∈fp,∃ o,h.get? b=Aa o/\∀ v,o.data≠.cell v){O:Ai}{H:_L.St}{L:Hp}(E:Inv az (aa++v7 fp h) H L O):tn (i+1) O.heap/\(∀ b∈fp,L b=Zt):=by refine⟨T.keep _ _ _ U λb Y G e=>(E.pin (b,G) (Ce _ (Ce _ (jE Y e)))).1,λb Y=>?_⟩;obtain⟨G,e,A⟩:=pl b Y;exact(E.pin (b,G) (Ce _ (Ce _ (jE Y e)))).2.1
def PV (P:Ba)(w:Bu)(m:Ar)(dn:Bl)(bp:Ab Dz)(ae:Ez)(ai:Eb)(k:Aj)(it ao:Ac)(ac:Hg):(As P w).den (.compLoop (wF m dn bp ae ai) k it ao ac)=(f8 (wF m dn bp ae ai) k it ao ac).onRaise (λx=>do Kb x ac;theTreesLotGoes x):=by cases m <;> rfl
def PX (A:Bn)(m:Ar)(dn:Bl)(bp:Ab Dz)(ae:Ez)(ai:Eb)(k:Aj)(it ao:Ac)(ac:Hg):A.under (.compLoop (wF m dn bp ae ai) k it ao ac)=A:=by cases m <;> rfl
end
def aE {prog:Ba}{w:Bu}{A:Bn}{R:Qs->Ai->Prop}{s:Ai}{U:Bl}{Y:Ab Dz}{ae:Ez}{G:Eb}{k:Aj}{it ao:Ac}{ac:Hg}{m:Ar}(j:Y[k]? = Aa g)(z:g.is_async=0)
  (h0:Gn (As prog w) A (.compLoop (wF m U Y ae G) k it ao ac) R s)
  (h:Ap (As prog w) A (Pe it) (λO s'=>Gn (As prog w) A (.compLoop (wF m U Y ae G) k O ao ac) R s') (notedBy (As prog w) A ac λx s'=>R (.error x) s') s) :
  Gn (As prog w) A (.compStart (wF m U Y ae G) k it ao ac) R s:=by
 refine Oy ?_;have H:(As prog w).den (.compStart (wF m U Y ae G) k it ao ac)=(compStart (wF m U Y ae G) k it ao ac).onRaise (λx=>do Kb x ac;Lx theWindowsPlace):=by cases m <;> rfl
 have M:A.under (.compStart (wF m U Y ae G) k it ao ac)=A:=by cases m <;> rfl
 have L:(AaC (wF m U Y ae G) k it ao ac).quiet=Vq/\∀ O,(AaC (wF m U Y ae G) k O ao ac).quiet=true:=by cases m <;> exact⟨rfl,λ_=>rfl⟩
 rw[H,M];refine wpAny_notedAt ?_;have B:clausesOf (wF m U Y ae G)=Y:=by cases m <;> rfl
 have E:(g.is_async != 0)=false:=by rw[z];rfl
 unfold compStart;simp only[B,j,Option.elim,E,Bs,Dp];refine Ad (Jy (wpAny_ite ?_));split
 .exact An (And.intro L.1 h0)
 .refine Ad (Kx ?_);exact Ad (Hk (Ad (Fm h (λO s' h'=>An (And.intro (L.2 _) h')) λ_ _ x=>x)))
section
variable {X:Cx}{ae:Ez}{mm:Ar}
def GP {Q:VK}(c:gI X aa Y P1 J1 ds U ao C s)(ok:if mm then gy X P1 J1 Q (.loc U.length) (U++[.lst ds]) else gy X P1 J1 Q (.lst ds) U):EP X aa Y Q (.ref ao) s:=by
 cases mm with
 |false=>exact ND c ok
 |true =>
  obtain⟨y,q,k,u,I,r,j,B,L,w,_⟩:=c;exact⟨.ref ao,_,I,rfl,mQ r j w λv A E z M H G O=>ok v A E z M (B.trans H) (L.trans G) O⟩
def VJ {M:Nk}{A:Bn}{E:J7}{s:Ai}{globals:Af}{Y:Ab (Ah × Af)}{B:Ah}{ac:Hg}{Q:Hg->Ai->Prop}
  (L:Q (newEnv ae s.heap.objs.size globals (HT (s.heap.objs.size+1) ae.names Y) B Zt .none (Aa ac) Pl) { s with heap:=XV (s.heap.push { cls:=.type "dict",data:=.dict #[] }) ae.names }) :
  Ap M A (Vg ae globals Y [] B Zt .none (Aa ac)) Q E s:=by
 simp only[Vg,Option.isSome_some,Dw];refine Ad (Zl ?_);refine Ad (wpAny_layCells _ (λO U H=>by cases G:U == Oc <;> simp[G]) _ _ _ _ ?_);rw[show ({ s with heap:=s.heap.push { cls:=.type "dict",data:=.dict #[] } } : Ai).heap.objs.size=s.heap.objs.size+1 from Er ..];refine Ad ?_;rw[Nj];exact An (An L)
end
section
def qCR:D->Ab D->ag->ax D:=λa ds S=>match a,ds with
 |.loc n,[i,x]=>match S[n]? with
  |some (.dct Y)=>match CO i with
   |some k=>match OQ Y k with
    |some d=>.ok d S
    |none=>if Y.length<bb then .ok x (S.set n (.dct (qBx Y k x))) else .bad
   |none=>.bad
  |_=>.bad
 |_,_=>.bad
noncomputable def uP:Ab D->Al (Ab Aq)
 |[]=>Aa []
 |.int i::r=>(uP r).map (i::·)
 |_::_=>Zt
def eE (ns:Ab Aq):uP (ns.map D.int)=Aa ns:=by
 induction ns with
 |nil=>rfl
 |cons n r Y=>exact congrArg (Option.map (n::·)) Y
theorem tZ:∀ {ds:Ab D} {ns:Ab Aq},uP ds=Aa ns->ds=ns.map D.int
 |[],ns,h=>by cases h;rfl
 |d::r,ns,h=>by
  cases d with
  |int i =>
   obtain⟨m,Y,rfl⟩:=Ep.mp (show (uP r).map (i::·)=Aa ns from h);rw[tZ Y];rfl
  |_=>exact nn h
theorem fO {K:Ag}{P:Hp}:∀ {ns:Ab Aq} {vs:Ab V},qJ K P J (ns.map D.int) vs->vs=ns.map V.int
 |[],vs,r=>by rw[r.nil_inv];rfl
 |n::ns,vs,r=>by obtain⟨w,Y,rfl,p,t⟩:=r.cons_inv;simp only[am] at p;rw[p,fO t];rfl
def dW:G2:=λa b S=>match a,b with
 |.tup xs,.tup ys=>match uP xs,uP ys with
  |some Y,Aa U=>.ok (.bl (_H.lexLt Y U)) S
  |_,_=>.bad
 |_,_=>vw a b S
end
section
variable {X:Cx}
def oO {H P:Hp}{xs:Ab D}(I:Inv X aa Y H s)(r:bf X.K H P J S)(L:qR v G)(p:am X.K P J (.tup xs) v)(h:uP xs=Aa ns) :
  ∃ a ah,G=.ref a/\Tf s.heap a (Na ah)/\Lj ah ns:=by
 have:=tZ h;subst this;obtain⟨a,A,ah,rfl,E,B,U,O,l1,_⟩:=kH I r p;have:=fO B;subst this;exact⟨a,ah,L,O,by simpa using WL U⟩
set_option tactic.hygienic true in
def AL (j:X.A.units<Fk):gz X (Cs .Lt) dW:=by
 intro o Y H s P J S v u y q a b Q I r O E B L U;unfold dW at U;split at U
 .rename_i xs ys;split at U
  .rename_i l p A z;obtain⟨a,ah,rfl,M,k⟩:=oO I r O B A;obtain⟨b,G,rfl,w,i2⟩:=oO I r E L z;exact _H.qm M w (by simpa using k) (by simpa using i2) j ⟨.bl _,H,I,rfl,xr U r (by simp only[am])⟩
  .exact Am U
 .exact MF o Y H s P J S v u y q a b Q I r O E B L U
end
end _D
namespace _D
open _L PySem.SeqAt
section
variable {X:Cx}{aa:J0}{Y: _L.St}{H P:Hp}{J: Ab Af}{S:ag}{s:Ai}
inductive zt (X:Cx)(P:Hp)(J : Ab Af)(d d':D):Prop
 |eq (h:d=d')
 |tt (xs ys:Ab D) (its:Y8) (ed:d=.tup xs) (ed':d'=.tup ys) (q:kc X P J xs ys its its)
 |ll (xs ys:Ab D) (its:Y8) (ed:d=.lst xs) (ed':d'=.lst ys) (q:kc X P J xs ys its its)
def MI (k1:Kd X P J s d u)(k2:Kd X P J s d' u):zt X P J d d':=by
 cases k1 with
 |non=>cases k2;exact .eq rfl
 |bl b=>cases k2;exact .eq rfl
 |int i t=>cases k2;exact .eq rfl
 |str x t=>cases k2;exact .eq rfl
 |tup a L E I A B h q =>
  cases k2 with
  |tup _ O G C U Q N T =>
   cases zf h N;exact .tt L O E rfl rfl ⟨I,C,A,B,U,Q⟩
  |lst _ O G C U Q N T=>exact(WO h N).elim
 |lst a L E I A B h q =>
  cases k2 with
  |lst _ O G C U Q N T =>
   cases zh h N;exact .ll L O E rfl rfl ⟨I,C,A,B,U,Q⟩
  |tup _ O G C U Q N T=>exact(WO N h).elim
def rV (I:Inv X aa Y H s)(r:bf X.K H P J S){m:Aj}(w:∀ (d d' e:D) (u:Ac),pl m d=Vq->pl m d'=Vq->Kd X P J s d u->Kd X P J s d' u->g_ d e=g_ d' e){xs ys U:Ab D}{ah:Y8}(C:xs.all (pl m)=Vq)(L:ys.all (pl m)=Vq)(q:kc X P J xs ys ah ah):xT xs U=xT ys U:=by
 obtain⟨c,l,E,A,N,G⟩:=q;have l1:=E.length.trans A.length;have l2:=N.length.trans G.length;rw[vF,vF,l1,l2];congr 1;have O:∀ j∈Ch (min ah.length U.length),g_ (xs.getD j .non) (U.getD j .non)=g_ (ys.getD j .non) (U.getD j .non):=λj Q=>by
  have o:=Fg.mp Q;have Q:j<ah.toArray.size:=by rw[Bf];lia
  obtain⟨p,M,k,B⟩:=vH E A Q;obtain⟨g,y,z,T⟩:=vH N G Q;exact w _ _ _ _ (wJ C B) (wJ L T) (v9 I r (wJ C B) M k) (v9 I r (wJ L T) y z)
 rw[Ks,Bk,Bk];exact⟨λh j Q=>(O j Q)▸h j Q,λh j Q=>(O j Q).symm▸h j Q⟩
def NF (I:Inv X aa Y H s)(r:bf X.K H P J S):∀ (n:Aj) (d d' e:D) (u:Ac),pl n d=Vq->pl n d'=Vq->Kd X P J s d u->Kd X P J s d' u->g_ d e=g_ d' e:=by
 intro n
 induction n with
 |zero =>
  intro d d' e u G N O C;cases MI O C with
  |eq h=>rw[h]
  |tt _ _ _ U=>subst U;exact Gm G
  |ll _ _ _ U=>subst U;exact Gm G
 |succ m B =>
  intro d d' e u G N O C;cases MI O C with
  |eq h=>rw[h]
  |tt L T A U Q q =>
   subst U Q;cases e with
   |tup E=>exact rV I r B G N q
   |_=>rfl
  |ll L T A U Q q =>
   subst U Q;cases e with
   |lst E=>exact rV I r B G N q
   |_=>rfl
open Classical in
def vy (X:Cx)(P:Hp)(J : Ab Af)(s:Ai)(xs:Ab D)(d:D)(y:Ac):Ar:=if h:∃ z,z∈xs/\Kd X P J s z y then g_ (Oe h) d else Yp
def VG (I:Inv X aa Y H s)(r:bf X.K H P J S){n:Aj}{xs:Ab D}{vs:Ab V}{ah:Y8}{d:D}(h:xs.all (pl n)=Vq)(G:qJ X.K P J xs vs)(N:qQ vs ah){j:Aj}(O:j<ah.length):∃ z,z∈xs/\Kd X P J s z ah[j]/\vy X P J s xs d ah[j]=g_ z d/\g_ z d=g_ (xs.getD j .non) d:=by obtain⟨w,y,z,m⟩:=vH G N (j:=j) (by rw[Bf];exact O);have k:=v9 I r (wJ h m) y z;have U:∃ z,z∈xs/\Kd X P J s z ah[j]:=⟨_,m,k⟩;have Q:=Of U;refine⟨Oe U,Q.1,Q.2,?_,NF I r n _ _ d _ (wJ h Q.1) (wJ h m) Q.2 k⟩;unfold vy;rw[dif_pos U]
def NC (I:Inv X aa Y H s)(r:bf X.K H P J S){n:Aj}{xs:Ab D}{vs:Ab V}{ah:Y8}{d:D}(h:xs.all (pl n)=Vq)(N:qJ X.K P J xs vs)(U:qQ vs ah):ah.map (vy X P J s xs d)=xs.map λx=>g_ x d:=by have l:=N.length.trans U.length;refine Sz (by rw[Ao,Ao,l]) λj Q G=>?_;rw[Ao] at Q G;rw[Ls,Ls];obtain⟨z,_,_,O,C⟩:=VG (d:=d) I r h N U Q;rw[O,C];simp[Ma,G]
def VH (I:Inv X aa Y H s)(r:bf X.K H P J S){n:Aj}{A:Bn}{xs:Ab D}{vs:Ab V}{ah:Y8}{d:D}{v:V}{u:Ac}(G:A.units+n<Fk)(h:xs.all (pl n)=Vq)(Q:pl n d=Vq)(O:qJ X.K P J xs vs)(B:qQ vs ah)(p:am X.K P J d v)(q:qR v u):∀ y,y∈ah.toArray->EqAt A s y u (vy X P J s xs d y):=λy C=>by obtain⟨j,L,rfl⟩:=Ef.mp (show y∈ah by simpa using C);obtain⟨z,N,k,U,_⟩:=VG (d:=d) I r h O B L;rw[U];exact(aO I r n A z d _ u G (wJ h N) Q k (v9 I r Q p q)).eq
def s_ (a b:D):Al Ar:=match x9 b with
 |some Q=>if Q.all (pl zC)&&pl zC a then Aa (Q.any λx=>g_ x a) else Zt
 |none=>Zt
def ti:G2:=λa b S=>match s_ a b with
 |some k=>.ok (.bl k) S
 |none=>.bad
def gZ:G2:=λa b S=>match s_ a b with
 |some k=>.ok (.bl (!k)) S
 |none=>.bad
def PC (h:s_ a b=Aa k):∃ xs,_E b xs/\xs.all (pl zC)=Vq/\pl zC a=Vq/\k=xs.any λx=>g_ x a:=by
 unfold s_ at h;cases e:x9 b with
 |none=>rw[e] at h;exact nn h
 |some xs =>
  rw[e] at h;obtain⟨c,rfl⟩:=jX h;have Q:=Ct.mp c;exact⟨xs,W_ e,Q.1,Q.2,rfl⟩
def pW (i:X.A.units+64<Fk)(I:Inv X aa Y H s)(r:bf X.K H P J S){a b:D}{v u:V}{A O:Ac}{k:Ar}(z:qR v A)(p:qR u O)(j:am X.K P J a v)(y:am X.K P J b u)(h:s_ a b=Aa k) :
  (∀ {Q:J7} {E:J7},Q (.bool k) s->a8 X (Cs .In A O) Q E s)/\∀ {Q:J7} {E:J7},Q (.bool (!k)) s->a8 X (Cs .NotIn A O) Q E s:=by
 obtain⟨G,m,T,w,rfl⟩:=PC h;have N:X.A.in1.units+zC<Fk:=by show X.A.units+1+zC<Fk;unfold zC;lia
 have any:∀ {o:Ab V} {C:Y8},qJ X.K P J G o->qQ o C->C.toArray.any (vy X P J s G a)=G.any λx=>g_ x a:=λf U=>by rw[<- Array.any_toList];have e:=congrArg (λl=>l.any id) (NC (d:=a) I r T f U);rw[Xj,Xj] at e;exact e
 cases m with
 |tup M =>
  subst M;obtain⟨l,c,C,rfl,sq,t,U,L,_,_⟩:=kH I r y;cases (show O=Ca l from p);have B:=VH I r N T w t U j z;exact⟨λq=>in_tupleAt (vy X P J s G a) L B (by rw[any t U];exact q),λq=>notIn_tupleAt (vy X P J s G a) L B (by rw[any t U];exact q)⟩
 |lst M =>
  subst M;obtain⟨l,c,C,n,rfl,sq,t,U,L,_,_⟩:=uA I r y;cases (show O=Ca l from p);have g:s.heap.IsList l C.toArray:=⟨_,L,Z,n,Z⟩;have B:=VH I r N T w t U j z;exact⟨λq=>in_listAt (vy X P J s G a) g B (by rw[any t U];exact q),λq=>notIn_listAt (vy X P J s G a) g B (by rw[any t U];exact q)⟩
def qAp (N:X.A.units+64<Fk):gz X (Cs .In) ti:=by
 intro aa Y H s P J S v u T E a b Q I r O L C B G;have U:qK X P J (match s_ a b with|some k=>ax.ok (D.bl k) S|none=>.bad) (gy X P J Q):=G;clear G;cases e:s_ a b with
 |none=>rw[e] at U;exact Am U
 |some k =>
  rw[e] at U;exact(pW N I r O L C B e).1 ⟨.bl _,H,I,Z,xr U r (by simp only[am])⟩
def B9 (N:X.A.units+64<Fk):gz X (Cs .NotIn) gZ:=by
 intro aa Y H s P J S v u T E a b Q I r O L C B G;have U:qK X P J (match s_ a b with|some k=>ax.ok (D.bl (!k)) S|none=>.bad) (gy X P J Q):=G;clear G;cases e:s_ a b with
 |none=>rw[e] at U;exact Am U
 |some k =>
  rw[e] at U;exact(pW N I r O L C B e).2 ⟨.bl _,H,I,Z,xr U r (by simp only[am])⟩
end
end _D
namespace _D
open _L
section
variable {X:Cx}
def pT:G2:=λa b S=>match a,b with
 |.lst Q,.int k=>if 0<=k/\k<2 ^ 62/\Q.length*k.toNat<=bb then .ok (.lst (Cu k.toNat Q).flatten) S else .bad
 |_,_=>yQ a b S
theorem oB {K:Ag}{P:Hp}(r:qJ K P J ds vs):∀ k:Aj,qJ K P J (Cu k ds).flatten (Cu k vs).flatten
 |0=>by simpa using qJ.nil
 |k+1=>by rw[Gy,Gy,Ji,Ji];exact r.append (oB r k)
inductive _x (a b:D)(S:ag):Prop
 |old (e:pT a b S=yQ a b S)
 |of (xs:Ab D) (k:Aq) (ea:a=.lst xs) (eb:b=.int k)
def qBr (a b:D)(S:ag):_x a b S:=by
 cases a with
 |lst Q=>cases b with
  |int k=>exact .of Q k rfl rfl
  |_=>exact .old rfl
 |_=>exact .old rfl
def D6:gz X (Ec .Mult) pT:=by
 intro aa Y H s P J S v u j f a b Q I r y p q o E;cases qBr a b S with
 |old e =>
  rw[e] at E;exact ZU aa Y H s P J S v u j f a b Q I r y p q o E
 |of xs k c d =>
  subst c d;obtain⟨h,E⟩:=x3 (X:=X) E;obtain⟨h1,h2,z⟩:=h;obtain⟨l,x,G,n,rfl,q1,g,A,e,l1,_⟩:=uA I r q;cases (show j=Ca l from y);have:=xR o;subst this;obtain⟨t,rfl⟩:=p;have hl:G.length=x.length:=A.length.symm;have O:G.toArray.size*k.toNat<=sizeLine:=by rw[Bf,<- l1,<- zM];exact z
  have L:¬ G.toArray.size*k.toNat>(2 ^ 63-1)/8:=by
   have:(sizeLine:Aj)<=(2 ^ 63-1)/8:=by decide
   fin2
  have C:¬ (!Builtin.List.listFitsIndex k)=true:=by rw[fitsIndex_both om om];exact Fc
  have N:¬ Mq (G.toArray.size*k.toNat)=true:=by rw[B7 O];exact Fc
  have B:Aa0 (λw M=>w++M) #[] (Cu (if G.toArray.isEmpty=Vq then 0 else k.toNat) G.toArray)=(Cu k.toNat G).flatten.toArray:=by
   have f0:∀ m:Aj,Aa0 (λw M=>w++M) #[] (Cu m G.toArray)=(Cu m G).flatten.toArray:=λm=>by have:=rZ G m [];rw[Kt] at this;exact this
   rw[f0];cases G with
   |nil=>simp
   |cons a r'=>rw[AT aA]
  refine wpAny_binaryOp_repeat_ref (T:="list") (U:="int") aC ⟨_,e,Z⟩ (λi=>typeIs_int i k t) noFill_list_mul F.fills_int_mul sB repeat_list F.slot_int_index.lookup
   (Jv sB (typeIs_int s k t) F.entry_int_rmul (F.args_int_rmul_2 _ _) (int___rmul___int_list k t l G.toArray n)
    ⟨e,Z,⟨_,e,Z⟩,Jv F.slot_list_mul ⟨_,e,Z⟩ F.entry_list_mul (F.args_list_mul_2 _ _) (AutoListH.list___mul___list_int_3 l G.toArray n k t C L N) ⟨e,?_⟩⟩)
  rw[B];exact n9 I r (oB g k.toNat) (A.rep k.toNat) (by rw[sH,Nat.mul_comm];exact z) E
def KP:Gc "set" = Aa (.type "set"):=by decide +kernel
end
structure Z5 (X:Cx)(tg it:Bl)(f:qh):Prop where
 get:PI X tg it (rn X f)
section
variable {X:Cx}{tg it e:Bl}{fa:DE}{fI:DI}{k:Aj}{cm:Ar}
def qDA (h:QI X tg it fI):Z5 X tg it (xH fI):=⟨N2 h.1⟩
def qC9 (h:QE X e fa):Z5 X tg e (jc fa):=⟨qAF h.1⟩
def qD5 (Q:RoomC cm k X.A):ZOp X (Cs .Lt) dW:=⟨AL (by have:=Y9 Q;fin2)⟩
def qDV:ZOp X (Ec .Mult) pT:=⟨D6⟩
end
def m9 (H:Hp):Ab (Af × HO)->Hp
 |[]=>H
 |p::Q=>m9 (bx H p.1 p.2) Q
theorem rD {b:Af}:∀ {L:Ab (Af × HO)} {H:Hp},b ∉ L.map (·.1)->m9 H L b=H b
 |[],_,_=>rfl
 |p::Q,H,h=>by simp only[Ee,Ay,not_or] at h;show m9 (bx H p.1 p.2) Q b=H b;rw[rD h.2,qN h.1]
theorem oQ:∀ {L:Ab (Af × HO)} {H:Hp},m9 H L b=Aa u->(b,u)∈L\/H b=Aa u
 |[],_,h=>.inr h
 |p::Y,H,h=>by
  rcases oQ (L:=Y) (H:=bx H p.1 p.2) h with h|h
  .exact .inl (Bm _ h)
  .by_cases Q:b=p.1
   .subst Q;rw[qT] at h;cases h;exact .inl (Cr ..)
   .rw[qN Q] at h;exact .inr h
section
variable {X:Cx}{aa:J0}{Y: _L.St}{H:Hp}{s:Ai}
def Inv.laidL {L:Ab (Af × HO)}{h':Bb}{t':Aj}(I:Inv X aa Y H s)(k:∀ b u,s.heap.get? b=Aa u->h'.get? b=Aa u)(hp:∀ p∈L,s.heap.objs.size<=p.1)(U:∀ p∈L,zR X.prog X.w (m9 H L) h' p.1 p.2) :
  Inv X aa Y (m9 H L) { s with heap:=h',toks:=t' }:=by
 have Q:∀ b u,H b=Aa u->m9 H L b=Aa u:=λb u e=>by
  rw[rD (L:=L)]
  .exact e
  .intro hb;obtain⟨p,J,rfl⟩:=Cj.mp hb;rw[I.hok.fresh (hp p J)] at e;cases e
 have G:∀ b,b<s.heap.objs.size->m9 H L b=H b:=λb hb=>rD λN=>by obtain⟨p,J,rfl⟩:=Cj.mp N;exact absurd (Bo hb (hp p J)) (Fh _)
 refine I.un ⟨λb u q _ _ _=>k b u q,λb u q _ _ _=>⟨u.slots,k b u q⟩,λb u q n _=>by rw[G b (Bh q)];exact n,λb u q _=>⟨u,k b u q⟩,λb O q=>Q b _ q,λb o O q=>Q b _ q,λb C q=>⟨#[],by rw[Q b _ q];simp⟩⟩ λb u e=>?_;rcases oQ e with N|hb
 .exact U (b,u) N
 .exact(I.hok b u hb).stay (λc v _ q=>k c v q) (λc q=>Q c _ q) λc O q=>Q c _ q
end
section
variable {X:Cx}{cm:Ar}{k:Aj}
def qEZ (Q:RoomC cm k X.A):ZOp X (Cs .In) ti:=⟨qAp Q.units⟩
def qCh (Q:RoomC cm k X.A):ZOp X (Cs .NotIn) gZ:=⟨B9 Q.units⟩
end
end _D
namespace _S
variable {mask:Aj}{xs:Br Aj}{t:Fq}
def Rs (xs:Br Aj):Prop:=xs.toList.Pairwise (· < ·)
def Rs.lt (h:Rs xs){a b:Aj}{x y:Aj}(Q:a<b)(G:xs[a]? = Aa x)(N:xs[b]? = Aa y):x<y:=by obtain⟨Y,J⟩:=Cq.mp G;obtain⟨O,U⟩:=Cq.mp N;have:=Rq.mp h a b (by simpa using Y) (by simpa using O) Q;rw[<- J,<- U];simpa using this
def sj {i x d:Aj}(h:xs[i]? = Aa x):xs.getD i d=x:=by obtain⟨Q,Y⟩:=Cq.mp h;simp[Jb,Q,Y]
structure Bel (xs:Br Aj)(j p:Aj):Prop where
 le:p<=xs.size
 lo:∀ i x,i<p->xs[i]? = Aa x->x<j
 hi:∀ i x,p<=i->xs[i]? = Aa x->j<=x
set_option tactic.hygienic true in
theorem tP (h:Rs xs)(j:Aj):∀ (fuel lo Q:Aj),Q-lo<=fuel->lo<=Q->Q<=xs.size ->
  (∀ i x,i<lo->xs[i]? = Aa x->x<j)->(∀ i x,Q<=i->xs[i]? = Aa x->j<=x)->Bel xs j (Ya xs j fuel lo Q)
 |0,lo,Q,B,L,G,U,N=>by
  have:lo=Q:=by lia
  subst this;exact⟨G,U,N⟩
 |fuel+1,lo,Q,B,L,G,U,N=>by
  unfold Ya;by_cases J:lo<Q
  .rw[Au J];have T:(lo+Q)/2<xs.size:=by lia
   have e:xs[(lo+Q)/2]? = Aa xs[(lo+Q)/2]:=Dj T;simp only[sj e];split
   .rename_i C;refine tP h j fuel _ Q ak ak G (λi x O Y=>?_) N;by_cases q:i=(lo+Q)/2
    .subst q;rw[e] at Y;cases Y;exact C
    .exact Pi (h.lt ak Y e) C
   .rename_i C;refine tP h j fuel lo _ ak ak ak U (λi x O Y=>?_);by_cases q:i=(lo+Q)/2
    .subst q;rw[e] at Y;cases Y;lia
    .have:=h.lt (show (lo+Q)/2<i by lia) e Y;lia
  .rw[AT J];have:lo=Q:=by lia
   subst this;exact⟨G,U,N⟩
def jQ (h:Rs xs)(j:Aj):Bel xs j (Cf xs j):=
 tP h j _ _ _ ak ak (Ax _) (λi x Y=>by lia) λi x Y Q=>by have:=(Cq.mp Q).1;lia
def tO (h:Rs xs){i j:Aj}(e:xs[i]? = Aa j):Cf xs j=i:=by
 have b:=jQ h j;have U:=(Cq.mp e).1;by_cases Y:Cf xs j<i
 .have Q:xs[Cf xs j]? = Aa xs[Cf xs j]:=Dj ak;have:=h.lt Y Q e;have:=b.hi _ _ (Ax _) Q;lia
 .by_cases J:i<Cf xs j
  .have:=b.lo _ _ J e;lia
  .lia
def W4 (h:Rs xs){i j:Aj}(e:xs[i]? = Aa j):Cf xs (j+1)=i+1:=by
 have b:=jQ h (j+1);have G:=(Cq.mp e).1;have U:i<Cf xs (j+1):=by apply Fa;intro q;have:=b.hi _ _ ak e;lia
 by_cases Y:i+1<Cf xs (j+1)
 .have J:i+1<xs.size:=by have:=b.le;lia
  have Q:xs[i+1]? = Aa xs[i+1]:=Dj J;have:=b.lo _ _ Y Q;have:=h.lt (Hl i) e Q;lia
 .lia
def W5 (h:Rs xs):Cf xs 0=0:=by
 have b:=jQ h 0;apply Fa;intro q;have Q:0<xs.size:=by have:=b.le;lia
 have Y:xs[0]? = Aa xs[0]:=Dj Q;have:=b.lo _ _ ak Y;lia
structure Tb (t:Fq):Prop where
 rs:Rs t.place
 dm:t.dummies=#[]
def QR (j:Aj):Xk #[] j=false:=by simp[Xk]
def eU (T:Tb t){i j:Aj}(e:t.place[i]? = Aa j):t.slot j=.live i:=by unfold AaD;simp only[tO T.rs e,e];simp
def YM (T:Tb t)(j:Aj):(∃ i,t.slot j=.live i/\t.place[i]? = Aa j)\/(t.slot j=.empty/\j ∉ t.place.toList):=by
 by_cases h:j∈t.place.toList
 .obtain⟨i,J,e⟩:=Ef.mp h;have Q:t.place[i]? = Aa j:=by rw[<- Bw,Bd J,e]
  exact .inl ⟨i,eU T Q,Q⟩
 .refine .inr ⟨?_,h⟩;unfold AaD;simp only[T.dm,QR];rw[AT,AT aA];intro q;apply h;have:t.place[Cf t.place j]? = Aa j:=by simpa using q
  obtain⟨U,Y⟩:=Cq.mp this;rw[<- Y];simp
def JM (h:Rs xs){j:Aj}(O:j ∉ xs.toList):Rs (DL xs (Cf xs j) j):=by
 have b:=jQ h j;unfold Rs;rw[Se];have Y:∀ (i:Aj) (x:Aj),xs.toList[i]? = Aa x->(i<Cf xs j->x<j)/\(Cf xs j<=i->j<x):=λi x e=>by
  have G:xs[i]? = Aa x:=by rw[<- Bw];exact e
  refine⟨λq=>b.lo _ _ q G,λq=>?_⟩;have C:=b.hi _ _ q G;have:x≠j:=by rintro rfl;exact O (Cb e)
  lia
 have U:∀ x∈xs.toList.take (Cf xs j),x<j:=λx Q=>by obtain⟨i,J,e⟩:=Ef.mp Q;rw[Fo] at J;rw[List.getElem_take] at e;exact(Y i x (by rw[Bd ak,e])).1 ak
 have N:∀ x∈xs.toList.drop (Cf xs j),j<x:=λx Q=>by obtain⟨i,J,e⟩:=Ef.mp Q;rw[Hm] at J;rw[List.getElem_drop] at e;exact(Y (Cf xs j+i) x (by rw[Bd ak,e])).2 ak
 rw[Vm,Fe];refine⟨List.Pairwise.take h,⟨N,List.Pairwise.drop h⟩,λx Q y hy=>?_⟩;rcases Ay.mp hy with rfl|hy
 .exact U x Q
 .exact Pi (U x Q) (N y hy)
def l6 {J:Type}(xs:Br J){p:Aj}(hp:p<=xs.size)(x:J)(i:Aj):(DL xs p x)[i]? = if i<p then xs[i]? else if i=p then Aa x else xs[i-1]?:=by
 rw[<- Bw,Se];have U:(xs.toList.take p).length=p:=by simp;lia
 by_cases Q:i<p
 .rw[Au Q,Co ak,Sd Q,Bw]
 .rw[AT Q,Eg ak,U];by_cases Y:i=p
  .subst Y;simp
  .rw[AT Y];obtain⟨k,G⟩:∃ k,i-p=k+1:=⟨i-p-1,by lia⟩
   rw[G,Nb,Wz,Bw];congr 1;lia
def gE {J:Type}(xs:Br J)(p:Aj)(x:J):(DL xs p x).size=xs.size+1:=by have:=(Ku xs p x).length_eq;simpa using this
def IT (T:Tb t){j:Aj}(Q:j ∉ t.place.toList):Tb (t.put j).1:=by refine⟨JM T.rs Q,?_⟩;show (if Xk t.dummies j then _ else t.dummies)=#[];rw[T.dm,QR];rfl
open PySem.SetTable (Probe leap runEnd turns bits)
noncomputable def qw (mask:Aj)(p:Nn):Nn:=if p.more>0 then { p with j:=p.j+1,more:=p.more-1 } else { p with j:=(leap mask p.i p.perturb).1,more:=He mask (leap mask p.i p.perturb).1-(leap mask p.i p.perturb).1,i:=(leap mask p.i p.perturb).1,perturb:=(leap mask p.i p.perturb).2 }
def RO (t:Fq)(p:Nn):t.advance p=qw t.mask p:=Z
def it (mask:Aj):Aj->Nn->Nn
 |0,p=>p
 |n+1,p=>it mask n (qw mask p)
theorem mO (mask:Aj):∀ (n:Aj) (p:Nn),it mask (n+1) p=qw mask (it mask n p)
 |0,p=>rfl
 |n+1,p=>mO mask n (qw mask p)
theorem l9 (mask:Aj):∀ (m n:Aj) (p:Nn),it mask (m+n) p=it mask n (it mask m p)
 |0,n,p=>by rw[Tj];rfl
 |m+1,n,p=>by rw[Qn];exact l9 mask m n (qw mask p)
noncomputable def rs (mask i Q:Aj):Nn:={ j:=i,more:=He mask i-i,i,perturb:=Q,dummy:=Zt }
def st (mask:Aj)(h:Aq):Nn:=rs mask (bits h % (mask+1)) (bits h)
theorem fP (mask i Q:Aj):∀ k,k<=He mask i-i->it mask k (rs mask i Q)={ j:=i+k,more:=He mask i-i-k,i,perturb:=Q,dummy:=Zt }
 |0,_=>rfl
 |k+1,Y=>by rw[mO,fP mask i Q k ak];unfold qw;rw[Au (by show He mask i-i-k>0;lia)];simp only[Probe.mk.injEq,and_true,true_and];lia
def zb (mask i Q:Aj):it mask (He mask i-i+1) (rs mask i Q)=rs mask (leap mask i Q).1 (leap mask i Q).2:=by rw[mO,fP mask i Q _ (Ax _)];unfold qw;rw[AT (by show ¬ (He mask i-i-(He mask i-i)>0);lia)];rfl
def O7 (mask i:Aj):He mask i-i+1<=10:=by unfold He;split <;> lia
def lp (mask:Aj):Aj->Aj × Aj->Aj × Aj
 |0,q=>q
 |n+1,q=>lp mask n (leap mask q.1 q.2)
theorem UJ (mask:Aj):∀ (m n:Aj) (q:Aj × Aj),lp mask (m+n) q=lp mask n (lp mask m q)
 |0,n,p=>by rw[Tj];rfl
 |m+1,n,p=>by rw[Qn];exact UJ mask m n _
theorem FY (mask:Aj):∀ (n i Q:Aj),∃ k,k<=10*n/\it mask k (rs mask i Q)=rs mask (lp mask n (i,Q)).1 (lp mask n (i,Q)).2
 |0,i,Q=>⟨0,by lia,rfl⟩
 |n+1,i,Q=>by obtain⟨k,Y,e⟩:=FY mask n (leap mask i Q).1 (leap mask i Q).2;refine⟨(He mask i-i+1)+k,by have:=O7 mask i;lia,?_⟩;rw[l9,zb,e];rfl
theorem ZK (mask:Aj):∀ (n i Q:Aj),(lp mask n (i,Q)).2=Q/32 ^ n
 |0,i,Q=>by simp[lp]
 |n+1,i,Q=>by show (lp mask n ((leap mask i Q).1,Q/32)).2=_;rw[ZK mask n _ (Q/32),Nat.div_div_eq_div_mul,<- Nat.pow_succ']
def sE (mask i Q:Aj):(leap mask i Q).1<=mask:=Ld (Pq _ (Kf _))
theorem M3 (mask:Aj):∀ (n i Q:Aj),i<=mask->(lp mask n (i,Q)).1<=mask
 |0,i,Q,h=>h
 |n+1,i,Q,h=>M3 mask n _ _ (sE mask i Q)
def Q5 (h:Aq):bits h<2 ^ 64:=by unfold bits;have Q:(0:Aq)<=h % 2 ^ 64:=Mj _ aC;have Y:h % 2 ^ 64<(2 ^ 64:Aq):=Kj _ aC;lia
def uq (mask:Aj):Aj->Aj->Aj
 |0,i=>i
 |n+1,i=>uq mask n ((i*5+1) % (mask+1))
theorem mH (mask:Aj):∀ (m n i:Aj),uq mask (m+n) i=uq mask n (uq mask m i)
 |0,n,p=>by rw[Tj];rfl
 |m+1,n,p=>by rw[Qn];exact mH mask m n _
theorem UK (mask:Aj):∀ (n i:Aj),(lp mask n (i,0)).1=uq mask n i
 |0,i=>rfl
 |n+1,i=>by
  show (lp mask n (leap mask i 0)).1=_;have:leap mask i 0=((i*5+1) % (mask+1),0):=by simp[leap]
  rw[this,UK mask n];rfl
def uh (mask:Aj):Prop:=mask=7\/mask=31\/mask=127\/mask=511\/mask=2047
noncomputable def yu (mask:Aj):Aj->Aj->Aj->Aj
 |0,_,Q=>Q
 |n+1,i,Q=>yu mask n ((i*5+1) % (mask+1)) (Q ||| 1 <<< i)
def VA (mask:Aj):Ar:=yu mask (mask+1) 0 0 == 2 ^ (mask+1)-1&&uq mask (mask+1) 0 == 0
def VB (h:uh mask):VA mask=true:=by rcases h with rfl|rfl|rfl|rfl|rfl <;> decide +kernel
theorem ZV (mask e:Aj):∀ (n i ao:Aj),(yu mask n i ao).testBit e=Vq->ao.testBit e=Vq\/∃ m,m<n/\uq mask m i=e
 |0,i,ao,h=>.inl h
 |n+1,i,ao,h=>by
  rcases ZV mask e n _ _ h with q|⟨m,Q,q⟩
  .rw[Nat.testBit_or,Ow] at q;rcases q with q|q
   .exact .inl q
   .rw[Nat.one_shiftLeft,Nat.testBit_two_pow,Az] at q;exact .inr ⟨0,by lia,q⟩
  .exact .inr ⟨m+1,by lia,q⟩
def G8 (h:uh mask){i e:Aj}(O:i<=mask)(Y:e<=mask):∃ n,n<=mask/\uq mask n i=e:=by
 have a:=VB h;unfold VA at a;rw[Av] at a;obtain⟨Q,G⟩:=a;have Q:yu mask (mask+1) 0 0=2 ^ (mask+1)-1:=by simpa using Q
 have g:∀ e,e<=mask->∃ n,n<=mask/\uq mask n 0=e:=λe Y=>by
  have q:(yu mask (mask+1) 0 0).testBit e=true:=by rw[Q,Nat.testBit_two_pow_sub_one];simp;lia
  rcases ZV mask e _ _ _ q with q|⟨n,N,q⟩
  .simp at q
  .exact⟨n,by lia,q⟩
 have U:uq mask (mask+1) 0=0:=by simpa using G
 obtain⟨m,C,em⟩:=g i O;obtain⟨n,N,J⟩:=g e Y;by_cases q:m<=n
 .refine⟨n-m,by lia,?_⟩;rw[<- em,<- mH,show m+(n-m)=n by lia];exact J
 .refine⟨n+(mask+1)-m,by lia,?_⟩;rw[<- em,<- mH,show m+(n+(mask+1)-m)=(mask+1)+n by lia,mH,U];exact J
def iF (h:uh mask){i Q e:Aj}(U:i<=mask)(hp:Q<2 ^ 64)(J:e<=mask):∃ n,n<=mask+13/\(lp mask n (i,Q)).1=e:=by
 have Y:(lp mask 13 (i,Q)).2=0:=by rw[ZK];apply Nat.div_eq_of_lt;exact Pi hp aC
 obtain⟨n,G,q⟩:=G8 h (M3 mask 13 i Q U) J;refine⟨13+n,by lia,?_⟩;rw[UJ];have:lp mask 13 (i,Q)=((lp mask 13 (i,Q)).1,0):=by rw[<- Y]
 rw[this,UK];exact q
def PD (h:uh mask)(hs:Aq){e:Aj}(Q:e<=mask):∃ n,n<10*turns mask/\(it mask n (st mask hs)).j=e:=by obtain⟨n,U,q⟩:=iF h (i:=bits hs % (mask+1)) (Ld (Pq _ (Kf _))) (Q5 hs) Q;obtain⟨k,J,Y⟩:=FY mask n (bits hs % (mask+1)) (bits hs);refine⟨k,by unfold turns;lia,?_⟩;show (it mask k (rs mask _ _)).j=e;rw[Y];exact q
theorem n6 (mask:Aj):∀ (n:Aj) (p:Nn),(it mask n p).dummy=p.dummy
 |0,p=>rfl
 |n+1,p=>by show (it mask n (qw mask p)).dummy=_;rw[n6 mask n];unfold qw;split <;> rfl
def tz (t:Fq)(p:Nn)(n:Aj):Prop:=∀ m,m<n->(it t.mask m p).j∈t.place.toList
inductive Meets (t:Fq)(hashAt:Aj->Aq)(h:Aq)(p:Nn)(fuel:Aj):Al SetTable.Met->Prop
 |emp (n:Aj) (hn:n<fuel) (w:tz t p n) (e:(it t.mask n p).j ∉ t.place.toList) (q:∀ m i,m<n->t.place[i]? = Aa (it t.mask m p).j->hashAt i≠h):Meets t hashAt h p fuel (Aa (.empty (it t.mask n p).j Zt))
 |cand (n i:Aj) (hn:n<fuel) (w:tz t p n) (e:t.place[i]? = Aa (it t.mask n p).j) (hh:hashAt i=h) (q:∀ m i,m<n->t.place[i]? = Aa (it t.mask m p).j->hashAt i≠h):Meets t hashAt h p fuel (Aa (.candidate (it t.mask n p).j i (it t.mask (n+1) p)))
def JL (h:Rs xs){a b x:Aj}(Q:xs[a]? = Aa x)(Y:xs[b]? = Aa x):a=b:=by rw[<- tO h Q,tO h Y]
set_option tactic.hygienic true in
theorem tW (T:Tb t)(hashAt:Aj->Aq)(h:Aq):∀ (fuel:Aj) (p:Nn),p.dummy=Zt->(∃ n,n<fuel/\(it t.mask n p).j ∉ t.place.toList)->Meets t hashAt h p fuel (No t hashAt h fuel p)
 |0,p,_,⟨n,y,_⟩=>by lia
 |fuel+1,p,M,⟨n,y,Q⟩=>by
  unfold No;rcases YM T p.j with⟨i,e,G⟩|⟨e,q⟩
  .rw[e];simp only;split
   .rename_i N;exact Meets.cand 0 i ak (λm U=>by lia) G (by simpa using N) λm i U=>by lia
   .rename_i N;have B:hashAt i≠h:=by simpa using N
    have u:n≠0:=by rintro rfl;exact Q (Cb (by rw[Bw];exact G))
    obtain⟨L,rfl⟩:∃ L,n=L+1:=⟨n-1,by lia⟩
    have H:=tW T hashAt h fuel (qw t.mask p) (by rw[<- M];exact n6 t.mask 1 p) ⟨L,by lia,Q⟩;rw[RO];have J:p.j∈t.place.toList:=Cb (by rw[Bw];exact G);have up:∀ {k:Aj},tz t (qw t.mask p) k->tz t p (k+1):=λ{k} w m U=>by
     cases m with
     |zero=>exact J
     |succ m=>exact w m ak
    have Y:∀ {k:Aj},(∀ m i,m<k->t.place[i]? = Aa (it t.mask m (qw t.mask p)).j->hashAt i≠h)->∀ m i,m<k+1->t.place[i]? = Aa (it t.mask m p).j->hashAt i≠h:=λ{k} q m E U A=>by
     cases m with
     |zero=>rw[JL T.rs A G];exact B
     |succ m=>exact q m E ak A
    generalize o:No t hashAt h fuel (qw t.mask p)=r at H;cases H with
    |emp k z w O C=>exact Meets.emp (p:=p) (k+1) ak (up w) O (Y C)
    |cand k E z w O I C=>exact Meets.cand (p:=p) (k+1) E ak (up w) O I (Y C)
  .rw[e];simp only[M];exact Meets.emp (p:=p) 0 ak (λm U=>by lia) q λm i U=>by lia
end _S
namespace _S
open PySem.SetTable (Probe leap runEnd turns bits)
variable {us:Ab Aj}{mask:Aj}{owner:Br (Al Aj)}
structure wg (mask:Aj)(owner:Br (Al Aj))(us:Ab Aj):Prop where
 size:owner.size=mask+1
 nd:us.Nodup
 le:∀ u∈us,u<=mask
 at':∀ j k,j<=mask->(owner.getD j (Aa 0)=Aa k↔us[k]? = Aa j)
def r8 {i:Aj}(Q:i<=mask):He mask i<=mask:=by unfold He;split <;> lia
def r9 (mask i:Aj):i<=He mask i:=by unfold He;split <;> lia
def wg.none (O:wg mask owner us){j:Aj}(Q:j<=mask):(owner.getD j (Aa 0)).isNone=Vq↔j ∉ us:=by
 constructor
 .intro h J;obtain⟨k,Y,e⟩:=Ef.mp J;have:=(O.at' j k Q).mpr (by rw[Bd Y,e]);rw[this] at h;cases h
 .intro h;cases q:owner.getD j (Aa 0) with
  |none=>rfl
  |some k=>exact absurd (Cb ((O.at' j k Q).mp q)) h
theorem eA (O:wg mask owner us):∀ (fuel i Q:Aj),i<=mask->(∃ L,L<fuel/\(lp mask L (i,Q)).1 ∉ us) ->
  ∃ n,Im mask owner fuel i Q=Aa (it mask n (rs mask i Q)).j/\(it mask n (rs mask i Q)).j<=mask/\(it mask n (rs mask i Q)).j ∉ us/\∀ m,m<n->(it mask m (rs mask i Q)).j∈us
 |0,i,Q,E,⟨L,l,_⟩=>by lia
 |fuel+1,i,Q,E,⟨L,l,J⟩=>by
  unfold Im;have g:=r8 E;have u:=r9 mask i;cases C:(Ch (He mask i+1-i)).find? λk=>(owner.getD (i+k) (Aa 0)).isNone with
  |some k =>
   obtain⟨I,z,o⟩:=List.find?_range_eq_some.mp C;have B:k<He mask i+1-i:=Fg.mp z;have G:(it mask k (rs mask i Q)).j=i+k:=by rw[fP mask i Q k ak]
   refine⟨k,?_,?_,?_,λm T=>?_⟩
   .rw[G]
   .rw[G];lia
   .rw[G];exact(O.none ak).mp I
   .rw[fP mask i Q m ak];have:=o m T;apply Fa;intro q;rw[(O.none (show i+m<=mask by lia)).mpr q] at this;cases this
  |none =>
   have Y:∀ k,k<He mask i+1-i->i+k∈us:=λk B=>by have:=List.find?_eq_none.mp C k (Fg.mpr B);apply Fa;intro q;exact this ((O.none (show i+k<=mask by lia)).mpr q)
   have H:L≠0:=by rintro rfl;exact J (Y 0 ak)
   obtain⟨U,rfl⟩:∃ U,L=U+1:=⟨L-1,by lia⟩
   obtain⟨n,w,A,M,p⟩:=eA O fuel (leap mask i Q).1 (leap mask i Q).2 (sE mask i Q) ⟨U,by lia,J⟩;have e:∀ m,it mask (He mask i-i+1+m) (rs mask i Q)=it mask m (rs mask (leap mask i Q).1 (leap mask i Q).2):=λm=>by rw[l9,zb]
   refine⟨He mask i-i+1+n,?_,?_,?_,λm T=>?_⟩
   .rw[e];exact w
   .rw[e];exact A
   .rw[e];exact M
   .by_cases y:m<He mask i-i+1
    .rw[fP mask i Q m ak];exact Y m ak
    .obtain⟨N,rfl⟩:∃ N,m=He mask i-i+1+N:=⟨m-(He mask i-i+1),by lia⟩
     rw[e];exact p N ak
def gap (h:us.length<=mask):∃ e,e<=mask/\e ∉ us:=by
 apply Fa;intro q;have:Ch (mask+1) ⊆ us:=λe Q=>by apply Fa;intro r;exact q ⟨e,by have:=Fg.mp Q;lia,r⟩
 have:=List.Nodup.length_le_of_subset Zm this;rw[Et] at this;lia
def DC (mask:Aj):wg mask (Array.replicate (mask+1) Zt) []:=by
 refine⟨by simp,List.nodup_nil,λu Q=>by simp at Q,λj k Y=>?_⟩;have:j<mask+1:=by lia
 simp[Jb,this]
def BB (O:wg mask owner us){j:Aj}(H:j<=mask)(C:j ∉ us):wg mask (owner.setIfInBounds j (Aa us.length)) (us++[j]):=by
 refine⟨by simp[O.size],?_,λu L=>?_,λi k I=>?_⟩
 .rw[Rk];refine⟨O.nd,by simp,λa B b N=>?_⟩;simp at N;rintro rfl;subst N;exact C B
 .rcases Cg.mp L with h|h
  .exact O.le u h
  .simp at h;lia
 .have T:=O.size;have Y:i<owner.size:=by lia
  have E:∀ {k},us[k]? = Aa i->k<us.length:=λq=>(Bv.mp q).1;by_cases Q:j=i
  .subst Q;have G:(owner.setIfInBounds j (Aa us.length)).getD j (Aa 0)=Aa us.length:=by simp[Jb,Y]
   rw[G];constructor
   .intro q;cases q;simp
   .intro q;by_cases U:k<us.length
    .rw[Co U] at q;exact absurd (Cb q) C
    .rw[Eg ak] at q;have:k-us.length=0:=by
      cases J:k-us.length with
      |zero=>rfl
      |succ z=>rw[J] at q;simp at q
     congr 1;lia
  .have G:(owner.setIfInBounds j (Aa us.length)).getD i (Aa 0)=owner.getD i (Aa 0):=by
    simp[Jb,Y,Array.getElem_setIfInBounds,Q]
   rw[G,O.at' i k I];constructor
   .intro q;rw[Co (E q)];exact q
   .intro q;by_cases U:k<us.length
    .rw[Co U] at q;exact q
    .rw[Eg ak] at q;cases J:k-us.length with
     |zero=>rw[J] at q;simp at q;exact absurd q Q
     |succ z=>rw[J] at q;simp at q
def XU (mask:Aj)(us:Ab Aj)(hs:Ab Aq):Prop:=∀ (k:Aj) (h:Aq),hs[k]? = Aa h->∃ n,us[k]? = Aa (it mask n (st mask h)).j/\∀ m,m<n->(it mask m (st mask h)).j∈us
theorem rY (H:uh mask):∀ (hs done:Ab Aq) (owner:Br (Al Aj)) (us:Ab Aj),wg mask owner us->us.length=done.length->done.length+hs.length<=mask->XU mask us done ->
  ∃ Q Y,hs.foldl (λao h=>do
   let (owner,k) <- ao;let j <- Im mask owner (turns mask) (bits h % (mask+1)) (bits h)
   pure (owner.setIfInBounds j (Aa k),k+1)) (Aa (owner,us.length))=Aa (Q,Y.length)/\wg mask Q Y/\Y.length=done.length+hs.length/\XU mask Y (done++hs)
 |[],done,owner,us,O,G,_,E=>⟨owner,us,rfl,O,by simpa using G,by simpa using E⟩
 |h::hs,done,owner,us,O,G,U,E=>by
  rw[Aw] at U;obtain⟨e,f,B⟩:=gap (mask:=mask) (us:=us) ak;obtain⟨L,t,C⟩:=iF H (i:=bits h % (mask+1)) (Ld (Pq _ (Kf _))) (Q5 h) f;obtain⟨n,q,M,w,d⟩:=eA O (turns mask) (bits h % (mask+1)) (bits h) (Ld (Pq _ (Kf _))) ⟨L,by unfold turns;lia,by rw[C];exact B⟩;have o:=BB O M w;have T:XU mask (us++[(it mask n (rs mask (bits h % (mask+1)) (bits h))).j]) (done++[h]):=λk y J=>by
   by_cases r:k<done.length
   .rw[Co r] at J;obtain⟨v,u,g⟩:=E k y J;exact⟨v,by rw[Co ak];exact u,λm I=>Ds _ (g m I)⟩
   .rw[Eg ak] at J;cases N:k-done.length with
    |succ z=>rw[N] at J;simp at J
    |zero =>
     rw[N] at J;simp at J;subst J;refine⟨n,?_,λm I=>Ds _ (d m I)⟩;rw[Eg ak,G,N];rfl
  obtain⟨Q,Y,A,l,p,s⟩:=rY H hs (done++[h]) _ _ o (by simp[G]) (by simp;lia) T;refine⟨Q,Y,?_,l,by simpa [Nat.add_assoc,Ph 1] using p,by simpa using s⟩;rw[T0];rw[Bj] at A;have c:(do
   let (owner,k) <- Aa (owner,us.length);let j <- Im mask owner (turns mask) (bits h % (mask+1)) (bits h)
   pure (owner.setIfInBounds j (Aa k),k+1))=Aa (owner.setIfInBounds (it mask n (rs mask (bits h % (mask+1)) (bits h))).j (Aa us.length),us.length+1):=by
   show (Im mask owner (turns mask) (bits h % (mask+1)) (bits h)).bind _=_;rw[q];rfl
  rw[c];exact A
def c5 (N:uh mask)(hs:Br Aq)(Y:hs.size<=mask):∃ owner us,Yb mask hs=Aa owner/\wg mask owner us/\us.length=hs.size/\XU mask us hs.toList:=by obtain⟨Q,J,U,O,G,C⟩:=rY N hs.toList [] _ [] (DC mask) rfl (by simpa using Y) (λk h e=>by simp at e);refine⟨Q,J,?_,O,by simpa using G,by simpa using C⟩;unfold Yb;rw[<- Array.foldl_toList];have:(([]:Ab Aj).length)=0:=Z;rw[this] at U;erw [U];rfl
structure Laid (mask:Aj)(hs:Br Aq)(t:Fq)(z9:Br Aj):Prop where
 msk:t.mask=mask
 tb:Tb t
 size:t.place.size=hs.size
 le:∀ x∈t.place.toList,x<=mask
 perm:z9.toList.Perm (Ch hs.size)
 way:∀ (i k:Aj) (h:Aq),z9[i]? = Aa k->hs[k]? = Aa h->∃ n,t.place[i]? = Aa (it mask n (st mask h)).j/\tz t (st mask h) n
def UA (hM:uh mask)(hs:Br Aq)(C:hs.size<=mask)(finger moves:Aj)(led plain:Ar) :
  ∃ t z9,Wh mask finger moves led plain hs=Aa (t,z9)/\t.led=led/\t.plain=plain/\Laid mask hs t z9:=by
 obtain⟨owner,us,e,O,hl,hL⟩:=c5 hM hs C;have u:∀ j,j<=mask->owner.getD j Zt=owner.getD j (Aa 0):=λj E=>by
  have:j<owner.size:=by rw[O.size];lia
  simp[Jb,this]
 generalize N:((Ch (mask+1)).filterMap λj=>(owner.getD j Zt).map (j,·))=live;have mem:∀ (j k:Aj),(j,k)∈live↔us[k]? = Aa j:=λj k=>by
  rw[<- N,Iu];constructor
  .rintro⟨L,H,q⟩;have U:L<=mask:=by have:=Fg.mp H;lia
   rw[u L U] at q;cases Y:owner.getD L (Aa 0) with
   |none=>rw[Y] at q;cases q
   |some p =>
    rw[Y] at q;simp at q;obtain⟨rfl,rfl⟩:=q;exact(O.at' _ _ U).mp Y
  .intro q;have E:j<=mask:=O.le j (Cb q);refine⟨j,Fg.mpr ak,?_⟩;rw[u j E,(O.at' j k E).mpr q];rfl
 have B:live.map (·.1)=(Ch (mask+1)).filter λj=>(owner.getD j Zt).isSome:=by
  rw[<- N,List.map_filterMap];generalize owner.getD=f
  induction Ch (mask+1) with
  |nil=>rfl
  |cons a l w =>
   rw[Gw,Zn];cases Y:f a Zt with
   |none=>simpa using w
   |some k=>simpa using w
 have z:(live.map (·.1)).Pairwise (· < ·):=by rw[B];exact List.Pairwise.filter _ List.pairwise_lt_range
 have M:(live.map (·.2)).Nodup:=by unfold List.Nodup;rw[Eh];have G:=Eh.mp z;refine Sf (λ{a b} ha hb zc=>?_) G;intro q;have r:=(mem a.1 a.2).mp ha;have o:=(mem b.1 b.2).mp hb;rw[<- q,r] at o;simp at o;lia
 have g:(live.map (·.2)).Perm (Ch hs.size):=by
  rw[List.perm_ext_iff_of_nodup M Zm];intro k;rw[Cj,Fg,<- hl];constructor
  .rintro⟨⟨j,p⟩,G,rfl⟩;exact(Bv.mp ((mem j p).mp G)).1
  .intro A;exact⟨(us[k],k),(mem _ _).mpr (Bd A),Z⟩
 have J:∀ j,j∈live.map (·.1)↔j∈us:=λj=>by
  rw[Cj];constructor
  .rintro⟨⟨L,k⟩,G,rfl⟩;exact Cb ((mem _ _).mp G)
  .intro G;obtain⟨k,A,e⟩:=Ef.mp G;exact⟨(j,k),(mem _ _).mpr (by rw[Bd A,e]),rfl⟩
 refine⟨{ mask,place:=(live.map (·.1)).toArray,dummies:=#[],finger,led,moves,plain },(live.map (·.2)).toArray,?_,Z,Z,Z,⟨?_,Z⟩,?_,λx c=>?_,?_,λi k h d v=>?_⟩
 .unfold Wh;rw[e,<- N];rfl
 .exact z
 .have:=g.length_eq;simp at this ⊢;exact this
 .exact O.le x ((J x).mp c)
 .exact g
 .have Q:(live.map (·.2))[i]? = Aa k:=by simpa using d
  rw[Es] at Q;cases Y:live[i]? with
  |none=>rw[Y] at Q;cases Q
  |some y =>
   rw[Y] at Q;simp at Q;have T:=Cb Y;have hu:=(mem y.1 y.2).mp T;obtain⟨n,I,s⟩:=hL k h (by rw[Bw];exact v);rw[<- Q] at I;rw[hu] at I;refine⟨n,?_,λm hm=>?_⟩
   .rw[<- I];simp[Y]
   .have:=(J _).mpr (s m hm);simpa using this
def SR:SetTable.relaid t hs w=Wh (Ff w-1) t.finger (t.movedTo (Ff w-1)) t.led t.plain hs:=Z
end _S
namespace _S
open PySem.SetTable (Probe leap runEnd turns bits)
variable {t:Fq}
structure im {K:Type}(is:K->Ac->Prop)(hash:K->Aq)(es:Br (Aq × Ac))(seen:Ab K):Prop where
 good:∀ e∈es.toList,∃ k,e.1=hash k/\is k e.2
 nd:es.toList.Pairwise λa b=>∀ k,is k a.2->¬ is k b.2
 mem:∀ k,k∈seen↔∃ e∈es.toList,is k e.2
section
variable {K:Type}{is:K->Ac->Prop}{hash:K->Aq}{es oo:Br (Aq × Ac)}{seen:Ab K}
def im.perm (Q:im is hash es seen)(p:oo.toList.Perm es.toList):im is hash oo seen:=
 ⟨λe Y=>Q.good e (p.mem_iff.mp Y),(p.pairwise_iff λ{x y} h k U J=>h k J U).mpr Q.nd,λk=>(Q.mem k).trans ⟨λ⟨e,Y,q⟩=>⟨e,p.mem_iff.mpr Y,q⟩,λ⟨e,Y,q⟩=>⟨e,p.mem_iff.mp Y,q⟩⟩⟩
def im.nil:im is hash #[] []:=⟨λe Q=>by simp at Q,by simp,λk=>by simp⟩
def im.push (Q:im is hash es seen)(J:∀ {k Y:K} {v:Ac},is k v->is Y v->k=Y){k:K}{x:Ac}(U:is k x)(B:k ∉ seen)(p:oo.toList.Perm (es.toList++[(hash k,x)])):im is hash oo (k::seen):=by
 refine im.perm (es:=es.push (hash k,x)) ⟨λe he=>?_,?_,λY=>?_⟩ (by simpa using p)
 .rw[Jk] at he;rcases Cg.mp he with he|he
  .exact Q.good e he
  .simp at he;subst he;exact⟨k,rfl,U⟩
 .rw[Jk,Vm];refine⟨Q.nd,by simp,λa O b G Y N C=>?_⟩;simp at G;subst G;have:=J U C;subst this;exact B ((Q.mem k).mpr ⟨a,O,N⟩)
 .rw[Ay,Q.mem,Jk];constructor
  .rintro (rfl|⟨e,he,q⟩)
   .exact⟨(hash Y,x),by simp,U⟩
   .exact⟨e,Ds _ he,q⟩
  .rintro⟨e,he,q⟩;rcases Cg.mp he with he|he
   .exact .inr ⟨e,he,q⟩
   .simp at he;subst he;exact .inl (J q U)
def im.again (Q:im is hash es seen){k:K}(Y:k∈seen):im is hash es (k::seen):=
 ⟨Q.good,Q.nd,λJ=>by rw[Ay,Q.mem];exact⟨λh=>h.elim (λe=>by subst e;exact(Q.mem _).mp Y) id,.inr⟩⟩
end
section
open Classical in
theorem nB {K:Type}{is:K->Ac->Prop}:∀ (L:Ab (Aq × Ac)) (U:Ab K),L.Pairwise (λa b=>∀ k,is k a.2->¬ is k b.2)->(∀ e∈L,∃ k∈U,is k e.2)->L.length<=U.length
 |[],U,_,_=>Fi _
 |e::L,U,J,h=>by
  rw[Fe] at J;obtain⟨G,Q,O⟩:=h e aA;have C:=nB L (U.erase G) J.2 λN Y=>by obtain⟨k,B,q⟩:=h N (by simp[Y]);have:k≠G:=λz=>J.1 N Y G O (z▸q);exact⟨k,(Vn this).mpr B,q⟩
  rw[Sg Q] at C;have:0<U.length:=Uf Q;rw[Aw];lia
open Classical in
def im.few {K:Type}{is:K->Ac->Prop}{hash:K->Aq}{seen U:Ab K}{k:K}(Q:im is hash es seen)(C:∀ Y∈seen,Y∈U)(O:k∈U)(B:k ∉ seen):es.size<U.length:=by
 have:=nB es.toList (U.erase k) Q.nd λe G=>by obtain⟨Y,_,q⟩:=Q.good e G;have N:=(Q.mem Y).mpr ⟨e,G,q⟩;have J:Y≠k:=λz=>B (z▸N);exact⟨Y,(Vn J).mpr (C Y N),q⟩
 rw[Sg O,Do] at this;have:0<U.length:=Uf O;lia
end
structure kq (t:Fq)(es:Br (Aq × Ac)):Prop where
 tb:Tb t
 msk:uh t.mask
 size:t.place.size=es.size
 le:∀ x∈t.place.toList,x<=t.mask
 few:es.size*5<t.mask*3
 way:∀ (i:Aj) (e:Aq × Ac),es[i]? = Aa e->∃ n,t.place[i]? = Aa (it t.mask n (st t.mask e.1)).j/\tz t (st t.mask e.1) n
 plain:t.plain=Vq
def kq.fits (T:kq t es):t.fits es.size=true:=by
 have Q:=T.size;have Y:=T.few;have J:t.fill=es.size:=by unfold Rr;rw[T.tb.dm,Q];rfl
 unfold AaE;rw[J,Q];rcases T.msk with h|h|h|h|h <;> rw[h] at Y ⊢ <;> simp <;> lia
def kq.gap (T:kq t es):∃ e,e<=t.mask/\e ∉ t.place.toList:=by apply _S.gap;rw[Do,T.size];have Q:=T.few;rcases T.msk with h|h|h|h|h <;> rw[h] at Q ⊢ <;> lia
def kq.odd (T:kq t es):t.gaveWay=false:=by unfold SetTable.gaveWay;rcases T.msk with h|h|h|h|h <;> rw[h] <;> rfl
def kq.put (T:kq t es){h:Aq}{x:Ac}{n:Aj}(w:tz t (st t.mask h) n)(H:(it t.mask n (st t.mask h)).j ∉ t.place.toList)(Y:(it t.mask n (st t.mask h)).j<=t.mask) :
  let oo:=DL es (t.put (it t.mask n (st t.mask h)).j).2 (h,x)
  Tb (t.put (it t.mask n (st t.mask h)).j).1/\(t.put (it t.mask n (st t.mask h)).j).1.place.size=oo.size/\(∀ y∈(t.put (it t.mask n (st t.mask h)).j).1.place.toList,y<=t.mask) /\
  (∀ (i:Aj) (e:Aq × Ac),oo[i]? = Aa e->∃ m,(t.put (it t.mask n (st t.mask h)).j).1.place[i]? = Aa (it t.mask m (st t.mask e.1)).j/\tz (t.put (it t.mask n (st t.mask h)).j).1 (st t.mask e.1) m):=by
 generalize I:(it t.mask n (st t.mask h)).j=j at *;have O:∀ y,y∈(t.put j).1.place.toList↔y=j\/y∈t.place.toList:=λy=>by show y∈(DL t.place (Cf t.place j) j).toList↔_;rw[(Ku _ _ _).mem_iff];simp[or_comm]
 have C:Cf t.place j<=t.place.size:=(jQ T.tb.rs j).le;have G:∀ {p:Nn} {m:Aj},tz t p m->tz (t.put j).1 p m:=λ{p m} w q L=>(O _).mpr (.inr (w q L));refine⟨IT T.tb H,?_,λy hy=>?_,λi e E=>?_⟩
 .show (DL t.place _ j).size=(DL es _ (h,x)).size;rw[gE,gE,T.size]
 .rcases (O y).mp hy with rfl|hy
  .exact Y
  .exact T.le y hy
 .have Q:(if i<Cf t.place j then es[i]? else if i=Cf t.place j then Aa (h,x) else es[i-1]?)=Aa e:=by
   rw[<- l6 es (by rw[<- T.size];exact C)];exact E
  have pl:(t.put j).1.place[i]? = if i<Cf t.place j then t.place[i]? else if i=Cf t.place j then Aa j else t.place[i-1]?:=l6 t.place C j i
  rw[pl];by_cases N:i<Cf t.place j
  .rw[Au N] at Q ⊢;obtain⟨m,U,J⟩:=T.way i e Q;exact⟨m,U,G J⟩
  .rw[AT N] at Q ⊢;by_cases B:i=Cf t.place j
   .rw[Au B] at Q ⊢;cases Q;exact⟨n,by rw[I],G w⟩
   .rw[AT B] at Q ⊢;obtain⟨m,U,J⟩:=T.way _ e Q;exact⟨m,U,G J⟩
theorem FX {mask:Aj}(p:Nn)(hp:p.j+p.more<=mask):∀ n,(it mask n p).j+(it mask n p).more<=mask
 |0=>hp
 |n+1=>by
  rw[mO];have J:=FX p hp n;unfold qw;split
  .show (it mask n p).j+1+((it mask n p).more-1)<=mask;lia
  .show (leap mask _ _).1+(He mask (leap mask _ _).1-(leap mask _ _).1)<=mask;have Q:=r8 (sE mask (it mask n p).i (it mask n p).perturb);have Y:=r9 mask (leap mask (it mask n p).i (it mask n p).perturb).1;lia
def qBE (mask:Aj)(h:Aq)(n:Aj):(it mask n (st mask h)).j<=mask:=by
 have Q:bits h % (mask+1)<=mask:=Ld (Pq _ (Kf _));have:=FX (mask:=mask) (st mask h) (by
  show bits h % (mask+1)+(He mask (bits h % (mask+1))-bits h % (mask+1))<=mask;have Y:=r8 Q;have J:=r9 mask (bits h % (mask+1));lia) n
 lia
def oZ {es:Br (Aq × Ac)}(d:uh t.mask)(hp:t.plain=Vq)(y:t.place.size=es.size)(m:es.size<=1001)(H:t.tooFull=Vq)(f:t.dummies=#[])(g:(es.size-1)*5<t.mask*3)(n:0<es.size) :
  Ff (Hv es.size)<=2048/\∃ t' z9,t.relaid (es.map (·.1)) (Hv es.size)=Aa (t',z9)/\t'.led=t.led/\(z9.filterMap (es[·]?)).toList.Perm es.toList/\kq t' (z9.filterMap (es[·]?))/\z9.toList.Perm (Ch es.size):=by
 have N:t.fill=es.size:=by unfold Rr;rw[f,y];rfl
 have E:t.mask*3<=es.size*5:=by unfold Zo at H;rw[N] at H;simpa using H
 have Q:(es.size=5/\Ff (Hv es.size)=32)\/(es.size=19/\Ff (Hv es.size)=128)\/(es.size=77/\Ff (Hv es.size)=512)\/(es.size=307/\Ff (Hv es.size)=2048):=by
  rcases d with h|h|h|h|h <;> rw[h] at E g
  .have:es.size=5:=by lia
   exact .inl ⟨this,by rw[this];decide⟩
  .have:es.size=19:=by lia
   exact .inr (.inl ⟨this,by rw[this];decide⟩)
  .have:es.size=77:=by lia
   exact .inr (.inr (.inl ⟨this,by rw[this];decide⟩))
  .have:es.size=307:=by lia
   exact .inr (.inr (.inr ⟨this,by rw[this];decide⟩))
  .lia
 have B:uh (Ff (Hv es.size)-1):=by
  rcases Q with⟨_,h⟩|⟨_,h⟩|⟨_,h⟩|⟨_,h⟩ <;> rw[h]
  .exact .inr (.inl Z)
  .exact .inr (.inr (.inl Z))
  .exact .inr (.inr (.inr (.inl Z)))
  .exact .inr (.inr (.inr (.inr Z)))
 have A:(es.map (·.1)).size<=Ff (Hv es.size)-1:=by rw[Vh];rcases Q with⟨U,h⟩|⟨U,h⟩|⟨U,h⟩|⟨U,h⟩ <;> rw[h,U] <;> lia
 obtain⟨t',z9,e,l1,l2,L⟩:=UA B (es.map (·.1)) A t.finger (t.movedTo (Ff (Hv es.size)-1)) t.led t.plain;have w:z9.size=es.size:=by have:=L.perm.length_eq;simpa using this
 have G:∀ i k,z9[i]? = Aa k->k<es.size:=λi k q=>by have:k∈Ch (es.map (·.1)).size:=L.perm.mem_iff.mp (Cb (by rw[Bw];exact q));simpa using this
 have C:(z9.filterMap (es[·]?)).toList=z9.toList.map λk=>es.toList.getD k (0,.none):=by
  rw[Array.toList_filterMap];have:∀ l:Ab Aj,(∀ k∈l,k<es.size)->l.filterMap (es[·]?)=l.map λk=>es.toList.getD k (0,.none):=by
   intro l
   induction l with
   |nil=>intro _;rfl
   |cons a l o =>
    intro j;have M:=j a aA;rw[Gw,Ee,o λk O=>j k (by simp[O])];rw[Dj M];simp[M]
  refine this _ λk O=>?_;obtain⟨i,r,q⟩:=Ef.mp O;exact G i k (by rw[<- Bw,Bd r,q])
 have Y:(z9.filterMap (es[·]?)).toList.Perm es.toList:=by
  rw[C];have p:=L.perm.map λk=>es.toList.getD k (0,El);refine p.trans ?_;have u:(Ch (es.map (·.1)).size).map (λk=>es.toList.getD k (0,El))=es.toList:=by
   apply Sz
   .simp
   .intro i s v;have c:i<es.size:=by simpa using v
    simp[c]
  rw[u]
 have T:(z9.filterMap (es[·]?)).size=es.size:=by rw[<- Do,Y.length_eq,Do]
 have J:∀ i,(z9.filterMap (es[·]?))[i]? = (z9[i]?).map λk=>es.toList.getD k (0,.none):=λi=>by rw[<- Bw,C,Es,Bw]
 refine⟨by rcases Q with⟨_,h⟩|⟨_,h⟩|⟨_,h⟩|⟨_,h⟩ <;> rw[h] <;> decide,t',z9,by rw[SR];exact e,l1,Y,⟨L.tb,by rw[L.msk];exact B,by rw[L.size,T,Vh],by rw[L.msk];exact L.le,?_,λi z q=>?_,by rw[l2];exact hp⟩,by have:=L.perm;rwa [Vh] at this⟩
 .rw[T,L.msk];rcases Q with⟨U,h⟩|⟨U,h⟩|⟨U,h⟩|⟨U,h⟩ <;> rw[h,U] <;> lia
 .rw[J] at q;cases I:z9[i]? with
  |none=>rw[I] at q;cases q
  |some k =>
   rw[I] at q;simp only[Ug,Option.some.injEq] at q;have O:=G i k I;have:(es.map (·.1))[k]? = Aa z.1:=by rw[Array.getElem?_map,Dj O];rw[<- q];simp[O]
   rw[L.msk];exact L.way i k z.1 I this
end _S
namespace _S
open PySem.SetTable (Probe leap runEnd turns bits)
variable {k:Ab Aq}{Q:Ar->Ai->Prop}
def ip (h0 h:Bb):Prop:=∀ b o,h0.get? b=Aa o->h.get? b=Aa o
def il (prog:Ba)(w:Bu)(h0:Bb)(ks:Ab Aq)(v:Ac):Prop:=∃ a,v=.ref a/\Ta (Iq prog w) h0 ks a
section
variable {prog:Ba}{w:Bu}{h0:Bb}
def il.inj (J:il prog w h0 x v)(G:il prog w h0 y v):x=y:=by obtain⟨a,rfl,Y⟩:=J;obtain⟨b,e,U⟩:=G;cases e;exact Y.inj U
def j0 (G:ip h0 h)(J:Ta (Iq prog w) h0 ks a):Ta (Iq prog w) h ks a:=by obtain⟨o,Y,n,U,r⟩:=J;exact⟨o,Y,n,G _ _ U,r⟩
variable {A:Bn}{E:J7}{s:Ai}
def WK {Q:Aq->Ai->Prop}(U:A.units<Fk)(J:ip h0 s.heap)(Y:il prog w h0 k v)(h:Q (Tk (Iq prog w) k) { s with toks:=s.toks+(k.length+1) }) : Ap (As prog w) A (pyHash v) Q E s:=by obtain⟨a,rfl,Y⟩:=Y;exact wpAny_pyHash_tuple U (j0 J Y) h
def eqT (O:A.units<Fk)(G:ip h0 s.heap)(Y:il prog w h0 k v)(J:il prog w h0 U N)(h:Q (decide (k=U)) s):Ap (As prog w) A (eqBool v N) Q E s:=by obtain⟨a,rfl,Y⟩:=Y;obtain⟨b,rfl,J⟩:=J;exact wpAny_eqBool_tuple O (j0 G Y) (j0 G J) h
def lB:∀ {ks:Ab Aq} {vs:Y8},ItemsAre (Iq prog w) ks vs->∀ v∈vs,∃ i t,v=.int i t:=by
 intro ks vs h
 induction h with
 |nil=>intro v hv;simp at hv
 |@cons k U ks vs Y _ J =>
  intro v hv;rcases Ay.mp hv with rfl|hv
  .cases v <;> first|exact⟨_,_,rfl⟩|exact absurd Y (by rintro⟨⟩)
  .exact J v hv
def qBa (L:ip h0 s.heap)(U:il prog w h0 k v)(h:Q Vq s):Ap (As prog w) A (Qw 8 v) Q E s:=by
 obtain⟨a,rfl,U⟩:=U;have U:=j0 L U;have B:=U.typeIs;obtain⟨o,J,n,T,_,I,H⟩:=U;unfold Qw;refine Ad (Uh B F.slot_tuple_hash.lookup ?_);show Ap _ _ (seqItems? (.ref a) >>= _) Q E s;refine Ad (Gr T I ?_);refine Ad ?_;show Ap _ _ (forIn J _ _) _ _ s;rw[<- WF];refine NE _ (λC r O=>r.1=Zt/\O=s/\∀ v∈C,∃ i t,v=.int i t) _ ?_ ?_ _ _ ⟨rfl,rfl,lB H⟩
 .rintro v C r O ⟨N,rfl,Y⟩;obtain⟨i,t,rfl⟩:=Y v Cr;show Ap _ _ (Qw 7 (.int i t) >>= _) _ _ _;rw[show Qw 7 (.int i t)=pure Vq from rfl];refine Ad (An ?_);simp only[Mb,Bs,Dp];exact An ⟨Z,Z,λu G=>Y u (Bm _ G)⟩
 .rintro⟨z,M⟩ O ⟨N,rfl,_⟩;simp only at N;subst N;exact An h
def E4 (L:ip h0 s.heap)(U:il prog w h0 k v)(h:Q Yp s):Ap (As prog w) A (Le 8 v) Q E s:=by
 obtain⟨a,rfl,U⟩:=U;have U:=j0 L U;have B:=U.typeIs;obtain⟨o,J,n,T,_,I,H⟩:=U;unfold Le;refine Ad (Lo B ?_);dsimp only;refine Ad (An ?_);simp only[Mb,Bs,Dp];refine Ad (Gr T I ?_);refine Ad ?_;show Ap _ _ (forIn J _ _) _ _ s;rw[<- WF];refine NE _ (λC r O=>r.1=Zt/\O=s/\∀ v∈C,∃ i t,v=.int i t) _ ?_ ?_ _ _ ⟨rfl,rfl,lB H⟩
 .rintro v C r O ⟨N,rfl,Y⟩;obtain⟨i,t,rfl⟩:=Y v Cr;show Ap _ _ (Le 7 (.int i t) >>= _) _ _ _;rw[show Le 7 (.int i t)=pure Yp from rfl];refine Ad (An ?_);simp only[Bs,Dp];exact An ⟨Z,Z,λu G=>Y u (Bm _ G)⟩
 .rintro⟨z,M⟩ O ⟨N,rfl,_⟩;simp only at N;subst N;exact An h
def O0 (J:ip h0 s.heap)(Y:il prog w h0 k v)(h:Q Vq s):Ap (As prog w) A (eqIsQuiet 8 v) Q E s:=by obtain⟨a,rfl,Y⟩:=Y;exact wpAny_eqIsQuiet_tuple (j0 J Y) h
def PH {J:Type}{c:Prop}[Jf c]{M:Nk}{t u:Kk J}{Q:J->Ai->Prop}(Y:c->Ap M A t Q E s)(U:¬ c->Ap M A u Q E s):Ap M A (if c then t else u) Q E s:=by
 by_cases h:c
 .rw[Au h];exact Y h
 .rw[AT h];exact U h
structure zw (prog:Ba)(w:Bu){K:Type}[Uq K](is:K->Ac->Prop)(hash:K->Aq)(h0:Bb):Prop where
 inj:∀ {k k':K} {v:Ac},is k v->is k' v->k=k'
 ref:∀ {k:K} {v:Ac},is k v->∃ a,v=.ref a
 hsh:∀ {A:Bn} {E:J7} {s:Ai} {k:K} {v:Ac} {Q:Aq->Ai->Prop},A.units+8<Fk->ip h0 s.heap->is k v->(∀ tk,s.toks<=tk->Q (hash k) { s with toks:=tk }) -> Ap (As prog w) A (pyHash v) Q E s
 eq:∀ {A:Bn} {E:J7} {s:Ai} {k k':K} {v v':Ac} {Q:Ar->Ai->Prop},A.units+8<Fk->ip h0 s.heap->is k v->is k' v'->Q (decide (k=k')) s->Ap (As prog w) A (eqBool v v') Q E s
 byV:∀ {A:Bn} {E:J7} {s:Ai} {k:K} {v:Ac} {Q:Ar->Ai->Prop},ip h0 s.heap->is k v->Q Vq s->Ap (As prog w) A (Qw 8 v) Q E s
 cls:∀ {A:Bn} {E:J7} {s:Ai} {k:K} {v:Ac} {Q:Ar->Ai->Prop},ip h0 s.heap->is k v->Q Yp s->Ap (As prog w) A (Le 8 v) Q E s
 quiet:∀ {A:Bn} {E:J7} {s:Ai} {k:K} {v:Ac} {Q:Ar->Ai->Prop},ip h0 s.heap->is k v->Q Vq s->Ap (As prog w) A (eqIsQuiet 8 v) Q E s
def qBq:zw prog w (il prog w h0) (Tk (Iq prog w)) h0:=⟨il.inj,λ⟨a,e,_⟩=>⟨a,e⟩,λU J Y h=>WK om J Y (h _ (Zf _ _)),λU J Y G h=>eqT om J Y G h,qBa,E4,O0⟩
variable {K:Type}[Uq K]{is:K->Ac->Prop}{hash:K->Aq}
def qA8 (M:zw prog w is hash h0){k:K}{x:Ac}{ys:Y8}{Q:Ar->Ai->Prop}(G:ip h0 s.heap)(L:is k x)(T:∀ y∈ys,∃ U,is U y)(h:Q Yp s):Ap (As prog w) A (Yc x ys) Q E s:=by
 unfold Yc;refine Ad ?_;refine NE _ (λB r C=>r.1=Zt/\C=s/\∀ v∈B,∃ U,is U v) _ ?_ ?_ _ _ ⟨Z,Z,T⟩
 .rintro v B r C ⟨O,rfl,J⟩;obtain⟨U,hv⟩:=J v Cr;have Y:∀ u∈B,∃ U,is U u:=λu N=>J u (Bm _ N);dsimp only;refine PH (λ_=>An ⟨rfl,rfl,Y⟩) λ_=>?_
  .refine Ad (M.quiet G L ?_);simp only[Mb,Bs,Dp];refine Ad (M.quiet G hv ?_);simp only[Mb,Bs,Dp];refine Ad (M.cls G L ?_);simp only[Bs,Dp];refine Ad (M.cls G hv ?_);simp only[Bs,Dp];exact An ⟨Z,Z,Y⟩
 .rintro⟨H,I⟩ C ⟨O,rfl,_⟩;simp only at O;subst O;exact An h
def qA7 (M:zw prog w is hash h0){k:K}{v:Ac}{Q:Ar->Ai->Prop}(Y:is k v)(h:Q Vq s):Ap (As prog w) A (isSame v v) Q E s:=by obtain⟨a,rfl⟩:=M.ref Y;unfold isSame;simp only[En,Dw];exact An h
theorem FV (M:zw prog w is hash h0){k:K}{x:Ac}{S:Af}{o:Cd}{es:Br (Aq × Ac)}{ep:Aj}{t:Fq}{seen:Ab K}(hu:A.units+8<Fk)(hS:ip h0 s.heap)(ho:s.heap.get? S=Aa o)(hd:o.data=.set es ep t)
  (T:kq t es) (G:im is hash es seen) (hx:is k x) (N:Aj) (f:tz t (st t.mask (hash k)) N)
  (U:(it t.mask N (st t.mask (hash k))).j ∉ t.place.toList) (zc:N<10*turns t.mask) {Q:SetFound->Ai->Prop}
  (h1:k∈seen->Q (.there Zt) s) (h2:k ∉ seen->Q (.free (it t.mask N (st t.mask (hash k))).j Yp) s) :
  ∀ (fuel n:Aj) (Y:Al Nn),Y.getD (t.probeStart (hash k))=it t.mask n (st t.mask (hash k))->n<=N->N-n<fuel ->
   (∀ (m i:Aj) (e:Aq × Ac),m<n->t.place[i]? = Aa (it t.mask m (st t.mask (hash k))).j->es[i]? = Aa e->¬ is k e.2) ->
   Ap (As prog w) A (Rt S x (hash k) Vq fuel Y) Q E s
 |0,n,Y,_,_,hf,_=>by lia
 |fuel+1,n,Y,zn,hn,hf,hq=>by
  unfold Rt;refine Ad (Gb ho hd T.fits ?_);dsimp only;rw[T.odd];simp only[Bs,Dp];rw[zn];generalize hg:t.probe _ (hash k) (it t.mask n (st t.mask (hash k)))=r;obtain⟨H,hH,hg⟩:∃ H:Aj->Aq,(∀ i,H i=(es[i]?.map (·.1)).getD 0)/\t.probe H (hash k) (it t.mask n (st t.mask (hash k)))=r:=⟨_,λi=>rfl,hg⟩
  have J:∀ m,it t.mask m (it t.mask n (st t.mask (hash k)))=it t.mask (n+m) (st t.mask (hash k)):=λm=>(l9 _ _ _ _).symm;have gm:Meets t H (hash k) (it t.mask n (st t.mask (hash k))) (10*turns t.mask) r:=by rw[<- hg];refine tW T.tb H _ _ _ (by rw[n6];rfl) ⟨N-n,by lia,?_⟩;rw[J,show n+(N-n)=N by lia];exact U
  have L:∀ j:Aj,(∀ m i:Aj,m<j->t.place[i]? = Aa (it t.mask m (it t.mask n (st t.mask (hash k)))).j->H i≠hash k) ->
    ∀ (m i:Aj) (e:Aq × Ac),m<n+j->t.place[i]? = Aa (it t.mask m (st t.mask (hash k))).j->es[i]? = Aa e->¬ is k e.2:=λj qj m i e hm B u p=>by
   by_cases zl:m<n
   .exact hq m i e zl B u p
   .refine qj (m-n) i ak (by rw[J,show n+(m-n)=m by lia];exact B) ?_;rw[hH,u];obtain⟨a,e1,e2⟩:=G.good e (Cb (by rw[Bw];exact u));rw[M.inj p e2];simpa using e1
  cases gm with
  |emp j hj w' C q =>
   rw[J] at C;have d:n+j=N:=by
    rcases Yd (n+j) N with h|h|h
    .exact absurd (f _ h) C
    .exact h
    .have:=w' (N-n) ak;rw[J,show n+(N-n)=N by lia] at this;exact absurd this U
   dsimp only;rw[J,d];refine An (h2 λp=>?_);obtain⟨e,he,b⟩:=(G.mem k).mp p;obtain⟨i,hi,B⟩:=Ef.mp he;have O:es[i]? = Aa e:=by rw[<- Bw,Bd hi,B]
   obtain⟨m,w1,w2⟩:=T.way i e O;obtain⟨a,g1,l⟩:=G.good e he;have:=M.inj b l;subst this;rw[g1] at w1 w2;have v:m<N:=by
    apply Fa;intro hc;by_cases v:m=N
    .subst v;exact U (Cb (by rw[Bw];exact w1))
    .exact U (w2 N ak)
   exact L j q m i e ak w1 O b
  |cand j i hj w' C hh q =>
   rw[J] at C;have hi:i<es.size:=by rw[<- T.size];exact(Cq.mp C).1
   have B:es[i]? = Aa es[i]:=Dj hi;have d:n+j<N:=by
    rcases Yd (n+j) N with h|h|h
    .exact h
    .rw[h] at C;exact absurd (Cb (by rw[Bw];exact C)) U
    .have:=w' (N-n) ak;rw[J,show n+(N-n)=N by lia] at this;exact absurd this U
   obtain⟨a,g1,l⟩:=G.good es[i] aA;dsimp only;have I:Ap (As prog w) A (do
     let Aa (_,y):=es[i]?|unsupported "internal:set-entry"
     let equal <- holding [y] (eqBool y x);let (oo,_,t') <- Wt S
     if Vq&&equal then return .there Zt
     let Aa same:=t'.sameMemory t.moves t.mask|unsupported "set.changed-during-lookup:is-the-new-block-at-the-old-address"
     let still <- match (if same then t'.slot (it t.mask j (it t.mask n (st t.mask (hash k)))).j else .empty) with
      |.live c=>match oo[c]? with
       |some (_,y')=>do pure (if <- isSame y' y then Aa c else Zt)
       |none=>pure Zt
      |_=>pure Zt
     match still with
     |none=>rule "set.search.anew";Rt S x (hash k) Vq fuel Zt
     |some c=>if equal then return .there (Aa c) else Rt S x (hash k) Vq fuel (Aa (it t.mask (j+1) (it t.mask n (st t.mask (hash k)))))) Q E s:=by
    rw[B];dsimp only;refine Ad (Dc (M.eq hu hS l hx ?_));refine Ad (Gb ho hd T.fits ?_);by_cases z:a=k
    .subst z;simp only[decide_true,Bool.and_self,Dw];exact An (h1 ((G.mem a).mpr ⟨es[i],by simp,l⟩))
    .simp only[z,decide_false,Hu,Bs,Dp];have hm:t.sameMemory t.moves t.mask=Aa true:=by simp[SetTable.sameMemory]
     rw[hm];dsimp only;rw[J,eU T.tb C];simp only[Dw,B];refine Ad (qA7 M l ?_);simp only[Dw];refine Ad (An ?_);dsimp only;refine FV M hu hS ho hd T G hx N f U zc h1 h2 fuel (n+j+1) _ ?_ ak ak λm c e hm O u p=>?_
     .rw[Sw,J];rfl
     .by_cases zo:m<n+j
      .exact L j q m c e zo O u p
      .have:m=n+j:=by lia
       subst this;have:=JL T.tb.rs O C;subst this;rw[B] at u;cases u;exact z (M.inj l p)
   refine PH (λ_=>?_) λ_=>?_
   .refine Ad (qA8 M hS hx (λy hy=>?_) ?_)
    .obtain⟨e,he,rfl⟩:=Cj.mp hy;have:e∈es.toList:=by
      have:=(Oo.mp he);exact Oo.mpr (Array.mem_filter.mp this).1
     obtain⟨k2,_,g⟩:=G.good e this;exact⟨k2,g⟩
    .simp only[Bs,Dp];exact I
   .exact I
end
end _S
namespace _S
open PySem.SetTable (Probe leap runEnd turns bits)
@[reducible] noncomputable def ml (es:Br (Aq × Ac))(Q:Aj)(t:Fq):Cd:={ cls:=.type "set",dict:=Zt,data:=.set es Q t }
def ZZ {h:Bb}{S:Af}(Y:h.get? S=Aa (ml es Q t)):(h.update S (Obj.putSet oo t')).get? S=Aa (ml oo (Q+1) t'):=Dy _ Y Z
structure md {K:Type}(is:K->Ac->Prop)(hash:K->Aq)(S:Af)(led:Ar)(V:Y8)(seen:Ab K)(h:Bb):Prop where
 ex:∃ es ep t,h.get? S=Aa (ml es ep t)/\im is hash es seen/\kq t es/\t.led=led/\∀ e∈es.toList,e.2∈V
section
variable {prog:Ba}{w:Bu}{h0:Bb}{A:Bn}{E:J7}{s:Ai}{S:Af}{led:Ar}{V:Y8}
def BQ (a:Af)(Q:Aj):setRelay a Q=(do
  let (es,_,t) <- Wt a
  if Ff Q>sizeLine then unsupported "set:memory"
  let (es,t) <- (do
   let Aa (t,z9):=t.relaid (es.map (·.1)) Q|unsupported "internal:set-table-without-room"
   let oo:=z9.filterMap (es[·]?)
   if oo.size != es.size then unsupported "internal:set-table-lost-an-element"
   pure (oo,t))
  storeSet a es t):=Z
def qBX {K:Type}[Uq K]{is:K->Ac->Prop}{hash:K->Aq}(M:zw prog w is hash h0){seen:Ab K}{k:K}{x:Ac}{Q:Ar->Ai->Prop}(hu:A.units+8<Fk)(hS:ip h0 s.heap)(G:md is hash S led V seen s.heap)(o:is k x)(hV:x∈V){U:Ab K}(hU:U.length<=1000)(zo:∀ k'∈seen,k'∈U)(z4:k∈U)
  (h:∀ (b:Ar) (h':Bb) (C:Aj),s.toks<=C->Ex S s.heap h'->md is hash S led V (k::seen) h'->Q b { s with heap:=h',toks:=C }) : Ap (As prog w) A (setAdd S x) Q E s:=by
 obtain⟨J,ep,t,u,G,T,hl,hm⟩:=G;unfold setAdd;refine Dc (Ad (M.hsh hu hS o λC z=>?_));unfold setAddHashed setAddHashedIn;refine Dc (Ad (Gb (s:={ s with toks:=C }) u rfl T.fits ?_));dsimp only;have z2:byScan x J=false:=by obtain⟨a,rfl⟩:=M.ref o;rfl
 rw[z2];simp only[Bs,Dp];obtain⟨e,he,z1⟩:=T.gap;have first:∃ N,tz t (st t.mask (hash k)) N/\(it t.mask N (st t.mask (hash k))).j ∉ t.place.toList/\N<10*turns t.mask:=by
  obtain⟨N,hN,eN⟩:=PD T.msk (hash k) he;have gm:=tW T.tb (λ_=>hash k+1) (hash k) (10*turns t.mask) (st t.mask (hash k)) rfl ⟨N,hN,by rw[eN];exact z1⟩;generalize No t _ _ _ _=r at gm;cases gm with
  |emp j hj w' e' q=>exact⟨j,w',e',hj⟩
  |cand j i hj w' e' hh q=>exact absurd hh ak
 obtain⟨N,zc,v,zn⟩:=first
 have z5:N<100000:=by
  have:turns t.mask<=2200:=by unfold turns;rcases T.msk with h|h|h|h|h <;> rw[h] <;> lia
  lia
 refine Ad (FV M (s:={ s with toks:=C }) hu hS u Z T G o N zc v zn (λhk=>?_) (λhk=>?_) 100000 0 Zt Z ak ak λm i e hm=>by lia)
 .exact An (h _ s.heap _ z (Ye _ _) ⟨J,ep,t,u,G.again hk,T,hl,hm⟩)
 .have z6:J.size<1000:=Bo (G.few zo z4 hk) hU;dsimp only;refine Ad (Gb (s:={ s with toks:=C }) u Z T.fits ?_);obtain⟨n,y,p3,p4⟩:=T.put (h:=hash k) (x:=x) zc v (qBE _ _ _);generalize hj:(it t.mask N (st t.mask (hash k))).j=j at *;have H:(t.put j).1.mask=t.mask:=rfl;have m2:(t.put j).1.plain=true:=T.plain;have m3:(t.put j).1.led=led:=hl;generalize hp:t.put j=tp at *;obtain⟨I,p⟩:=tp;dsimp only at n y p3 p4 H m2 m3 ⊢;rw[m2];simp only[Dw];refine Ad (M.byV (s:={ s with toks:=C }) hS o ?_);simp only[Dw,Aa4,AaF];have Y:(DL J p (hash k,x)).size=J.size+1:=gE _ _ _;have O:J.size+1<=sizeLine:=by rw[Dv];lia
  refine Ad (Yf (s:={ s with toks:=C }) u Z ?_ (by rw[Y];exact O));have L:im is hash (DL J p (hash k,x)) (k::seen):=by refine G.push (λa b=>M.inj a b) o hk ?_;have:=Ku J p (hash k,x);rw[Jk] at this;exact this
  have d:∀ e∈(DL J p (hash k,x)).toList,e.2∈V:=λe he=>by
   have:=(Ku J p (hash k,x)).mem_iff.mp he;rw[Jk] at this;rcases Cg.mp this with h1|h1
   .exact hm e h1
   .simp at h1;subst h1;exact hV
  have B:=ZZ (oo:=DL J p (hash k,x)) (t':=I) u;have zl:=Gz s.heap S (Obj.putSet (DL J p (hash k,x)) I);have f:I.fits (DL J p (hash k,x)).size=true:=by
   have c:I.fill=J.size+1:=by unfold Rr;rw[n.dm,y,Y];rfl
   have h2:=T.few;unfold AaE;rw[c,y,Y,H];rcases T.msk with h|h|h|h|h <;> rw[h] at h2 ⊢ <;> simp <;> lia
  refine PH (λl=>?_) λl=>?_
  .have zs:uh I.mask:=by rw[H];exact T.msk
   have c:((DL J p (hash k,x)).size-1)*5<I.mask*3:=by rw[Y,H];exact T.few
   obtain⟨q1,t2,z9,q2,q3,q4,q5,_⟩:=oZ zs m2 y (by rw[Y];lia) (by simpa using l) n.dm c (by rw[Y];lia);rw[Y] at q1 q2;rw[BQ];refine Ad ?_;refine Ad (Gb (s:={ s with heap:=_,toks:=C }) B Z f ?_);dsimp only;rw[AT (by rw[Dv];lia)];refine Ad ?_;rw[q2];dsimp only;have g:(z9.filterMap λz3=>(DL J p (hash k,x))[z3]?).size=J.size+1:=by rw[<- Do,q4.length_eq,Do,Y]
   rw[AT (by rw[g,Y];simp)];refine An ?_;refine Yf (s:={ s with heap:=_,toks:=C }) B Z ?_ (by rw[g];exact O);refine An (h _ _ _ z (zl.trans (Gz _ S _)) ⟨_,_,t2,ZZ B,L.perm q4,q5,by rw[q3];exact m3,λe he=>d e (q4.mem_iff.mp he)⟩)
  .refine An (h _ _ _ z zl ⟨_,_,I,B,L,⟨n,by rw[H];exact T.msk,y,by rw[H];exact p3,?_,by rw[H];exact p4,m2⟩,m3,d⟩);have c:I.fill=J.size+1:=by unfold Rr;rw[n.dm,y,Y];rfl
   unfold Zo at l;rw[c] at l;rw[Y];simpa using l
end
end _S
namespace _S
open PySem.SetTable (Probe leap runEnd turns bits)
def xp (prog:Ba)(w:Bu)(k:Aq)(v:Ac):Prop:=(Iq prog w).is k v=Vq
section
variable {prog:Ba}{w:Bu}
set_option tactic.hygienic true in
def sA (h:xp prog w k v):∃ t,v=.int k t:=by
 cases v <;> first|(exact absurd h (by rintro⟨⟩)) | skip
 rename_i i t;refine⟨t,?_⟩;have:i=k:=(Iq prog w).inj (.int i t) i k (intKind_is _ _ _ _) h;rw[this]
end
end _S
namespace _S
variable {Q:J7}{i:Aj}
structure wq (prog:Ba)(w:Bu){K:Type}(is:K->Ac->Prop)(hash:K->Aq)(h0:Bb):Prop where
 add:∀ {A:Bn} {E:J7} {s:Ai} {S:Af} {led:Ar} {V:Y8} {seen U:Ab K} {k:K} {x:Ac} {Q:Ar->Ai->Prop},A.units+8<Fk->ip h0 s.heap->md is hash S led V seen s.heap->is k x->x∈V->U.length<=1000->(∀ k'∈seen,k'∈U)->k∈U ->
  (∀ (b:Ar) (h':Bb) (tk:Aj),s.toks<=tk->Ex S s.heap h'->md is hash S led V (k::seen) h'->Q b { s with heap:=h',toks:=tk }) -> Ap (As prog w) A (setAdd S x) Q E s
def RL (h0:Bb):wq prog w (il prog w h0) (Tk (Iq prog w)) h0:=⟨λO G Y U C J N B h=>qBX qBq O G Y U C J N B h⟩
def uO {K:Type}(Y:Aj->K):Aj->Ab K
 |0=>[]
 |i+1=>Y i::uO Y i
theorem kU {K:Type}{Y:Aj->K}{k:K}:∀ {n:Aj},k∈uO Y n↔∃ i,i<n/\Y i=k
 |0=>by simp[uO]
 |n+1=>by
  rw[uO,Ay,kU];constructor
  .rintro (rfl|⟨i,h,e⟩)
   .exact⟨n,by lia,Z⟩
   .exact⟨i,by lia,e⟩
  .rintro⟨i,h,e⟩;by_cases J:i=n
   .subst J;exact .inl e.symm
   .exact .inr ⟨i,by lia,e⟩
section
variable {prog:Ba}{w:Bu}{A:Bn}{R:Qs->Ai->Prop}{I:Af}{fp wr:J9}{G:Br Qy->Br Qy->Prop}{n:Aj}{P:Aj->Ac->Prop}{St:Aj->Ai->Prop}
variable {K:Type}{is:K->Ac->Prop}{hash:K->Aq}{h0:Bb}{led:Ar}{V:Y8}{U:Ab K}
def md.sup {S:Af}{seen:Ab K}{h h':Bb}(Y:md is hash S led V seen h)(e:∀ o,h.get? S=Aa o->h'.get? S=Aa o):md is hash S led V seen h':=by obtain⟨N,O,t,J,r⟩:=Y;exact⟨N,O,t,e _ J,r⟩
def SQ (a:wq prog w is hash h0)(W:WalksS prog w A.in1 I fp wr G n P St)(S:Af)(g:S ∉ fp)(hu:A.in1.units+8<Fk)(Y:Aj->K)(p:∀ i v,P i v->is (Y i) v/\v∈V)(hU:U.length<=1000)(H:∀ i,i<n->Y i∈U)
  (m:h0.get? S=Zt) (d:∀ b∈wr,h0.get? b=Zt):∀ (k i:Aj) (s:Ai),n-i=k->i<=n->St i s->ip h0 s.heap->md is hash S led V (uO Y i) s.heap ->
   (∀ s',Moved (S::wr) G s s'->md is hash S led V (uO Y n) s'.heap->R (.ok (.ret .none)) s')->Gn (As prog w) A (.builtin "set.update.loop" ⟨[.ref S,.ref I],[]⟩) R s:=by
 have z:S ∉ wr:=λh=>g (W.sub _ h);have J:∀ b∈wr,b∈S::wr:=λb L=>Bm _ L;intro k
 induction k with
 |zero =>
  intro i s hk hi B x T r;have c:i=n:=by lia
  subst c;refine Je Ml ?_;rw[Jn Io _];show Ap _ A.in1 (Pd (.ref I) >>= _) _ _ s;refine Ad (W.done s _ _ B λs' E=>?_);exact An (r s' (E.mono J) (T.sup λo e=>E.heap S _ z e))
 |succ k ih =>
  intro i s hk hi B x T r;have O:i<n:=by lia
  refine Je Ml ?_;rw[Jn Io _];show Ap _ A.in1 (Pd (.ref I) >>= _) _ _ s;refine Ad (W.item i s _ _ O B λv s' hP u E=>?_);obtain⟨q1,q2⟩:=p i v hP;have y:ip h0 s'.heap:=λb o e=>E.heap b o (λL=>by rw[d b L] at e;cases e) (x b o e);show Ap _ A.in1 (holding [v] (setAdd S v) >>= _) _ _ s';refine Ad (Dc (a.add hu y (T.sup λo e=>E.heap S _ z e) q1 q2 hU (λk' f=>?_) (H i O) λb h' tk q C l=>?_))
  .obtain⟨j,hj,e⟩:=kU.mp f;exact e▸H j ak
  .refine An ⟨Ru Io _,ih (i+1) _ ak O (W.frame _ s' _ _ u q λb L o e=>?_) (λb o e=>?_) l λt M N=>?_⟩
   .rw[C.2 b (λh:b=S=>g (by rw[<- h];exact L))];exact e
   .rw[C.2 b (λh:b=S=>by rw[h,m] at e;cases e)];exact y b o e
   .refine r t (Moved.trans W.gtrans ((E.mono J).then_heap q λb o L e=>?_) M) N;rw[C.2 b (λh:b=S=>L (by rw[h];exact Cr))];exact e
end
section
variable {prog:Ba}{w:Bu}{A:Bn}{E:J7}{s:Ai}
noncomputable def uX (w:Bu):Ar:=!w.params.followText "set-order"
@[reducible] def nv (w:Bu):Cd:=ml #[] 0 (.fresh 0 0 (uX w))
def oY (a:Ac){Q₁:J7}(h:Q₁ (.ref s.heap.objs.size) { s with heap:=s.heap.push (nv w) }) : Gn (As prog w) A (.call (.builtin "set.__new__") ⟨[.type "set",a],[]⟩) (wants Q₁ E) s:=by refine Oy ?_;show Ap _ A.in1 (do Sv "set.__new__" ⟨[.type "set",a],[]⟩;again (.builtin "set.__new__" ⟨[.type "set",a],[]⟩)) _ _ s;refine Ad (Jx (PySem.F.newCall_set_1 a) (An ⟨Ru Uz _,Je PySem.F.entry_set_new ?_⟩));rw[Jn Uz _];unfold Ih.«set.__new__» Aa9;have Y:=PySem.sub_set_self;obtain⟨J,g,d,U,os⟩:=s;dsimp only;wp_walk;refine Jy (An ?_);dsimp only;simp only[newObj];exact Ad (Zl (An (An h)))
def JX (w:Bu):kq (.fresh 0 0 (uX w)) #[]:=⟨⟨by unfold Rs;exact Nm,rfl⟩,.inl rfl,rfl,λx Y=>(by cases Y),(show 0*5<7*3 by decide),λi e h=>(by simp at h),rfl⟩
variable {K:Type}{is:K->Ac->Prop}{hash:K->Aq}{U:Ab K}
def W6 (a:wq prog w is hash s.heap){l:Af}{items:Br Ac}{Q:J7}(hh:A.handled=Zt)(hu:A.units+16<Fk)(hl:s.heap.IsList l items\/s.heap.IsTuple l items)(J:Aj->K)(p:∀ i v,items[i]? = Aa v->is (J i) v)(hU:U.length<=1000)(zc:∀ i,i<items.size->J i∈U)
  (h:∀ (h':Bb) (t:Aj),md is hash s.heap.objs.size (uX w) items.toList (uO J items.size) h'->(∀ b o,s.heap.get? b=Aa o->h'.get? b=Aa o)->Q (.ref s.heap.objs.size) { s with heap:=h',toks:=t }) :
  Ap (As prog w) A (call (.type "set") [.ref l]) Q E s:=by
 obtain⟨c,tl,z3⟩:=Gj.mro;have zo:=Gj.made;have z2:=Gj.sub;refine Kz (Oy ?_);show Ap _ _ (callAny (.type "set") _) _ _ _;refine An ⟨Mv _ (by decide +kernel),Je PySem.F.entry_type_call ?_⟩;rw[Around.under_plain (weight_type_call_type "set" [.ref l] []) Z];have h1:=Gj.notType;have h2:=Gj.canCreate;have z4:=PySem.F.typeCall_set_1 (.ref l)
 repeat (any_goals (first|assumption|wp_step))
 refine Ka (oY (.ref l) (E:=E) (Q₁:=λq O=>q=.ref s.heap.objs.size/\O={ s with heap:=s.heap.push (nv w) }) ⟨Z,Z⟩) λr O n=>?_;cases r with
 |error e=>exact n
 |ok fl =>
  cases fl with
  |ret q =>
   obtain⟨rfl,rfl⟩:=n;have hS:(s.heap.push (nv w)).get? s.heap.objs.size=Aa (nv w):=Be _ rfl;have hT:Wi { s with heap:=s.heap.push (nv w) } (.ref s.heap.objs.size) "set":=⟨_,hS,rfl⟩
   have z6:=Gj.init.lookup;have z5:=Gj.init.bind (.ref s.heap.objs.size)
   repeat (any_goals (first|assumption|wp_step))
   refine Ka (Jm (R:=wants (λr L=>r=.none/\∃ h' t,L={ s with heap:=h',toks:=t } /\ md is hash s.heap.objs.size (uX w) items.toList (uO J items.size) h'/\∀ b o,s.heap.get? b=Aa o->h'.get? b=Aa o) E) Gj.init.plain PySem.F.entry_set_init (check_set_init_1 hT ?_)) λu L Y=>?_
   .have d:l<s.heap.objs.size:=by rcases hl with⟨_,e,_⟩|⟨_,e,_⟩ <;> exact Bh e
    have C:l≠(s.heap.push (nv w)).objs.size:=by rw[Er];exact Cn (Yg d)
    have nS:s.heap.get? s.heap.objs.size=none:=Hx (Ax _);have nI:s.heap.get? (s.heap.push (nv w)).objs.size=none:=Hx (by rw[Er];exact Jt _);rcases hl with⟨⟨k,M,z,G⟩,g,j,nl,T⟩|⟨⟨k,M,z,G⟩,g,j,nl,T⟩
    all_goals
     simp only at j T;subst j;subst T;have B:=Ak (nv w) g
    case' inl =>
     have f:=PySem.F.sub_list_set;have y:=PySem.F.sub_list_frozenset;have zn:(Ht "list" == Ht "dict")=false:=by decide
     have N:(s.heap.push (nv w)).IsList l items:=⟨_,B,Z,nl,Z⟩
    case' inr =>
     have f:=PySem.F.sub_tuple_set;have y:=PySem.F.sub_tuple_frozenset;have zn:(Ht "tuple" == Ht "dict")=false:=by decide
     have N:(s.heap.push (nv w)).IsTuple l items:=⟨_,B,Z,nl,Z⟩
    all_goals
     unfold Ih.«set.__init__» noKeywords Aa2;generalize zs:Pe=PI;wp_walk;subst zs
     first
      |(refine Gu N ?_;have W:=(Walks.list (prog:=prog) (w:=w) (A:=A.in1.in1.in1) (by simp[hh]) _ l C items).toS)
      |(refine Iw N ?_;have W:=(Walks.tuple (prog:=prog) (w:=w) (A:=A.in1.in1.in1) (by simp[hh]) _ l C items).toS)
     refine Ad (wpAny_runValue ?_);refine SQ (led:=uX w) (V:=items.toList) a W s.heap.objs.size ?_ (by show A.units+3+8<Fk;lia) J (λi v hv=>⟨p i v hv,?_⟩) hU zc nS (λb hb=>?_) (items.size-0) 0 _ ak (Fi _)
      ⟨⟨_,Be _ Z,Z,Z⟩,N.push _⟩ (λb o e=>Ak _ (Ak _ e)) ?_ λs' m I=>?_
     .rw[Er];simp only[Ay,Cc,Cz,Fw,not_or];exact⟨Cn (Hl _),Hj d⟩
     .exact Cb (by rw[Bw];exact hv)
     .rw[Cc.mp hb];exact nI
     .exact⟨#[],0,_,Ak _ hS,im.nil,JX w,Z,λe he=>by simp at he⟩
     .obtain⟨h',g',d',z1,x⟩:=s';have eg:g'=s.gens:=m.gens;have ed:d'=s.drawn:=m.drawn;have eo:x=s.os:=m.os;subst eg;subst ed;subst eo;refine An (An ⟨rfl,h',z1,rfl,I,λb o e=>?_⟩);refine m.heap b o (λhb=>?_) (Ak _ (Ak _ e));rcases Ay.mp hb with rfl|hb
      .rw[nS] at e;cases e
      .rw[Cc.mp hb,nI] at e;cases e
   .cases u with
    |error e=>exact Y
    |ok H =>
     cases H with
     |ret r =>
      obtain⟨rfl,h',t,rfl,I,zl⟩:=Y
      repeat (any_goals (first|assumption|wp_step))
      exact h _ _ I zl
     |_=>exact Y.elim
  |_=>exact n.elim
end
theorem nX {J:Type}:∀ {l:Ab J} {i:Aj} (h:i<l.length),(l[i]::l.eraseIdx i).Perm l
 |a::l,0,h=>by simp
 |a::l,i+1,h=>by rw[Ti,List.getElem_cons_succ];exact(List.Perm.swap _ _ _).trans ((nX (l:=l) (i:=i) (by simpa using h)).cons a)
theorem eJ {J:Type}(next:Aj->Aj):∀ (fuel k:Aj) (left:Ab J) (Y:Br J),left.length=fuel->(Xl next fuel k left Y).toList.Perm (Y.toList++left)
 |0,k,left,Y,h=>by
  have:left=[]:=Pa h;subst this;unfold Xl;simp
 |fuel+1,k,left,Y,h=>by
  unfold Xl;have U:next k % left.length<left.length:=Pq _ om
  rw[Bd U];dsimp only;refine(eJ next fuel (k+1) _ _ (by rw[List.length_eraseIdx,Au U];fin2)).trans ?_;rw[Jk,Jj];refine List.Perm.append_left _ ?_;exact nX U
def sW {J:Type}(next:Aj->Aj)(xs:Br J) : (Pb next xs).toList.Perm xs.toList:=by
 have:=eJ next xs.size 0 xs.toList #[] aA
 simpa [Pb] using this
def vO:Slot "set_iterator" "__next__" "set_iterator.__next__":=
 .of (owner:="set_iterator") (n:="__next__") (by rw[sK,Va];kernel_rfl) (by decide +kernel) (by decide +kernel) (by decide +kernel) (.inl (by decide +kernel)) (by rw[Vi];kernel_rfl)
def nW:entryFor table "set_iterator.__next__" = Aa Ih.«set_iterator.__next__»:=entryFor_of_fast (by kernel_rfl)
def rH (a:Ac):argsOk "set_iterator.__next__" ⟨[a],[]⟩:=by unfold argsOk;kernel_rfl
def eV:Slot "set_iterator" "__iter__" "set_iterator.__iter__":=
 .of (owner:="set_iterator") (n:="__iter__") (by rw[sK,Va];kernel_rfl) (by decide +kernel) (by decide +kernel) (by decide +kernel) (.inl (by decide +kernel)) (by rw[Vi];kernel_rfl)
def WE:entryFor table "set_iterator.__iter__" = Aa Ih.«dict_keyiterator.__iter__»:=entryFor_alias (id':="dict_keyiterator.__iter__") (by kernel_rfl) Z (by decide +kernel) (by kernel_rfl)
def V0 (a:Ac):argsOk "set_iterator.__iter__" ⟨[a],[]⟩:=by unfold argsOk;kernel_rfl
def WD:entryFor table "set.__iter__" = Aa Ih.«frozenset.__iter__»:=entryFor_alias (id':="frozenset.__iter__") (by kernel_rfl) Z (by decide +kernel) (by kernel_rfl)
def LR (a:Af)(slot given Y:Aj):setNext a slot given Y=(do
  let (es,epoch,t) <- Wt a
  if <- setsByText then
   if epoch != Y then unsupported "set_iterator.__next__:elements-changed"
   return ((<- setWalk a)[given]?).map λe=>(e.2,slot)
  if !t.plain&&es.size>1 then unsupported "set_iterator.__next__:the-table-is-plain-no-more"
  (do if !t.led&&!es.isEmpty then unsupported "set:maker-not-led")
  return match es[Cf t.place slot]?,t.place[Cf t.place slot]? with
   |some (_,x),Aa j=>Aa (x,j+1)
   |_,_=>Zt):=rfl
def R9 (a:Af):setWalk a=(do
  let (es,epoch,t) <- Wt a
  if <- setsByText then return Pb ((<- ask).params.setOrder a epoch) es
  if !t.plain&&es.size>1 then return (<- drawOrder es.size es.toList).toArray
  (do if !t.led&&es.size>1 then unsupported "set:maker-not-led")
  return es):=Z
def GK (a:Af):setDrawn a=(do
  let (es,_,t) <- Wt a;let byText <- setsByText
  return !byText&&(!t.plain&&es.size>1)):=Z
structure ni (w:Bu)(S:Af)(es:Br (Aq × Ac))(ep:Aj)(t:Fq):Prop where
 tab:kq t es
 led:t.led=uX w
def z9 (w:Bu)(S:Af)(Y:Aj)(es:Br (Aq × Ac)):Br (Aq × Ac):=if w.params.followText "set-order" = Vq then Pb (w.params.setOrder S Y) es else es
def lO (w:Bu)(S:Af)(Y:Aj)(es:Br (Aq × Ac)):(z9 w S Y es).toList.Perm es.toList:=by
 unfold z9;split
 .exact sW _ _
 .exact Aa5 _
def jH (w:Bu)(S:Af)(Y:Aj)(es:Br (Aq × Ac)):(z9 w S Y es).size=es.size:=by rw[<- Do,(lO w S Y es).length_eq,Do]
noncomputable def w_ (slot i:Aj)(S:Af)(n Y:Aj):Cd:={ cls:=.type "set_iterator",data:=.fields #[.int slot 0,.int i 0,.ref S,.int n 0,.int Y 0] }
def At (w:Bu)(I S:Af)(es:Br (Aq × Ac))(Y:Aj)(t:Fq)(i:Aj)(h:Bb):Prop:=
 ∃ slot,h.get? I=Aa (w_ slot i S es.size Y)/\h.get? S=Aa (ml es Y t)/\(w.params.followText "set-order" = Vq\/Cf t.place slot=i)
section
variable {prog:Ba}{w:Bu}{A:Bn}{E:J7}{s:Ai}{S I:Af}{es:Br (Aq × Ac)}{ep:Aj}{t:Fq}
def YK {slot:Aj}{Q:Al (Ac × Aj)->Ai->Prop}(Y:ni w S es ep t)(T:s.heap.get? S=Aa (ml es ep t))(hs:w.params.followText "set-order" = Vq\/Cf t.place slot=i)
  (O:∀ e J,(z9 w S ep es)[i]? = Aa e->(w.params.followText "set-order" = Vq\/Cf t.place J=i+1)->Q (Aa (e.2,J)) s) (C:(z9 w S ep es)[i]? = Zt->Q Zt s):Ap (As prog w) A (setNext S slot i ep) Q E s:=by
 rw[LR];refine Ad (Gb T rfl Y.tab.fits ?_);dsimp only;refine Ad (Ad (Jy (An ?_)));cases U:w.params.followText "set-order" with
 |true =>
  show Ap _ _ (if (w.params.followText "set-order")=Vq then _ else _) _ _ _;rw[Au U];have B:(ep != ep)=false:=by simp
  rw[B];simp only[Bs,Dp];refine Ad ?_;rw[R9];refine Ad (Gb T Z Y.tab.fits ?_);dsimp only;refine Ad (Ad (Jy (An ?_)));show Ap _ _ (if (w.params.followText "set-order")=Vq then _ else _) _ _ _;rw[Au U];refine Ad (Jy (An (An ?_)));show Q (((Pb (w.params.setOrder S ep) es)[i]?).map λe=>(e.2,slot)) s;have G:z9 w S ep es=Pb (w.params.setOrder S ep) es:=by unfold z9;rw[Au U]
  rw[G] at O C;cases N:(Pb (w.params.setOrder S ep) es)[i]? with
  |none=>exact C N
  |some e=>exact O e slot N (.inl U)
 |false =>
  show Ap _ _ (if (w.params.followText "set-order")=Vq then _ else _) _ _ _;rw[AT (by rw[U];decide),Y.tab.plain,Y.led];unfold uX;rw[U];simp only[Mb,Gp,Bs,Dp,Aa4];have B:Cf t.place slot=i:=by
   rcases hs with h|h
   .rw[U] at h;cases h
   .exact h
  rw[B];have G:z9 w S ep es=es:=by unfold z9;rw[AT (by rw[U];decide)]
  rw[G] at O C;refine An ?_;cases N:es[i]? with
  |none=>exact C N
  |some e =>
   have H:i<t.place.size:=by rw[Y.tab.size];exact(Cq.mp N).1
   have L:t.place[i]? = Aa t.place[i]:=Dj H;rw[L];exact O e _ N (.inr (W4 Y.tab.tb.rs L))
def At.type (h:At w I S es ep t i s.heap):s.TypeIs (.ref I) "set_iterator":=by obtain⟨slot,h,_⟩:=h;exact⟨_,h,rfl⟩
def eH (J:ni w S es ep t)(H:At w I S es ep t i s.heap)
  (L:∀ e Y slot,(z9 w S ep es)[i]? = Aa e->s.heap.get? I=Aa (w_ slot i S es.size ep)->s.heap.get? S=Aa (ml es ep t)->(w.params.followText "set-order" = Vq\/Cf t.place Y=i+1) ->
   Q e.2 { s with heap:=(s.heap.update I (Km (·.setIfInBounds 0 (Jr Y)))).update I (Km (·.setIfInBounds 1 (Jr ((i:Aq)+1)))) })
  (T:(z9 w S ep es)[i]? = Zt->Ap (As prog w) A (do setField (.ref I) 2 .none;ZB (<- Zg (.type "StopIteration") [])) (λ(fin:PySem.Fin) s'=>∃ r,fin=.done (.ret r)/\Q r s') E s) :
  Ap (As prog w) A (Ih.«set_iterator.__next__» ⟨[.ref I],[]⟩) (λfin s'=>∃ r,fin=.done (.ret r)/\Q r s') E s:=by
 obtain⟨slot,U,G,M⟩:=H;show Ap _ _ (fieldsOf (.ref I) >>= _) _ _ s;refine Ad (wpAny_fieldsOf U rfl ?_);show Ap _ _ (setEntries S >>= _) _ _ s;refine Ad (Wj G rfl J.tab.fits ?_);have N:(((es.size:Aj):Aq) != ((es.size:Aj):Aq))=false:=by simp
 rw[N];simp only[Bs,Dp];show Ap _ _ (setNext S (slot:Aq).toNat (i:Aq).toNat (ep:Aq).toNat >>= _) _ _ s;rw[EQ,EQ,EQ];refine Ad (YK J G M (λe Y B C=>?_) λB=>?_)
 .dsimp only;refine Ad (Ge U Z (by show 0<5;decide) ?_);have O:=Dy (Km (·.setIfInBounds 0 (Jr Y))) U Z;refine Ad (Ge O Z (by show 1<5;decide) ?_);exact An ⟨_,Z,L e Y slot B U G C⟩
 .exact T B
def R8 (M:A.handled=Zt)(N:S≠I)(O:ni w S es ep t):Walks prog w A I [I,S] [I] es.size (λi v=>∃ e,(z9 w S ep es)[i]? = Aa e/\e.2=v) (λi h=>At w I S es ep t i h) where
 sub:=λb Y=>by simp at Y;simp[Y]
 frame:=λi h k ⟨slot,H,j,y⟩ L=>⟨slot,L I aA _ H,L S aA _ j,y⟩
 item:=λi s Q E u st G=>by
  unfold Pd;refine Ad (Kn (Dt (name:=Fd "__next__") st.type vO (Dx vO st.type nW (eH O st (λe J slot U C B Y=>?_) λU=>?_) (rH _))))
  .refine An (G e.2 _ s.toks ⟨e,U,Z⟩ ⟨J,?_,?_,Y⟩ λb o Y e=>?_)
   .exact Dy _ (Dy _ C Z) Z
   .rw[Ci _ _ N.symm,Ci _ _ N.symm];exact B
   .have Y:I≠b:=λz=>Y (by simp[z]);rw[Ci _ _ Y,Ci _ _ Y];exact e
  .have:=Array.getElem?_eq_none_iff.mp U;rw[jH] at this;fin2
 done:=λs Q E st G=>by
  unfold Pd;refine Ad (Kn (Dt (name:=Fd "__next__") st.type vO (Dx vO st.type nW (eH O st (λe J slot U C B Y=>?_) λU=>?_) (rH _))))
  .have:=(Cq.mp U).1;rw[jH] at this;fin2
  .obtain⟨slot,C,B,Y⟩:=st;refine Ad (Ge C Z (by show 2<5;decide) ?_);refine Ad ?_;simp only[Zg,newTuple];refine Ad (Dh ?_ (by size_fits));refine Ad (m:=Ll _ _) (Jx (a:=El) (by first|rfl|(simp only[Ll];rfl)) ?_);refine Dh ?_ (by size_fits);simp only[ZB];refine Ad (Wg ?_);rw[show A.in1.handled=Zt from M];refine Ad (An (Ux ?_));refine Ad (Sy (T:="StopIteration") (b:=Vq) ⟨_,Be _ Z,Z⟩ isSubtype_stop ?_);refine An (G _ s.toks λb o Y e=>?_);exact(((Gz ..).extBut.push _).push _) b o (λz=>Y (by simp[z])) e
 self:=λi s Q E st G=>by refine Yh st.type eV (Dx eV st.type WE ?_ (V0 _));show Ap _ _ (ret (.ref I)) _ _ s;exact An ⟨_,Z,"set_iterator",_,st.type,vO.lookup,G⟩
def PK (Y:ni w S es ep t)(J:s.heap.get? S=Aa (ml es ep t))(h:Q (.ref s.heap.objs.size) { s with heap:=s.heap.push (w_ 0 0 S es.size ep) }) : Ap (As prog w) A (Pe (.ref S)) Q E s:=by have U:s.TypeIs (.ref S) "set":=⟨_,J,Z⟩;refine Yh U Vb (Dx Vb U WD ?_ (PySem.F.args_set_iter_1 _));show Ap _ _ (Si S >>= _) _ _ s;unfold Si;refine Ad (Ad (Wj J Z Y.tab.fits (An ?_)));refine Ad ?_;rw[GK];refine Ad (Gb J Z Y.tab.fits ?_);dsimp only;refine Ad (Ad (Jy (An (An ?_))));rw[Y.tab.plain];simp only[Mb,Gp,Hu,Bs,Dp];refine Ad (An ?_);unfold setEpoch;refine Ad (Ad (Gb J Z Y.tab.fits (An ?_)));refine Ad (Dh (An ⟨_,Z,"set_iterator",_,⟨_,Be _ Z,Z⟩,vO.lookup,h⟩))
def MZ (Y:ni w S es ep t)(J:s.heap.get? S=Aa (ml es ep t)):At w s.heap.objs.size S es ep t 0 (s.heap.push (w_ 0 0 S es.size ep)):=
 ⟨0,Be _ Z,Ak _ J,.inr (W5 Y.tab.tb.rs)⟩
end
end _S
namespace _S
open PySem.W
structure Ord {K:Type}(lt:K->K->Ar):Prop where
 irr:∀ a,lt a a=Yp
 tr:∀ {a b c},lt a b=Vq->lt b c=Vq->lt a c=Vq
 tri:∀ {a b},lt a b=Yp->a=b\/lt b a=Vq
theorem ZI:∀ a:Ab Aq,_H.lexLt a a=Yp
 |[]=>rfl
 |x::Q=>by rw[_H.dy,Au rfl];exact ZI Q
theorem UD:∀ {a b c:Ab Aq},_H.lexLt a b=Vq->_H.lexLt b c=Vq->_H.lexLt a c=Vq
 |_,[],[],_,h=>by cases h
 |_,_::_,[],_,h=>by cases h
 |[],_,_::_,_,_=>rfl
 |_::_,[],_::_,h,_=>by cases h
 |x::G,y::N,z::O,Y,Q=>by
  rw[_H.dy] at Y Q ⊢;by_cases U:x=y
  .subst U;rw[Au Z] at Y;by_cases J:x=z
   .rw[Au J] at Q ⊢;exact UD Y Q
   .rw[AT J] at Q ⊢;exact Q
  .rw[AT U] at Y;have Y:=Bg Y;by_cases J:y=z
   .subst J;rw[AT U];exact Cm Y
   .rw[AT J] at Q;have Q:=Bg Q;rw[AT om];exact Cm om
theorem ZJ:∀ {a b:Ab Aq},_H.lexLt a b=Yp->a=b\/_H.lexLt b a=Vq
 |[],[],_=>.inl rfl
 |[],_::_,h=>by cases h
 |_::_,[],_=>.inr rfl
 |x::Q,y::Y,h=>by
  rw[_H.dy] at h ⊢;by_cases e:x=y
  .subst e;rw[Au rfl] at h ⊢;rcases ZJ h with h|h
   .exact .inl (by rw[h])
   .exact .inr h
  .rw[AT e] at h;have h:=Ei h;rw[AT (Di e)];exact .inr (Cm om)
def j8:Ord _H.lexLt:=⟨ZI,UD,ZJ⟩
theorem rS {J : Type}{p q:J->Ar}:∀ {l:Ab J},(∀ x∈l,p x=Vq->q x=Vq)->(∃ x∈l,q x=Vq/\p x=Yp)->l.countP p<l.countP q
 |[],_,⟨x,h,_⟩=>by simp at h
 |a::l,h,⟨x,hx,Y,U⟩=>by
  have N:l.countP p<=l.countP q:=Vc λy Q=>h y (by simp[Q]);rw[Zp,Zp];rcases Ay.mp hx with rfl|hx
  .rw[AT (by rw[U];decide),Au Y];fin2
  .have O:=rS (l:=l) (λy Q=>h y (by simp[Q])) ⟨x,hx,Y,U⟩;have:=h a aA;cases G:p a with
   |false=>rw[AT aC];split <;> fin2
   |true=>rw[Au rfl,Au (this G)];fin2
section
variable {K:Type}{lt':K->K->Ar}
def lT (lt':K->K->Ar)(ks:Ab K)(x:K):Aq:=(ks.countP (λk=>lt' k x):Aj)
def o8 (O:Ord lt'){ks:Ab K}{x y:K}(Y:x∈ks):lt' x y=decide (lT lt' ks x<lT lt' ks y):=by
 unfold lT;cases h:lt' x y with
 |true =>
  refine(Cm ?_).symm;have:=rS (l:=ks) (p:=λk=>lt' k x) (q:=λk=>lt' k y) (λz _ Q=>O.tr Q h) ⟨x,Y,h,O.irr x⟩;fin2
 |false =>
  refine(Bq ?_).symm;have:ks.countP (λk=>lt' k y)<=ks.countP (λk=>lt' k x):=by
   rcases O.tri h with e|h'
   .rw[e];exact Ax _
   .exact Vc λz _ Q=>O.tr Q h'
  fin2
def tN (lt':K->K->Ar)(ks:Ab K)(d:K)(i j:Aj):Ar:=lt' (ks.getD i d) (ks.getD j d)
def Nf (lt':K->K->Ar)(l:Ab K):Prop:=l.Pairwise λa b=>lt' b a=Yp
theorem ZO (O:Ord lt'):∀ {a b:Ab K},Nf lt' a->Nf lt' b->a.Perm b->a=b
 |[],b,_,_,p=>(List.nil_perm.mp p).symm
 |x::a,b,Q,Y,p=>by
  cases b with
  |nil=>exact absurd p.symm aA
  |cons y b =>
   unfold Nf at Q Y;rw[Fe] at Q Y;have e:x=y:=by
    rcases Ay.mp (p.mem_iff.mp (.head _)) with e|e
    .exact e
    .rcases Ay.mp (p.mem_iff.mpr (.head _)) with e'|e'
     .exact e'.symm
     .have J:=Q.1 y e';have U:=Y.1 x e;rcases O.tri J with e|h
      .exact e.symm
      .rw[U] at h;cases h
   subst e;rw[ZO O Q.2 Y.2 (List.Perm.cons_inv p)]
def UR (O:Ord lt'){l:Ab K}(h:Nf lt' l)(nd:l.Nodup):l.Pairwise λa b=>lt' a b=true:=by refine List.Pairwise.imp₂ (λ{a b} Q Y=>?_) h nd;exact(O.tri Q).elim (λe=>absurd e.symm Y) id
noncomputable def m5 (lt':K->K->Ar)(l:Ab K):Ab K:=l.mergeSort λa b=>!lt' b a
def m6 (l:Ab K):(m5 lt' l).Perm l:=List.mergeSort_perm _ _
def XF (O:Ord lt')(l:Ab K):Nf lt' (m5 lt' l):=by
 have:=List.pairwise_mergeSort (le:=λa b=>!lt' b a) (λa b c Y Q=>?_) (λa b=>?_) l
 .exact this.imp λh=>by simpa using h
 .have Y:lt' b a=false:=by simpa using Y
  have Q:lt' c b=false:=by simpa using Q
  cases J:lt' c a with
  |false=>rfl
  |true =>
   rcases O.tri Y with e|h
   .rw[<- e] at J;rw[J] at Q;cases Q
   .have:=O.tr J h;rw[Q] at this;cases this
 .cases h:lt' b a with
  |false=>rfl
  |true =>
   cases U:lt' a b with
   |false=>rfl
   |true=>have:=O.tr h U;rw[O.irr] at this;cases this
noncomputable def jV (lt':K->K->Ar)(x:K):Ab K->Ab K
 |[]=>[x]
 |y::l=>if lt' x y then x::y::l else if lt' y x then y::jV lt' x l else y::l
def mi (lt':K->K->Ar):Ab K->Ab K
 |[]=>[]
 |x::Q=>jV lt' x (mi lt' Q)
set_option tactic.hygienic true in
theorem tY (O:Ord lt')(x y:K):∀ l:Ab K,y∈jV lt' x l↔y=x\/y∈l
 |[]=>by simp[jV]
 |z::l=>by
  unfold jV;split
  .simp
  .rename_i Q;split
   .rw[Ay,tY O x y l,Ay];exact⟨λh=>by rcases h with h|h|h <;> simp[h],λh=>by rcases h with h|h|h <;> simp[h]⟩
   .rename_i Y;have:x=z:=(O.tri (by simpa using Q)).elim id λh=>absurd h Y;subst this;simp
set_option tactic.hygienic true in
theorem zi (O:Ord lt')(x:K):∀ l:Ab K,l.Pairwise (λa b=>lt' a b=Vq)->(jV lt' x l).Pairwise (λa b=>lt' a b=Vq)
 |[],_=>by simp[jV]
 |z::l,h=>by
  rw[Fe] at h;unfold jV;split
  .rename_i Q;refine Fe.mpr ⟨λy hy=>?_,Fe.mpr h⟩;rcases Ay.mp hy with rfl|hy
   .exact Q
   .exact O.tr Q (h.1 y hy)
  .split
   .rename_i Y;refine Fe.mpr ⟨λy hy=>?_,zi O x l h.2⟩;rcases (tY O x y l).mp hy with rfl|hy
    .exact Y
    .exact h.1 y hy
   .exact Fe.mpr h
theorem vP (O:Ord lt')(y:K):∀ l:Ab K,y∈mi lt' l↔y∈l
 |[]=>by simp[mi]
 |x::l=>by rw[mi,tY O,vP O y l,Ay]
theorem pI (O:Ord lt'):∀ l:Ab K,(mi lt' l).Pairwise (λa b=>lt' a b=Vq)
 |[]=>by simp[mi]
 |x::l=>zi O x _ (pI O l)
theorem pJ (O:Ord lt'):∀ {a b:Ab K},a.Pairwise (λa b=>lt' a b=Vq)->b.Pairwise (λa b=>lt' a b=Vq)->(∀ x,x∈a↔x∈b)->a=b
 |[],[],_,_,_=>rfl
 |[],y::b,_,_,h=>by have:=(h y).mpr aA;simp at this
 |x::a,[],_,_,h=>by have:=(h x).mp aA;simp at this
 |x::a,y::b,J,U,h=>by
  rw[Fe] at J U;have Y:∀ {u v},lt' u v=Vq->lt' v u=Vq->Fv:=λp q=>by have:=O.tr p q;rw[O.irr] at this;cases this
  have e:x=y:=by
   rcases Ay.mp ((h x).mp aA) with e|e
   .exact e
   .rcases Ay.mp ((h y).mpr aA) with e'|e'
    .exact e'.symm
    .exact(Y (U.1 x e) (J.1 y e')).elim
  subst e;have G:∀ {z:K} {l:Ab K},(∀ y∈l,lt' x y=Vq)->z∈l->z≠x:=λh Q e=>by subst e;have:=h _ Q;rw[O.irr] at this;cases this
  rw[pJ O J.2 U.2 λz=>⟨λQ=>?_,λQ=>?_⟩]
  .exact(Ay.mp ((h z).mp (by simp[Q]))).elim (λe=>absurd e (G J.1 Q)) id
  .exact(Ay.mp ((h z).mpr (by simp[Q]))).elim (λe=>absurd e (G U.1 Q)) id
def A8 (O:Ord lt'){l xs:Ab K}(h:Nf lt' l)(nd:l.Nodup)(m:∀ x,x∈l↔x∈xs):l=mi lt' xs:=
 pJ O (UR O h nd) (pI O xs) λx=>by rw[m,vP O]
end
theorem LG:typeLookup (.type "set") "__len__" = pure (Aa (.builtin "set.__len__")):=PySem.F.slot_set_len.lookup
section
variable {prog:Ba}{w:Bu}{A:Bn}{E:J7}{s:Ai}{S:Af}{es:Br (Aq × Ac)}{ep:Aj}{t:Fq}
def P8 (hT:s.TypeIs (.ref r) "set"){Q:Ar->Ai->Prop}(h:Q Yp s):Ap (As prog w) A (Pz (.ref r)) Q E s:=by
 unfold Pz;refine Ad (Uh hT LG ?_);generalize J:("set.__len__" : Em)=id0
 wp_delta
 rw[show splitId id0=Aa ("set","__len__") from by subst J;decide +kernel];subst J;refine Ad (Sy (T:="set") (b:=Vq) hT (by rw[Vi];kernel_rfl) ?_);refine Ui (λY=>absurd Y aC) (λ_=>?_);refine Ui (λ_=>?_) (λY=>absurd (by decide +kernel) Y);exact Ad (Lo hT (An h))
def oR {Q:Ab Ac->Ai->Prop}(hh:A.handled=Zt)(G:ni w S es ep t)(f:s.heap.get? S=Aa (ml es ep t))(hn:es.size<=1000)
  (h:∀ h' tk,(∀ b o,s.heap.get? b=Aa o->h'.get? b=Aa o)->s.heap.objs.size<h'.objs.size->Q ((z9 w S ep es).toList.map (·.2)) { s with heap:=h',toks:=tk }) : Ap (As prog w) A (collect (.ref S)) Q E s:=by
 have M:S<s.heap.objs.size:=Bh f;unfold collect;refine Ad (wpAny_runValue (Je PySem.F.entry_proto_collect ?_));rw[Jn PySem.F.plain_proto_collect _];show Ap _ A.in1 (newList [] >>= λl=>again (.builtin "list.__iadd__" ⟨[l,.ref S],[]⟩)) _ _ s;refine Ad (Dh (An ⟨Ru Tl _,Je PySem.F.entry_list_iadd ?_⟩));rw[Jn Tl _];have hD:(s.heap.push { cls:=.type "list",data:=.seq ([] : Ab Ac).toArray }).get? s.heap.objs.size=Aa { cls:=.type "list",data:=.seq #[] }:=Be _ Z;have J:(s.heap.push { cls:=.type "list",data:=.seq ([] : Ab Ac).toArray }).get? S=Aa (ml es ep t):=Ak _ f;show Ap _ A.in1 (Qb (.ref s.heap.objs.size) (.ref S) (.ref s.heap.objs.size)) _ _ _;unfold Qb;have k:Wi { s with heap:=s.heap.push { cls:=.type "list",data:=.seq ([] : Ab Ac).toArray } } (.ref S) "set":=⟨_,J,Z⟩
 refine Ad (Lo k ?_);have r:Sj (.ref s.heap.objs.size) (.ref S)=false:=by simp[Sj];exact Hj M
 rw[AT (by rw[r];decide)];refine Ad (PK (s:={ s with heap:=s.heap.push { cls:=.type "list",data:=.seq ([] : Ab Ac).toArray } }) G J ?_);have L:=Ak (w_ 0 0 S es.size ep) hD;have d:Wi { s with heap:=(s.heap.push { cls:=.type "list",data:=.seq ([] : Ab Ac).toArray }).push (w_ 0 0 S es.size ep) } (.ref S) "set":=⟨_,Ak _ J,Z⟩
 refine Ad (Dc (P8 d ?_));refine Ui (λ_=>?_) (λu=>absurd aC u);refine Ad (Kx (Ad ?_));show Ap _ _ (updateSeq s.heap.objs.size (·.push .none) >>= λ_=>updateSeq s.heap.objs.size (·.pop)) _ _ _;refine Ad (t0 L Z ?_);have C:=Dy (Ey (·.push El)) L Z;refine t0 (hz:=by seq_fits) C Z ?_;have y:=Dy (Ey (·.pop)) C Z;have T:(s.heap.push { cls:=.type "list",data:=.seq ([] : Ab Ac).toArray }).objs.size=s.heap.objs.size+1:=Er ..;have U:∀ {b:Af} {o:Cd},b≠s.heap.objs.size->((s.heap.push { cls:=.type "list",data:=.seq ([] : Ab Ac).toArray }).push (w_ 0 0 S es.size ep)).get? b=Aa o ->
   ((((s.heap.push { cls:=.type "list",data:=.seq ([] : Ab Ac).toArray }).push (w_ 0 0 S es.size ep)).update s.heap.objs.size (Ey (·.push El))).update s.heap.objs.size (Ey (·.pop))).get? b=Aa o:=
  λN e=>(Ci _ _ (Di N)).trans ((Ci _ _ (Di N)).trans e)
 have g:=MZ (w:=w) (s:={ s with heap:=s.heap.push { cls:=.type "list",data:=.seq ([] : Ab Ac).toArray } }) G J;refine An ⟨Ru PySem.F.plain_extend_loop _,?_⟩;refine codeAny_extend_loopS ((R8 (prog:=prog) (A:=A.in1) (I:=(s.heap.push { cls:=.type "list",data:=.seq ([] : Ab Ac).toArray }).objs.size) hh (by rw[T];exact Cn (Yg M)) G).toS) (by rw[Dv];lia) s.heap.objs.size ?_ _ es.size 0 _ #[] _ Z (Fi _) ?_ y (ItemsOf.nil _) λv H c z B Y=>?_
 .rw[T];simp only[Ay,Cz,Fw,not_or];exact⟨Cn (Hl _),Hj M⟩
 .obtain⟨slot,a1,x,a⟩:=g;exact⟨slot,U (by rw[T];exact Hj (Hl _)) a1,U (Cn M) x,a⟩
 .show Ap _ A (load s.heap.objs.size >>= _) _ _ v;refine Ad (wpAny_load B ?_);obtain⟨h',g',d',p,j⟩:=v;have m:g'=s.gens:=z.gens;have n:d'=s.drawn:=z.drawn;have eo:j=s.os:=z.os;subst m;subst n;subst eo;have e:H.toList=(z9 w S ep es).toList.map (·.2):=by
   refine List.ext_getElem? λi=>?_;rw[Bw,Es,Bw];by_cases hi:i<es.size
   .have O:i<H.size:=by rw[Y.1];exact hi
    obtain⟨e,he,q⟩:=Y.2 i H[i] (Dj O);rw[Dj O,he,Ug,q]
   .rw[Kv (by rw[Y.1];lia),Kv (by rw[jH];lia)];rfl
  refine An ?_;show Q H.toList _;rw[e];refine h h' p (λb o q=>?_) (Bh B);have N:b<s.heap.objs.size:=Bh q;refine z.heap b o (λhx=>?_) (U (Cn N) (Ak _ (Ak _ q)));simp only[Ay,Cz,Fw] at hx;rcases hx with hx|hx
  .exact absurd N (by rw[hx];exact Fh _)
  .exact absurd N (by rw[hx,T];exact Lz.mpr (Jt _))
end
def run (f:Aj->Aj->Ar){J : Type}:KasT J -> J
 |.ret a=>a
 |.ask i j k=>run f (k (f i j))
theorem uM (f:Aj->Aj->Ar){J β:Type}(g:J->KasT β) : ∀ t:KasT J,run f (t.bind g)=run f (g (run f t))
 |.ret _=>rfl
 |.ask i j k=>uM f g (k (f i j))
section
variable (r:Aj->Aq)
def lt (i j:Aj):Ar:=decide (r i<r j)
def ky (p:Br Aj)(k:Aj):Aq:=r (p.getD k 0)
def Up (p:Br Aj)(n:Aj):Prop:=∀ i j,i<=j->j<n->ky r p i<=ky r p j
def Dn (p:Br Aj)(n:Aj):Prop:=∀ i j,i<=j->j<n->ky r p j<=ky r p i
variable {r}
def lD {p q:Br Aj}{i j:Aj}(h:p[i]? = q[j]?):ky r p i=ky r q j:=by unfold ky;rw[Qc,Qc,h]
set_option tactic.hygienic true in
def lE {p:Br Aj}{i j:Aj}(Q:j<=p.size)(k:Aj):ky r (Mc p i j) k=if i<=k/\k<j then ky r p (i+j-1-k) else ky r p k:=by
 have:=getElem?_mirror_all (xs:=p) (i:=i) Q k;unfold Mc;split
 .rename_i h;rw[Au h] at this;exact lD this
 .rename_i h;rw[AT h] at this;exact lD this
def vK (p:Br Aj)(i j:Aj):(Mc p i j).size=p.size:=mirror_size _ _ _ _
def wV (p:Br Aj)(i j:Aj):(Mc p i j).Perm p:=mirror_perm _ _ _ _
theorem tM (p:Br Aj):∀ (f n:Aj),1<=n->let m:=run (lt r) (kas_asc p f n);n<=m/\m<=n+f/\(∀ k,n<=k->k<m->ky r p (k-1)<=ky r p k)/\(m<n+f->ky r p m<ky r p (m-1))
 |0,n,_=>⟨Ax _,Ax _,λk Y Q=>by have:k<n:=Q;lia,λh=>by have:n<n+0:=h;lia⟩
 |f+1,n,O=>by
  simp only[kas_asc,run];cases J:lt r (p.getD n 0) (p.getD (n-1) 0) with
  |true =>
   simp only[Dw,run];exact⟨Ax _,by lia,λk Y Q=>by lia,λ_=>Bg J⟩
  |false =>
   simp only[Bs,Dp];obtain⟨Y,Q,N,G⟩:=tM p f (n+1) ak;refine⟨by lia,by lia,λk a b=>?_,λh=>G ak⟩;by_cases U:k=n
   .subst U;exact Ps.mp (Ei J)
   .exact N k ak b
def MN {m:Aj}(h:∀ k,1<=k->k<m->ky r p (k-1)<=ky r p k):Up r p m:=by
 intro i j Y Q
 induction j with
 |zero =>
  have:i=0:=by lia
  subst this;exact Lf _
 |succ j J =>
  by_cases e:i=j+1
  .subst e;exact Lf _
  .exact Tn (J ak ak) (h (j+1) ak Q)
def yq (p:Br Aj)(n q:Aj):Prop:=q<n/\∀ k,n-(q+1)<=k->k<n->ky r p k=ky r p (n-1)
def aR (p:Br Aj)(n:Aj):yq (r:=r) p (n+1) 0:=⟨Kf _,λk a b=>by
 have:k=n:=by lia
 subst this;rfl⟩
set_option tactic.hygienic true in
def QK {p:Br Aj}{n q:Aj}(Y:n<=p.size)(h:yq (r:=r) p n q)(k:Aj):ky r (Mc p (n-(q+1)) n) k=ky r p k:=by
 rw[lE Y];split
 .rename_i Q;rw[h.2 k Q.1 Q.2,h.2 (n-(q+1)+n-1-k) ak ak]
 .rfl
def dQ (h:∀ k,ky r Q k=ky r p k){n:Aj}(d:Dn r p n):Dn r Q n:=λi j a b=>by rw[h,h];exact d i j a b
theorem kO:∀ (f:Aj) (p:Br Aj) (n q:Aj),n+f<=p.size->1<=n->Dn r p n->yq (r:=r) p n q ->
  let o:=run (lt r) (u8 f p n q);o.1.size=p.size/\o.1.Perm p/\n<=o.2.1/\o.2.1<=n+f/\Dn r o.1 o.2.1/\yq (r:=r) o.1 o.2.1 o.2.2
 |0,p,n,q,_,_,d,e=>⟨rfl,Mm _,Ax _,Ax _,d,e⟩
 |f+1,p,n,q,w,z,d,e=>by
  simp only[u8,run];cases I:lt r (p.getD n 0) (p.getD (n-1) 0) with
  |true =>
   have O:ky r p n<ky r p (n-1):=Bg I;simp only[Dw];have G:Dn r p (n+1):=λi j a b=>by
    by_cases B:j=n
    .subst B;by_cases L:i=j
     .subst L;exact Lf _
     .exact Tn (To O) (d i (j-1) ak ak)
    .exact d i j a ak
   have N:∀ p:Br Aj,yq (r:=r) p (n+1) 0:=λp=>aR p n;by_cases T:q>0
   .rw[Au T];have C:=QK (r:=r) (p:=p) (n:=n) (q:=q) ak e;obtain⟨J,U,E,H,Y,Q⟩:=kO f (Mc p (n-(q+1)) n) (n+1) 0 (by rw[vK];lia) ak (dQ C G) (N _);exact⟨by rw[J,vK],U.trans (wV _ _ _),by lia,by lia,Y,Q⟩
   .rw[AT T];obtain⟨J,U,E,H,Y,Q⟩:=kO f p (n+1) 0 ak ak G (N _);exact⟨J,U,by lia,by lia,Y,Q⟩
  |false =>
   simp only[Bs,Dp,run];cases M:lt r (p.getD (n-1) 0) (p.getD n 0) with
   |true =>
    simp only[Dw,run];exact⟨by trivial,Mm _,Ax _,by lia,d,e⟩
   |false =>
    simp only[Bs,Dp];have A:ky r p n=ky r p (n-1):=v4 (Ps.mp (Ei M)) (Ps.mp (Ei I));have G:Dn r p (n+1):=λi j a b=>by
     by_cases B:j=n
     .subst B;by_cases L:i=j
      .subst L;exact Lf _
      .rw[A];exact d i (j-1) ak ak
     .exact d i j a ak
    have N:yq (r:=r) p (n+1) (q+1):=⟨by have:=e.1;lia,λk a b=>by
     by_cases C:k=n
     .subst C;rfl
     .rw[e.2 k ak ak];exact A.symm⟩
    obtain⟨J,U,E,H,Y,Q⟩:=kO f p (n+1) (q+1) ak ak G N;exact⟨J,U,by lia,by lia,Y,Q⟩
structure Got (r:Aj->Aq)(p:Br Aj)(N:Aj)(o:Aj × Br Aj):Prop where
 size:o.2.size=p.size
 perm:o.2.Perm p
 pos:1<=o.1
 le:o.1<=N
 up:Up r o.2 o.1
def eZ {p:Br Aj}{n N:Aj}(C:N<=p.size)(Q:1<=n)(G:n<=N)(d:Dn r p n):Got r p N (run (lt r) (kas_tail3 n N p)):=by
 unfold kas_tail3;rw[uM];obtain⟨Y,J,O,B⟩:=tM (r:=r) (Mc p 0 n) (N-n) n Q;refine⟨vK _ _ _,wV _ _ _,By Q Y,By J ak,MN λk a b=>?_⟩;show ky r (Mc p 0 n) (k-1)<=ky r (Mc p 0 n) k;by_cases U:n<=k
 .exact O k U b
 .rw[lE ak,lE ak,Au ak,Au ak];exact d _ _ ak ak
def bX {p:Br Aj}{n N:Aj}(B:N<=p.size)(T:1<=n)(O:n+1<=N)(d:Dn r p (n+1)):Got r p N (run (lt r) (Xm n N p)):=by
 unfold Xm;rw[uM];obtain⟨Q,Y,C,L,J,G⟩:=kO (r:=r) (N-(n+1)) p (n+1) 0 ak ak d (aR p n);generalize run (lt r) (u8 (N-(n+1)) p (n+1) 0)=o at *;split
 .have U:=QK (r:=r) (p:=o.1) (n:=o.2.1) (q:=o.2.2) ak G;have g:=eZ (p:=Mc o.1 (o.2.1-(o.2.2+1)) o.2.1) (N:=N) (by rw[vK];lia) ak ak (dQ U J);exact⟨by rw[g.size,vK,Q],(g.perm.trans (wV _ _ _)).trans Y,g.pos,g.le,g.up⟩
 .have g:=eZ (p:=o.1) (N:=N) ak ak ak J;exact⟨by rw[g.size,Q],g.perm.trans Y,g.pos,g.le,g.up⟩
def W9 {p:Br Aj}{N:Aj}(B:N<=p.size)(C:1<=N):Got r p N (run (lt r) (Yi N p)):=by
 unfold Yi;rw[uM];obtain⟨w,M,E,L⟩:=tM (r:=r) p (N-1) 1 (Ax _);generalize run (lt r) (kas_asc p (N-1) 1)=n at *;have up:Up r p n:=MN E;by_cases O:n=N
 .subst O;rw[Au aA];exact⟨Z,Mm _,C,Ax _,up⟩
 .rw[AT (by simpa using O)];have J:=L ak;by_cases Y:n>1
  .rw[Au Y];simp only[run];cases T:lt r (p.getD 0 0) (p.getD (n-1) 0) with
   |true=>simp only[Dw,run];exact⟨rfl,Mm _,by show 1<=n;lia,by show n<=N;lia,up⟩
   |false =>
    simp only[Bs,Dp];have G:ky r p (n-1)<=ky r p 0:=Ps.mp (Ei T);have all:∀ k,k<n->ky r p k=ky r p 0:=λk I=>v4 (Tn (up k (n-1) ak ak) G) (up 0 k ak I);have Q:∀ k,ky r (Mc p 0 n) k=ky r p k:=λk=>by
     rw[lE ak];split
     .rw[all k ak,all _ ak]
     .rfl
    have g:=bX (p:=Mc p 0 n) (n:=n) (N:=N) (by rw[vK];lia) ak ak (dQ Q λi j a b=>by
     by_cases H:j=n
     .subst H;by_cases A:i=j
      .subst A;exact Lf _
      .rw[all i ak,<- all (j-1) ak];exact To J
     .rw[all i ak,all j ak];exact Lf _)
    exact⟨by rw[g.size,vK],g.perm.trans (wV _ _ _),g.pos,g.le,g.up⟩
  .rw[AT Y];have e:n=1:=by lia
   subst e;exact bX B (Ax _) ak λi j a b=>by
    by_cases U:i=j
    .subst U;exact Lf _
    .have:i=0:=by lia
     have:j=1:=by lia
     subst i j;exact To J
theorem bF (p:Br Aj)(k:Aj)(up:Up r p k):∀ (f l h:Aj),h-l<=f->l<=h->h<=k->(∀ i,i<l->ky r p i<=ky r p k)->(∀ i,h<=i->i<k->ky r p k<ky r p i) ->
  let m:=run (lt r) (Yj p k f l h);m<=k/\(∀ i,i<m->ky r p i<=ky r p k)/\(∀ i,m<=i->i<k->ky r p k<ky r p i)
 |0,l,h,N,O,Q,a,b=>by
  have:l=h:=by lia
  subst this;exact⟨Q,a,b⟩
 |f+1,l,h,N,O,Q,a,b=>by
  simp only[Yj];by_cases G:l>=h
  .rw[Au G];have:l=h:=by lia
   subst this;exact⟨Q,a,b⟩
  .rw[AT G];simp only[run];cases U:lt r (p.getD k 0) (p.getD ((l+h)/2) 0) with
   |true =>
    simp only[Dw];have Y:ky r p k<ky r p ((l+h)/2):=Bg U;exact bF p k up f l ((l+h)/2) ak ak ak a λi x y=>Int.lt_of_lt_of_le Y (up _ _ x y)
   |false =>
    simp only[Bs,Dp];have J:ky r p ((l+h)/2)<=ky r p k:=Ps.mp (Ei U);exact bF p k up f ((l+h)/2+1) h ak ak Q (λi x=>Tn (up _ _ ak ak) J) b
def eG {p:Br Aj}{k l:Aj}(J:k<p.size)(U:l<=k)(i:Aj):ky r (bubble p k (k-l)) i=if i=l then ky r p k else if l<i/\i<=k then ky r p (i-1) else ky r p i:=by
 have h:=getElem?_bubble (xs:=p) J (k-l) ak i;rw[show k-(k-l)=l by lia] at h;by_cases Q:i=l
 .rw[Au Q] at h ⊢;exact lD h
 .rw[AT Q] at h ⊢;by_cases Y:l<i/\i<=k
  .rw[Au Y] at h ⊢;exact lD h
  .rw[AT Y] at h ⊢;exact lD h
theorem cU:∀ (f:Aj) (p:Br Aj) (k:Aj),k+f<=p.size->Up r p k->let o:=run (lt r) (kas_bin f p k);o.size=p.size/\o.Perm p/\Up r o (k+f)
 |0,p,k,_,up=>⟨rfl,Mm _,up⟩
 |f+1,p,k,E,up=>by
  simp only[kas_bin];rw[uM];obtain⟨J,O,C⟩:=bF p k up k 0 k ak ak (Ax _) (λi I=>by lia) λi a b=>by lia
  generalize run (lt r) (Yj p k k 0 k)=l at *;have Y:Up r (bubble p k (k-l)) (k+1):=λi j a b=>by
   rw[eG ak J,eG ak J];by_cases U:i=l
   .rw[Au U];by_cases Q:j=l
    .rw[Au Q];exact Lf _
    .rw[AT Q,Au ak];exact To (C (j-1) ak ak)
   .rw[AT U];by_cases N:l<i/\i<=k
    .rw[Au N,AT ak,Au ak];exact up _ _ ak ak
    .rw[AT N];by_cases Q:j=l
     .rw[Au Q];exact O i ak
     .rw[AT Q];by_cases G:l<j/\j<=k
      .rw[Au G];exact up _ _ ak ak
      .rw[AT G];exact up _ _ a ak
  obtain⟨B,T,L⟩:=cU f (bubble p k (k-l)) (k+1) (by rw[bubble_size];lia) Y;exact⟨by rw[B,bubble_size],T.trans (bubble_perm _ _ _),by rw[show k+(f+1)=k+1+f by lia];exact L⟩
set_option tactic.hygienic true in
def JQ {n:Aj}(U:1<=n):let o:=run (lt r) (Pc n);o.toList.Perm (Ch n)/\Up r o n:=by
 unfold Pc;simp only[uM];have G:(Na (Ch n)).size=n:=by simp
 have g:=W9 (r:=r) (p:=Na (Ch n)) (N:=n) ak U;generalize run (lt r) (Yi n (Na (Ch n)))=c at *;have Y:∀ {o:Br Aj},o.Perm (Na (Ch n))->o.toList.Perm (Ch n):=λh=>by simpa using Array.perm_iff_toList_perm.mp h
 split
 .rename_i Q;have O:max c.1 1=c.1:=by have:=g.pos;lia
  rw[O];obtain⟨B,C,J⟩:=cU (n-c.1) c.2 c.1 (by rw[g.size,G];lia) g.up;refine⟨Y (C.trans g.perm),?_⟩;rw[show c.1+(n-c.1)=n by lia] at J;exact J
 .rename_i Q;have:c.1=n:=by have:=g.le;lia
  refine⟨Y g.perm,?_⟩;have u:=g.up;rw[this] at u;exact u
end
def me (n:Aj){J : Type}(T:J->Prop):KasT J -> Prop
 |.ret a=>T a
 |.ask i j k=>i<n/\j<n/\∀ b,me n T (k b)
def PB (n:Aj)(p:Br Aj):Prop:=∀ k,p.getD k 0<n
def PB.perm {p q:Br Aj}(h:PB n p)(e:q.Perm p):PB n q:=λk=>by
 by_cases Y:k<q.size
 .have Q:q.getD k 0=q[k]:=by simp[Jb,Y]
  rw[Q];have:q[k]∈p:=e.mem_iff.mp (Array.getElem_mem Y);obtain⟨j,U,J⟩:=Array.mem_iff_getElem.mp this;have:=h j;rw[show p.getD j 0=p[j] by simp[Jb,U]] at this;rw[<- J];exact this
 .have Q:q.getD k 0=0:=by simp[Jb,Y]
  rw[Q];exact Qm (Fi _) (h 0)
theorem me.bind {J β:Type}{T:J->Prop}{U:β->Prop}{g:J->KasT β}: ∀ {t:KasT J},me n T t->(∀ a,T a->me n U (g a))->me n U (t.bind g)
 |.ret a,h,Q=>Q a h
 |.ask i j k,⟨Y,G,N⟩,Q=>⟨Y,G,λb=>me.bind (N b) Q⟩
theorem K9 {n:Aj}{f:Aj->Aj->Ar}{Q:Aj->Aj->(Ar->Ai->Prop)->Ai->Prop}(Y:∀ i j (C:Ar->Ai->Prop),i<n->j<n->C (f i j) s->Q i j C s){J : Type}{T:J->Prop}{G:J->Ai->Prop}:∀ t:KasT J,me n T t->G (run f t) s->t.kasWp Q G s
 |.ret _,_,h=>h
 |.ask i j k,⟨U,N,O⟩,h=>Y i j _ U N (K9 Y (k (f i j)) (O _) h)
def wR {J : Type}{T:J->Prop}{c:Prop}[Jf c]{a b:KasT J}(Q:me n T a)(Y:me n T b):me n T (if c then a else b):=by
 split
 .exact Q
 .exact Y
section
variable {n:Aj}
theorem dZ (h:PB n p):∀ f m,me n (λ_=>Jg) (kas_asc p f m)
 |0,m=>trivial
 |f+1,m=>⟨h _,h _,λb=>wR trivial (dZ h f (m+1))⟩
theorem pX:∀ (f:Aj) {p:Br Aj} (m q:Aj),PB n p->me n (λo=>PB n o.1) (u8 f p m q)
 |0,p,m,q,h=>h
 |f+1,p,m,q,h=>⟨h _,h _,λb=>wR (wR (pX f _ _ (h.perm (wV _ _ _))) (pX f _ _ h)) ⟨h _,h _,λd=>wR h (pX f _ _ h)⟩⟩
def eD (h:PB n p)(m N:Aj):me n (λo=>PB n o.2) (kas_tail3 m N p):=me.bind (dZ (h.perm (wV _ _ _)) _ _) λ_ _=>h.perm (wV _ _ _)
def fM (h:PB n p)(m N:Aj):me n (λo=>PB n o.2) (Xm m N p):=me.bind (pX _ _ _ h) λo Q=>wR (eD (Q.perm (wV _ _ _)) _ _) (eD Q _ _)
def U2 (h:PB n p)(N:Aj):me n (λo=>PB n o.2) (Yi N p):=me.bind (dZ h _ _) λm _=>wR h (wR ⟨h _,h _,λb=>wR h (fM (h.perm (wV _ _ _)) _ _)⟩ (fM h _ _))
theorem fN (h:PB n p)(k:Aj):∀ f l r,me n (λ_=>Jg) (Yj p k f l r)
 |0,l,r=>trivial
 |f+1,l,r=>wR (T:=λ_=>Jg) trivial ⟨h _,h _,λb=>wR (fN h k f _ _) (fN h k f _ _)⟩
theorem QZ:∀ (f:Aj) {p:Br Aj} (k:Aj),PB n p->me n (λ_=>Jg) (kas_bin f p k)
 |0,p,k,h=>trivial
 |f+1,p,k,h=>me.bind (fN h k k 0 k) λl _=>QZ f (k+1) (h.perm (bubble_perm _ _ _))
def i3 (Y:0<n):me n (λ_=>Jg) (Pc n):=by
 have h:PB n (Na (Ch n)):=λk=>by
  by_cases Q:k<n
  .simp[Jb,Q]
  .simp[Jb,Q,Y]
 exact me.bind (U2 h n) λo J=>wR (QZ _ _ J) (show me n (λ_=>Jg) (.ret o.2) from trivial)
end
structure yk (prog:Ba)(w:Bu)(h0:Bb)(vs:Y8)(f:Aj->Aj->Ar):Prop where
 ex:∃ κ,∀ (A:Bn),A.units+8<Fk->∀ (s:Ai),ip h0 s.heap->(∀ (Q:SortKind->Ai->Prop) (E:J7),Q κ s->Ap (As prog w) A (keyKind' vs.toArray) Q E s)/\∀ i j (C:Ar->Ai->Prop),i<vs.length->j<vs.length->C (f i j) s->kas_ask prog w A κ vs i j C s
theorem eQ {n:Aj}{f g:Aj->Aj->Ar}(h:∀ i j,i<n->j<n->f i j=g i j){J : Type}{T:J->Prop}:∀ t:KasT J,me n T t->run f t=run g t
 |.ret _,_=>rfl
 |.ask i j k,⟨Q,Y,U⟩=>by show run f (k (f i j))=run g (k (g i j));rw[h i j Q Y];exact eQ h _ (U _)
section
variable {prog:Ba}{w:Bu}{A:Bn}{E:J7}{s:Ai}
theorem M4 {K:Type}{is:K->Ac->Prop}{lt':K->K->Ar}{d:K}(O:Ord lt')(zl:∀ {k k':K} {v:Ac},is k v->is k' v->k=k'){a:Af}{vs:Y8}{ks:Ab K}{n:Aj}{h0:Bb}{P:PySem.Fin->Ai->Prop}(J:vs.length=ks.length)(zc:∀ i v,vs[i]? = Aa v->is (ks.getD i d) v)(f:s.heap.get? a=Aa (Ek "list" vs.toArray n))(hu:A.units+8<Fk)(hz:vs.length<=63)(c:2<=vs.length->yk prog w h0 vs (tN lt' ks d))(hS:ip h0 s.heap)(ha:h0.get? a=Zt)
  (h:∀ ps:Ab (K × Ac),ps.Perm (ks.zip vs)->Nf lt' (ps.map (·.1))->P (.done (.ret .none)) { s with heap:=sortedHeap s.heap a vs (ps.map (·.2)).toArray }) : Ap (As prog w) A (Ih.«list.sort» ⟨[.ref a],[]⟩) P E s:=by
 rw[list_sort_plain];have hb:a<s.heap.objs.size:=Bh f;have m:vs.toArray.size=vs.length:=by simp
 refine Ad (listItems_at f Z (Ad (listUpdate_at f Z ?_ (by rw[m,Dv];fin2) (Fi _))));obtain⟨l,I⟩:∃ l,(s.heap.update a (Ey λ_=>#[])).get? a=Aa (Ek "list" #[] l):=⟨_,Mn f (λ_=>#[])⟩;refine Ad (seqEpoch_at I rfl (Ad (wpAny_newTuple (Ad (Wk (Dc ?_) (Fi _))) (by show vs.length<=_;rw[Dv];fin2))));have y:(((s.heap.update a (Ey λ_=>#[])).push (Ek "tuple" vs.toArray 0)).push (Ek "list" #[] 0)).get? a=Aa (Ek "list" #[] l):=
  Ak _ (Ak _ I)
 have S6:ip h0 (((s.heap.update a (Ey λ_=>#[])).push (Ek "tuple" vs.toArray 0)).push (Ek "list" #[] 0)):=λb o e =>
  Ak _ (Ak _ ((Ci _ _ (λz:a=b=>by rw[<- z,ha] at e;cases e)).trans (hS b o e)))
 show Ap (As prog w) A _ P E { s with heap:=((s.heap.update a (Ey λ_=>#[])).push (Ek "tuple" vs.toArray 0)).push (Ek "list" #[] 0) };dsimp only;have q:∀ (Y:SortSt) (ps:Ab (K × Ac)),(arrOf Y).map (·.2)=(ps.map (·.2)).toArray->failedOf Y=Zt->ps.Perm (ks.zip vs)->Nf lt' (ps.map (·.1))->Ap (As prog w) A (do
   let U:=(<- seqEpoch a) != l
   Builtin.List.listUpdate (.ref a) λ_=>(arrOf Y).map (·.2)
   if let Aa e:=failedOf Y then rule "list.sort.comparison-raised";throw e
   if U then rule "list.sort.modified";raiseError "ValueError" "list modified during sort"
   ret .none) P E { s with heap:=((s.heap.update a (Ey λ_=>#[])).push (Ek "tuple" vs.toArray 0)).push (Ek "list" #[] 0) }:=by
  intro Y ps t B g h4;have hl:(ps.map (·.2)).length=vs.length:=by rw[Ao,g.length_eq,Uj,J,Xi]
  refine Ad (seqEpoch_at y Z ?_);rw[t];refine Ad (listUpdate_at y Z ?_ (Fi _) (by show (ps.map (·.2)).toArray.size<=_;rw[Bf,hl,Dv];fin2));rw[B];simp only[bne_self_eq_false,Bs,Dp];exact An (h ps g h4)
 by_cases B:vs.toArray.size<2
 .rw[Au B,Au B];refine Ad (An ?_);rw[StateT.run_pure];refine Ad (An ?_);refine q (SortSt.mk' general' (vs.toArray.zip vs.toArray) #[] 7 Zt) (ks.zip vs) ?_ Z (Aa5 _) ?_
  .show (vs.toArray.zip vs.toArray).map (·.2)=_;apply Zq.mp;simp[List.map_snd_zip,J]
  .rw[Tc om]
   match ks,J with
   |[],_=>exact Nm
   |[_],_=>exact Nc _ _
   |_::_::_,e=>simp at e B;fin2
 .rw[AT B,AT B];have M:2<=vs.length:=by fin2
  obtain⟨κ,C⟩:=c M;obtain⟨k1,k2⟩:=C A hu { s with heap:=((s.heap.update a (Ey λ_=>#[])).push (Ek "tuple" vs.toArray 0)).push (Ek "list" #[] 0) } S6;have km:∀ i,i<vs.length->ks.getD i d∈ks:=λi T=>by
   have:i<ks.length:=by fin2
   simp[Ma,this]
  have rc:run (tN lt' ks d) (Pc vs.length)=run (lt λi=>lT lt' ks (ks.getD i d)) (Pc vs.length):=eQ (λi j T _=>o8 O (km i T)) _ (i3 (n:=vs.length) om);obtain⟨N,L⟩:=JQ (r:=λi=>lT lt' ks (ks.getD i d)) (n:=vs.length) om;rw[<- rc] at N L;refine Ad (k1 _ _ ?_);refine Ad (Fm (kat_run (ks:=vs) (vs:=vs) (Q:=λY H=>(arrOf Y).map (·.2)=((run (tN lt' ks d) (Pc vs.length)).toList.map λi=>vs.getD i El).toArray/\failedOf Y=Zt/\H={ s with heap:=((s.heap.update a (Ey λ_=>#[])).push (Ek "tuple" vs.toArray 0)).push (Ek "list" #[] 0) })
   (G:=λp H=>p=run (tN lt' ks d) (Pc vs.length)/\H={ s with heap:=((s.heap.update a (Ey λ_=>#[])).push (Ek "tuple" vs.toArray 0)).push (Ek "list" #[] 0) }) Z M om (λp Y H a1 a2 a3 a4=>⟨?_,a3,a4.2⟩) (K9 k2 _ (i3 om) ⟨Z,Z⟩)) ?_ λ_ _ e=>e)
  .rw[kat_snds Z a2,a4.1]
  .rintro⟨⟨⟩,Y⟩ H ⟨q1,q2,rfl⟩;generalize run (tN lt' ks d) (Pc vs.length)=p at N L q1;have bd:∀ i (T:i<p.toList.length),p.toList[i]<vs.length:=λi T=>Fg.mp (N.mem_iff.mp (Il T));refine q _ (p.toList.map λi=>(ks.getD i d,vs.getD i El)) ?_ q2 ?_ ?_
   .rw[q1,Dk];rfl
   .refine(N.map _).trans (List.Perm.of_eq ?_);apply Sz
    .simp[J]
    .intro i t B;have g:i<vs.length:=by simpa using t
     have h4:i<ks.length:=by fin2
     simp[g,h4]
   .rw[Dk];unfold Nf;rw[Eh];refine Rq.mpr λi j T hj x=>?_;have hp:=N.length_eq;rw[Et] at hp;have u:=L i j (Hi x) om;have gd:∀ k (hk:k<p.toList.length),p.getD k 0=p.toList[k]:=λk hk=>by
     have:k<p.size:=by simpa using hk
     simp[Jb,this]
    unfold ky at u;rw[gd i T,gd j hj] at u;show lt' (ks.getD p.toList[j] d) (ks.getD p.toList[i] d)=Yp;rw[o8 O (km _ (bd j hj))];exact Bq (Ps.mpr u)
end
section
variable {prog:Ba}{w:Bu}{h0:Bb}
def LH {Q:Ar->Ai->Prop}:∀ {xs ys:Ab Aq} {us vs:Y8} {i:Aj} {N M:Aj},ItemsAre (Iq prog w) xs us->ItemsAre (Iq prog w) ys vs->N+ys.length=M+xs.length->Q (_H.lexLt xs ys) s->KatLex prog w A b (decide (N<M)) Q (us.zip vs) i s:=by
 intro xs ys us vs i N M U
 induction U generalizing ys vs i with
 |nil =>
  intro J Y h;cases J with
  |nil =>
   have:decide (N<M)=false:=Bq (by simp at Y;lia);rw[this];exact h
  |@cons k v ys vs q r =>
   have:decide (N<M)=true:=Cm (by simp at Y;lia);rw[this];exact h
 |@cons x u xs us G T O =>
  intro J Y h;cases J with
  |nil =>
   have:decide (N<M)=false:=Bq (by simp at Y;lia);rw[this];exact h
  |@cons y v ys vs C B =>
   obtain⟨t,rfl⟩:=sA (prog:=prog) (w:=w) G;obtain⟨L,rfl⟩:=sA (prog:=prog) (w:=w) C;rw[Kg];refine kat_cons (Yt ?_);rw[_H.dy] at h;refine kat_go (λe=>kat_yes ?_) λe=>kat_no ?_
   .rw[Au (by simpa using e)] at h;exact O B (by simp at Y;lia) h
   .rw[AT (by simpa using e)] at h;cases b&&i == 0 with
    |true=>exact oneLt_int h
    |false=>exact kat_one _ _ (Vu h)
theorem XJ:∀ {vs:Y8} {ks:Ab (Ab Aq)},vs.length=ks.length->(∀ i v,vs[i]? = Aa v->il prog w h (ks.getD i []) v)->(∀ k∈ks,k≠[])->∃ fs,KatTups h vs fs/\fs.length=vs.length/\∀ f∈fs,∃ n t,f=Uo n t
 |[],[],_,_,_=>⟨[],trivial,rfl,λf hf=>by simp at hf⟩
 |v::vs,k::ks,E,hv,J=>by
  obtain⟨fs,O,L,C⟩:=XJ (vs:=vs) (ks:=ks) (by simpa using E) (λi u N=>by simpa using hv (i+1) u (by simpa using N)) λk G=>J k (by simp[G]);obtain⟨a,rfl,o,Q,n,B,T,I,H⟩:=hv 0 v rfl;have G:k≠[]:=J k aA;have Y:ItemsAre (Iq prog w) k Q.toList:=H;cases U:Q.toList with
  |nil=>rw[U] at Y;cases Y;exact absurd rfl G
  |cons f A =>
   rw[U] at Y;cases Y with
   |cons q _ =>
    obtain⟨t,rfl⟩:=sA (prog:=prog) (w:=w) q;refine⟨_::fs,KatTups.cons B T I (by rw[<- Bw,U];rfl) O,by simp[L],λf hf=>?_⟩;rcases Ay.mp hf with rfl|hf
    .exact⟨_,_,Z⟩
    .exact C f hf
def E6 {vs:Y8}{ks:Ab (Ab Aq)}(p:vs.length=ks.length)(hv:∀ i v,vs[i]? = Aa v->il prog w h0 (ks.getD i []) v)(J:∀ k∈ks,k≠[])(x:2<=vs.length):yk prog w h0 vs (tN _H.lexLt ks []):=by
 refine⟨tuples' (Ht "int" != Ht "tuple"),λA hu s G=>⟨λQ E h=>?_,λi j C c l h=>?_⟩⟩
 .obtain⟨d,z,a2,y⟩:=XJ (h:=s.heap) p (λi v Y=>by obtain⟨a,e,q⟩:=hv i v Y;exact⟨a,e,j0 G q⟩) J;refine kat_kind z ak (λv Y=>?_) aC h;obtain⟨n,t,rfl⟩:=y v Y;exact Looks.of_pure rfl
 .have g:∀ k (U:k<vs.length),∃ a,vs.getD k El=.ref a/\Ta (Iq prog w) s.heap (ks.getD k []) a:=λk U=>by
   obtain⟨a,e,q⟩:=hv k vs[k] (Bd U);exact⟨a,by rw[<- e];simp[Ma,U],j0 G q⟩
  obtain⟨a,I,r,ia,na,B,_,M,O⟩:=g i c;obtain⟨b,H,m,f,nb,o,_,L,N⟩:=g j l;unfold kas_ask;rw[I,H];refine kat_lt B M o L (LH O N ?_ h);have T:=O.length;have u:=N.length;simp only[Do] at T u;lia
end
section
variable {K:Type}
def KB {J : Type}{ks:Ab K}{vs:Ab J}(G:vs.length=ks.length){p:K × J}(h:p∈ks.zip vs):∃ i,vs[i]? = Aa p.2/\ks.getD i d=p.1:=by
 obtain⟨i,U,e⟩:=Ef.mp h;have Q:i<ks.length:=by rw[Uj] at U;lia
 have Y:i<vs.length:=by lia
 rw[List.getElem_zip] at e;subst e;exact⟨i,Bd Y,by simp[Q]⟩
end
structure Kind (prog:Ba)(w:Bu){K:Type}(is:K->Ac->Prop)(hash:K->Aq)(lt':K->K->Ar)(d:K)(Fit:K->Prop)(h0:Bb):Prop where
 ord:Ord lt'
 inj:∀ {k k':K} {v:Ac},is k v->is k' v->k=k'
 cmps:∀ {vs:Y8} {ks:Ab K},vs.length=ks.length->(∀ i v,vs[i]? = Aa v->is (ks.getD i d) v)->(∀ k∈ks,Fit k)->2<=vs.length->yk prog w h0 vs (tN lt' ks d)
def M1 (prog:Ba)(w:Bu)(h0:Bb):Kind prog w (il prog w h0) (Tk (Iq prog w)) _H.lexLt [] (·≠[]) h0:=⟨j8,il.inj,λQ Y U J=>E6 Q Y U J⟩
section
variable {prog:Ba}{w:Bu}{A:Bn}{E:J7}{s:Ai}{K:Type}{is:K->Ac->Prop}{hash:K->Aq}{lt':K->K->Ar}{d:K}{sv:K->Prop}{h0:Bb}{S:Af}{V:Y8}{seen:Ab K}
open Classical in
def uo (is:K->Ac->Prop)(d:K)(e:Aq × Ac):K:=if h:∃ k,is k e.2 then choose h else d
open Classical in
def CM {e:Aq × Ac}(h:∃ k,is k e.2):is (uo is d e) e.2:=by unfold uo;rw[dif_pos h];exact choose_spec h
def YQ {Q:J7}(kd:Kind prog w is hash lt' d sv h0)(hh:A.handled=Zt)(hu:A.units+16<Fk)(hS:ip h0 s.heap)(z1:md is hash S (uX w) V seen s.heap)(hf:∀ k∈seen,sv k){U:Ab K}(hU:U.length<=63)(zc:∀ k∈seen,k∈U)
  (h:∀ h' tk D c (ps:Ab (K × Ac)),(∀ b o,s.heap.get? b=Aa o->h'.get? b=Aa o)->s.heap.objs.size<=D->h'.get? D=Aa (Ek "list" (ps.map (·.2)).toArray c)->ps.map (·.1)=mi lt' seen->(∀ p∈ps,is p.1 p.2/\p.2∈V)->ps.length<=63->Q (.ref D) { s with heap:=h',toks:=tk }) :
  Ap (As prog w) A (call (.builtin "sorted") [.ref S]) Q E s:=by
 obtain⟨O,I,t,ho,Y,T,hl,hV⟩:=z1;have st:ni w S O I t:=⟨T,hl⟩;have hn:O.size<=63:=by
  have:=nB O.toList U Y.nd λe N=>by obtain⟨k',_,q⟩:=Y.good e N;exact⟨k',zc k' ((Y.mem k').mpr ⟨e,N,q⟩),q⟩
  rw[Do] at this;lia
 have L:=lO w S I O;have z3:=jH w S I O;have l:∀ e∈(z9 w S I O).toList,is (uo is d e) e.2/\e.2∈V:=λe N=>by have j:=L.mem_iff.mp N;obtain⟨k,_,q⟩:=Y.good e j;exact⟨CM ⟨k,q⟩,hV e j⟩
 have zo:(z9 w S I O).toList.Pairwise λa b=>∀ k,is k a.2->¬ is k b.2:=(L.pairwise_iff λ{x y} h k hy hx=>h k hx hy).mpr Y.nd;generalize zl:(z9 w S I O).toList=oe at *;have z2:oe.length<=63:=by rw[L.length_eq,Do];exact hn
 have B:∀ i v,(oe.map (·.2))[i]? = Aa v->is ((oe.map (uo is d)).getD i d) v/\v∈V:=λi v hv=>by
  rw[Es] at hv;cases r:oe[i]? with
  |none=>rw[r] at hv;cases hv
  |some e =>
   rw[r] at hv;cases hv;have g:=l e (Cb r);have:(oe.map (uo is d)).getD i d=uo is d e:=by rw[List.getD_eq_getElem?_getD,Es,r];rfl
   rw[this];exact g
 have nd:(oe.map (uo is d)).Nodup:=by unfold List.Nodup;rw[Eh];refine Sf (λ{a b} ha H h e=>?_) zo;exact h _ (l a ha).1 (e▸(l b H).1)
 have mem:∀ x,x∈oe.map (uo is d)↔x∈seen:=λx=>by
  rw[Y.mem,Cj];constructor
  .rintro⟨e,N,rfl⟩;exact⟨e,L.mem_iff.mp N,(l e N).1⟩
  .rintro⟨e,N,q⟩;exact⟨e,L.mem_iff.mpr N,kd.inj (l e (L.mem_iff.mpr N)).1 q⟩
 have G:(oe.map (·.2)).length=(oe.map (uo is d)).length:=by simp
 refine Rv kind_sorted plain_sorted entry_sorted (args_sorted1 _) ?_;unfold Ih.«sorted»;refine Ad (m:=checkCount "sorted" 1 1 _) (An ?_);refine Ad (oR hh st ho ak λJ M u C=>?_);rw[zl];refine Ad (Wk ?_ (by rw[Dv,Ao];lia));have hD:(J.push (Ek "list" (oe.map (·.2)).toArray 0)).get? J.objs.size=Aa (Ek "list" (oe.map (·.2)).toArray 0):=Be _ Z;have n0:h0.get? J.objs.size=none:=by
  cases q:h0.get? J.objs.size with
  |none=>rfl
  |some o=>exact absurd (Bh (hS _ _ q)) (Lz.mpr (Hi C))
 show Ap _ _ _ _ _ { s with heap:=J.push (Ek "list" (oe.map (·.2)).toArray 0),toks:=M };refine Ad (Dc (Dx slot_list_sort ⟨_,hD,Z⟩ v6 (M4 (h0:=h0) (is:=is) kd.ord kd.inj (d:=d) (vs:=oe.map (·.2)) G (λi v hv=>(B i v hv).1) hD (by show A.units+2+8<Fk;lia) (by rw[Ao];lia) (λh2=>kd.cmps G (λi v hv=>(B i v hv).1) (λk hk=>hf k ((mem k).mp hk)) h2) (λb o e=>Ak _ (u b o (hS b o e))) n0 λps pm nf=>⟨_,Z,?_⟩) (args_list_sort _)));refine An ⟨_,Z,?_⟩;have hz:(J.push (Ek "list" (oe.map (·.2)).toArray 0)).objs.size=J.objs.size+1:=size_push' ..;have zs:∀ b o,b≠J.objs.size->(J.push (Ek "list" (oe.map (·.2)).toArray 0)).get? b=Aa o->((((J.push (Ek "list" (oe.map (·.2)).toArray 0)).update J.objs.size (Ey λ_=>#[])).push (Ek "tuple" (oe.map (·.2)).toArray 0)).push (Ek "list" #[] 0)).get? b=Aa o:=λb o H e =>
  Ak _ (Ak _ ((Ci _ _ (Di H)).trans e))
 obtain⟨f,n⟩:∃ f,((J.push (Ek "list" (oe.map (·.2)).toArray 0)).update J.objs.size (Ey λ_=>#[])).get? J.objs.size=Aa (Ek "list" #[] f):=⟨_,Mn hD (λ_=>#[])⟩
 have zn:=Mn (Ak (Ek "list" #[] 0) (Ak (Ek "tuple" (oe.map (·.2)).toArray 0) n)) (λ_=>(ps.map (·.2)).toArray);have pk:(ps.map (·.1)).Perm (oe.map (uo is d)):=by have:=pm.map (·.1);rwa [Tc ak] at this
 refine h _ M J.objs.size _ ps (λb o e=>?_) (Hi C) zn (A8 kd.ord nf (pk.nodup_iff.mpr nd) λx=>by rw[pk.mem_iff,mem]) (λp hp=>?_) (by have:=pk.length_eq;rw[Ao,Ao] at this;lia)
 .have H:b≠J.objs.size:=λz=>by
   subst z;exact absurd (Bh e) (Lz.mpr (Hi C))
  exact(Ci _ _ (Di H)).trans (zs b o H (Ak _ (u b o e)))
 .obtain⟨i,f,e2⟩:=KB (d:=d) G (pm.mem_iff.mp hp);exact e2▸B i _ f
end
end _S
namespace _D
open _L
variable {aa:J0}{J:J9}{Y:_L.St}
noncomputable def w5:Ab D->Al (Ab (Ab Aq))
 |[]=>Aa []
 |.tup Q::r=>(uP Q).bind λk=>(w5 r).map (k::·)
 |_::_=>Zt
def mf (k:Ab Aq):D:=.tup (k.map D.int)
theorem nJ:∀ {ds:Ab D} {ks:Ab (Ab Aq)},w5 ds=Aa ks->ds=ks.map mf
 |[],ks,h=>by cases h;rfl
 |d::r,ks,h=>by
  cases d with
  |tup G =>
   obtain⟨k,Q,U⟩:=Ej.mp (show (uP G).bind (λk=>(w5 r).map (k::·))=Aa ks from h);obtain⟨m,N,rfl⟩:=Ep.mp U;rw[nJ N,tZ Q];rfl
  |_=>cases h
def vQ (ks:Ab (Ab Aq)):w5 (ks.map mf)=Aa ks:=by
 induction ks with
 |nil=>rfl
 |cons k ks Q =>
  show (uP (k.map D.int)).bind (λk=>(w5 (ks.map mf)).map (k::·))=_;rw[eE,Q];rfl
def kD (xs:Ab D):Al (Ab D):=match w5 xs with
 |some Q=>if ((_S.mi _H.lexLt Q).length<=63&&Q.all λk=>!k.isEmpty) then Aa ((_S.mi _H.lexLt Q).map mf) else Zt
 |none=>Zt
def BV:D->Al (Ab D)
 |.lst Q=>Aa Q
 |.tup Q=>Aa Q
 |_=>Zt
def F2 {K:Type}{lt':K->K->Ar}(O:_S.Ord lt')(ks:Ab K)(d:K):_S.mi lt' (_S.uO (λi=>ks.getD i d) ks.length)=_S.mi lt' ks:=
 _S.pJ O (_S.pI O _) (_S.pI O _) λx=>by
  rw[_S.vP O,_S.vP O,_S.kU];constructor
  .rintro⟨i,Q,rfl⟩;simp[Ma,Q]
  .intro U;obtain⟨i,Q,e⟩:=Ef.mp U;exact⟨i,Q,by simp[Ma,Q,e]⟩
section
variable {X:Cx}{e:Bl}
def V3:Gc "sorted" = Aa (.builtin "sorted"):=by decide +kernel
theorem ZC:∀ {k:Ab Aq} {us:Y8},qQ (k.map V.int) us->ItemsAre (Iq prog w) k us
 |[],us,h=>by cases h;exact .nil
 |i::k,us,h=>by
  cases h with
  |cons q t =>
   obtain⟨Q,rfl⟩:=q;exact .cons (intKind_is _ _ _ _) (ZC t)
def oF {H P:Hp}{S:ag}(I:Inv X aa Y H s)(r:bf X.K H P J S)(p:am X.K P J d v)(q:qR v U)(h:BV d=Aa xs) :
  ∃ a vs ah,U=.ref a/\qJ X.K P J xs vs/\qQ vs ah/\(s.heap.IsList a ah.toArray\/s.heap.IsTuple a ah.toArray)/\xs.length=ah.length:=by
 cases d with
 |lst G =>
  cases h;obtain⟨a,vs,ah,n,rfl,_,t,Q,e,l,_⟩:=uA I r p;exact⟨a,vs,ah,q,t,Q,.inl ⟨_,e,rfl,n,rfl⟩,l⟩
 |tup G =>
  cases h;obtain⟨a,vs,ah,rfl,_,t,Q,⟨o,e,N,n,O⟩,l,_⟩:=kH I r p;exact⟨a,vs,ah,q,t,Q,.inr ⟨o,e,N,n,O⟩,l⟩
 |_=>cases h
end
section
variable {X:Cx}
def lstM (d:D)(S:ag):Al (Ab D):=match d with
 |.lst Q=>Aa Q
 |.loc i=>match S[i]? with
  |some (.lst Q)=>Aa Q
  |_=>Zt
 |_=>Zt
def mK:G2:=λa b S=>match lstM a S,lstM b S with
 |some Q,Aa U=>if Q.length+U.length<=bb then .ok (.lst (Q++U)) S else .bad
 |_,_=>.bad
def pA {H P:Hp}{S:ag}(I:Inv X aa Y H s)(r:bf X.K H P J S)(h:lstM d S=Aa xs)(p:am X.K P J d v) :
  ∃ a vs ah n,v=.ref a/\qJ X.K P J xs vs/\qQ vs ah/\s.heap.get? a=Aa { cls:=.type "list",data:=.seq ah.toArray n } /\ xs.length=ah.length:=by
 cases d with
 |lst N =>
  cases h;obtain⟨a,vs,ah,n,e,_,t,Q,G,l1,_⟩:=uA I r p;exact⟨a,vs,ah,n,e,t,Q,G,l1⟩
 |loc i =>
  simp only[lstM] at h;cases U:S[i]? with
  |none=>rw[U] at h;cases h
  |some m =>
   rw[U] at h;cases m with
   |lst N =>
    cases h;simp only[am] at p;obtain⟨a,rfl,q⟩:=p;obtain⟨vs,z,t⟩:=r.at' i a _ q U;obtain⟨_,ah,n,Q,e⟩:=I.hok a _ z;exact⟨a,vs,ah,n,rfl,t,Q,e,by rw[t.length,Q.length]⟩
   |_=>cases h
 |_=>cases h
def D3:gz X (Ec .Add) mK:=by
 intro aa Y H s P J S v u l g a b Q I r w y z j U;unfold mK at U;cases G:lstM a S with
 |none=>rw[G] at U;exact Am U
 |some k =>
  cases O:lstM b S with
  |none=>rw[G,O] at U;exact Am U
  |some q =>
   rw[G,O] at U;obtain⟨L,U⟩:=x3 (X:=X) U;obtain⟨a,d,p,n,rfl,A,C,T,l1⟩:=pA I r G z;obtain⟨b,o,B,c,rfl,M,N,E,l2⟩:=pA I r O j;cases w;cases y;refine Sx T E ?_ (by rw[Bf,Bf,<- l1,<- l2,<- zM];exact L);rw[Po];exact n9 I r (A.append M) (C.append N) (by rw[Bj];exact L) U
end
section
variable {X:Cx}
def qDP:ZOp X (Ec .Add) mK:=⟨D3⟩
end
end _D
section
namespace _D
open _L
mutual
def wx:D->Al PyData
 |.non=>Aa .none
 |.bl b=>Aa (.bool b)
 |.int i=>Aa (.int i)
 |.str x=>Aa (.str x)
 |.tup Q=>(nE Q).map .tuple
 |.lst Q=>(nE Q).map .list
 |.dct0=>Aa (.dict [])
 |_=>Zt
def nE:Ab D->Al (Ab PyData)
 |[]=>Aa []
 |d::Q=>(wx d).bind λx=>(nE Q).map (x::·)
end
end _D
end
namespace _S
open PySem.W
section
variable {prog:Ba}{w:Bu}{A:Bn}{E:J7}{s:Ai}{K:Type}{is:K->Ac->Prop}{hash:K->Aq}{lt':K->K->Ar}{d:K}{sv:K->Prop}{h0:Bb}
def YO {Q:J7}(kd:Kind prog w is hash lt' d sv h0)(hu:A.units+16<Fk)(g:ip h0 s.heap){l:Af}{vs:Y8}(hl:s.heap.IsList l vs.toArray\/s.heap.IsTuple l vs.toArray)(ks:Ab K)(J:vs.length=ks.length)(U:∀ i v,vs[i]? = Aa v->is (ks.getD i d) v)(x:∀ k∈ks,sv k)(N:vs.length<=63)
  (h:∀ (Y h':Bb) (a:Aj) (D:Af) (c:Aj) (ps:Ab (K × Ac)),(∀ b o,s.heap.get? b=Aa o->Y.get? b=Aa o)->(∀ b o,Y.get? b=Aa o->h'.get? b=Aa o)->Y.objs.size<=D->h'.get? D=Aa (Ek "list" (ps.map (·.2)).toArray c)->ps.map (·.1)=m5 lt' ks->(∀ p∈ps,is p.1 p.2/\p.2∈vs)->ps.length=ks.length->Q (.ref D) { s with heap:=h',toks:=a }) :
  Ap (As prog w) A (call (.builtin "sorted") [.ref l]) Q E s:=by
 refine Rv kind_sorted plain_sorted entry_sorted (args_sorted1 _) ?_;unfold Ih.«sorted»;refine Ad (m:=checkCount "sorted" 1 1 _) (An ?_);have C:∀ {R:Ab Ac->Ai->Prop},(∀ Y:Bb,(∀ b o,s.heap.get? b=Aa o->Y.get? b=Aa o)->R vs { s with heap:=Y }) -> Ap (As prog w) A.in1 (collect (.ref l)) R E s:=λ{R} t=>by
  have e:vs.toArray.toList=vs:=by simp
  rcases hl with⟨o,I,M,n,u⟩|⟨o,I,M,n,u⟩
  .exact Yk l (.inl Z) I M u (λh' j=>by rw[e];exact t h' j) (by rw[Bf,Dv];lia)
  .exact Yk l (.inr Z) I M u (λh' j=>by rw[e];exact t h' j) (by rw[Bf,Dv];lia)
 refine Ad (C λY G=>?_);refine Ad (Wk ?_ (by rw[Dv];lia));have y:(Y.push (Ek "list" vs.toArray 0)).get? Y.objs.size=Aa (Ek "list" vs.toArray 0):=Be _ Z;have n0:h0.get? Y.objs.size=none:=by
  cases q:h0.get? Y.objs.size with
  |none=>rfl
  |some o=>exact absurd (Bh (G _ _ (g _ _ q))) (Fh _)
 show Ap _ _ _ _ _ { s with heap:=Y.push (Ek "list" vs.toArray 0),toks:=s.toks };refine Ad (Dc (Dx slot_list_sort ⟨_,y,Z⟩ v6 (M4 (h0:=h0) (is:=is) kd.ord kd.inj (d:=d) (vs:=vs) J U y (by show A.units+2+8<Fk;lia) N (λh2=>kd.cmps J U x h2) (λb o e=>Ak _ (G b o (g b o e))) n0 λps r nf=>⟨_,Z,?_⟩) (args_list_sort _)));refine An ⟨_,Z,?_⟩;have hz:(Y.push (Ek "list" vs.toArray 0)).objs.size=Y.objs.size+1:=size_push' ..;have T:∀ b o,b≠Y.objs.size->(Y.push (Ek "list" vs.toArray 0)).get? b=Aa o->((((Y.push (Ek "list" vs.toArray 0)).update Y.objs.size (Ey λ_=>#[])).push (Ek "tuple" vs.toArray 0)).push (Ek "list" #[] 0)).get? b=Aa o:=λb o B e =>
  Ak _ (Ak _ ((Ci _ _ (Di B)).trans e))
 obtain⟨O,L⟩:∃ O,((Y.push (Ek "list" vs.toArray 0)).update Y.objs.size (Ey λ_=>#[])).get? Y.objs.size=Aa (Ek "list" #[] O):=⟨_,Mn y (λ_=>#[])⟩;have H:=Mn (Ak (Ek "list" #[] 0) (Ak (Ek "tuple" vs.toArray 0) L)) (λ_=>(ps.map (·.2)).toArray);have f:(ps.map (·.1)).Perm ks:=by have:=r.map (·.1);rwa [Tc ak] at this
 refine h Y _ s.toks Y.objs.size _ ps G (λb o e=>?_) (Ax _) H (ZO kd.ord nf (XF kd.ord ks) (f.trans (m6 ks).symm)) (λp hp=>?_) (by have:=f.length_eq;rwa [Ao] at this)
 .have B:b≠Y.objs.size:=λz=>by
   subst z;exact absurd (Bh e) (Fh _)
  exact(Ci _ _ (Di B)).trans (T b o B (Ak _ e))
 .obtain⟨i,O,e2⟩:=KB (d:=d) J (r.mem_iff.mp hp);exact⟨e2▸U i _ O,Cb O⟩
end
end _S
namespace _D
open _L
variable {ah:Y8}
def bJ (xs:Ab D):Al (Ab D):=match w5 xs with
 |some Q=>if (decide (Q.length<=63)&&Q.all λk=>!k.isEmpty) then Aa ((_S.m5 _H.lexLt Q).map mf) else Zt
 |none=>Zt
def F0 (R:Ab D->ag->ax D):DF:=λY S=>match Y with
 |[d]=>match (BV d).bind bJ with
  |some Q=>R Q S
  |none=>.bad
 |_=>.bad
def wY:DF:=F0 λQ S=>.ok (.lst Q) S
section
variable {X:Cx}{aa:J0}{Y: _L.St}{H P:Hp}{J: Ab Af}{S:ag}{s:Ai}
inductive sr (X:Cx)(pins:J0)(Y : _L.St)(H P:Hp)(J : Ab Af)(ys:Ab D)(u:Ac)(s':Ai):Prop
 |mk (D:Af) (vs:Ab V) (e:u=.ref D) (hn:H D=Zt) (I:Inv X pins Y (bx H D (.lst vs)) s') (rp:qJ X.K P J ys vs):sr X pins Y H P J ys u s'
theorem cT {K:Type}{is:K->Ac->Prop}{cp:K->D}(Q:∀ k v,is k v->v∈ah->∃ U,qR U v/\am X.K P J (cp k) U):∀ (ps:Ab (K × Ac)),(∀ p∈ps,is p.1 p.2/\p.2∈ah)->∃ vs,qQ vs (ps.map (·.2))/\qJ X.K P J ((ps.map (·.1)).map cp) vs
 |[],_=>⟨[],.nil,.nil⟩
 |p::ps,h=>by obtain⟨vs,O,C⟩:=cT Q ps λq G=>h q (by simp[G]);obtain⟨v,B,N⟩:=Q p.1 p.2 (h p aA).1 (h p aA).2;exact⟨v::vs,.cons B O,.cons N C⟩
def ZN {K:Type}{is:K->Ac->Prop}{cp:K->D}{ks:Ab K}{ps:Ab (K × Ac)}{C:Bb}{G:Aj}{D c:Aj}(U:∀ k v,is k v->v∈ah->∃ T,qR T v/\am X.K P J (cp k) T)(M:Inv X aa Y H s)(B:∀ b o,s.heap.get? b=Aa o->C.get? b=Aa o)(A:s.heap.objs.size<=D)(O:C.get? D=Aa (Ek "list" (ps.map (·.2)).toArray c))(N:ps.map (·.1)=ks)(hp:∀ p∈ps,is p.1 p.2/\p.2∈ah)(w:ps.length<=63) :
  sr X aa Y H P J (ks.map cp) (.ref D) { s with heap:=C,toks:=G }:=by
 subst N;obtain⟨I,E,z⟩:=cT U ps hp;refine⟨D,I,rfl,M.hok.fresh A,Inv.laidL (L:=[(D,HO.lst I)]) (t':=G) M B (λp Q=>?_) λp Q=>?_,z⟩
 .rw[Cc.mp Q];exact A
 .rw[Cc.mp Q];refine⟨?_,ps.map (·.2),c,E,O⟩;have:=E.length;rw[Ao] at this;rw[this,Dv];lia
def JR {K:Type}{is:K->Ac->Prop}{hash:K->Aq}{lt':K->K->Ar}{d:K}{B:K->Prop}(kd:_S.Kind X.prog X.w is hash lt' d B s.heap)(p:X.A.units+64<Fk)(I:Inv X aa Y H s)(r:bf X.K H P J S){a:Af}{ah:Y8}
  (z:s.heap.IsList a ah.toArray\/s.heap.IsTuple a ah.toArray) (ks:Ab K) (w:ks.length=ah.length) (y:∀ i v,ah[i]? = Aa v->is (ks.getD i d) v) (l:ks.length<=63) (T:∀ k∈ks,B k) (cp:K->D)
  (Q:∀ k v,is k v->v∈ah->∃ C,qR C v/\am X.K P J (cp k) C) {E:J7} :
  a8 X (call (.builtin "sorted") [.ref a]) (sr X aa Y H P J ((_S.m5 lt' ks).map cp)) E s:=by
 refine _S.YO kd li (λ_ _ e=>e) z ks w.symm y T li λL q M D c o G O u N U j A=>?_;exact ZN (s:={ s with heap:=L,toks:=s.toks }) Q (I.kept G) O u N U j li
def XM (I:Inv X aa Y H s)(r:bf X.K H P J S){ks:Ab (Ab Aq)}{vs:Ab V}{ah:Y8}(M:qJ X.K P J (ks.map mf) vs)(B:qQ vs ah)(l1:ks.length=ah.length) :
  (∀ i v,ah[i]? = Aa v->_S.il X.prog X.w s.heap (ks.getD i []) v)/\∀ k v,_S.il X.prog X.w s.heap k v->v∈ah->∃ U,qR U v/\am X.K P J (mf k) U:=by
 have Q:∀ (i:Aj) (u:Ac),ah[i]? = Aa u->∃ b,u=.ref b/\Ta (Iq X.prog X.w) s.heap (ks.getD i []) b/\∃ U,qR U u/\am X.K P J (mf (ks.getD i [])) U:=λi u G=>by
  have E:i<ah.length:=(Bv.mp G).1;obtain⟨v,z,p⟩:=M.get (Bd (show i<(ks.map mf).length by rw[Ao];lia));obtain⟨d,e,q⟩:=B.get z;cases e.symm.trans G;have N:(ks.map mf)[i]'(by rw[Ao];lia)=mf (ks.getD i []):=by simp[Ma,show i<ks.length by lia]
  rw[N] at p;obtain⟨b,c,L,rfl,sq,t,T,⟨o,y,C,m,N⟩,_,_⟩:=kH I r (show am X.K P J (.tup ((ks.getD i []).map D.int)) v from p);cases (show u=Ca b from q);have:=fO t;subst this;exact⟨b,rfl,⟨o,L.toArray,m,y,C,N,by simpa using ZC T⟩,.ref b,rfl,p⟩
 refine⟨λi u G=>?_,λk u l g=>?_⟩
 .obtain⟨b,rfl,q,_⟩:=Q i u G;exact⟨b,Z,q⟩
 .obtain⟨i,A,rfl⟩:=Ef.mp g;obtain⟨b,j,q,w,O,pw⟩:=Q i _ (Bd A);rw[_S.il.inj l ⟨b,j,q⟩];exact⟨w,O,pw⟩
def lG {ks:Ab (Ab Aq)}(h:(ks.all λk=>!k.isEmpty)=Vq):∀ k∈ks,k≠[]:=λk Q z=>by have:=Bk.mp h k Q;subst z;cases this
set_option tactic.hygienic true in
def YN {E:J7}(B:X.A.units+64<Fk)(I:Inv X aa Y H s)(r:bf X.K H P J S){a:Af}{xs ys:Ab D}{vs:Ab V}{ah:Y8}(O:qJ X.K P J xs vs)(G:qQ vs ah)(e1:s.heap.IsList a ah.toArray\/s.heap.IsTuple a ah.toArray)(l1:xs.length=ah.length)(hs:bJ xs=Aa ys) :
  a8 X (call (.builtin "sorted") [.ref a]) (sr X aa Y H P J ys) E s:=by
 unfold bJ at hs;cases U:w5 xs with
 |none=>rw[U] at hs;cases hs
 |some L =>
  rw[U] at hs;dsimp only at hs;split at hs
  .rename_i Q;cases hs;rw[Av,Az] at Q;have:=nJ U;subst this;rw[Ao] at l1;obtain⟨C,N⟩:=XM I r O G l1;exact JR (d:=[]) (_S.M1 X.prog X.w s.heap) B I r e1 L l1 C Q.1 (lG Q.2) mf N
  .cases hs
def qBD (E:X.A.units+64<Fk){vs:Ab V}{us:Y8}{ds:Ab D}{Q:VK}{R:Ab D->ag->ax D}(I:Inv X aa Y H s)(r:bf X.K H P J S)(M:qQ vs us)(C:qJ X.K P J ds vs)(U:qU X P J (F0 R ds S) Q)
  (k:∀ ys D G,H D=Zt->qJ X.K P J ys G->qU X P J (R ys S) Q->Q (.ref D) (bx H D (.lst G))):a8 X (call (.builtin "sorted") us) (EP X aa Y Q) X.xe s:=by
 match ds,U,C with
 |[],U,_=>exact Am U
 |_::_::_,U,_=>exact Am U
 |[d],U,C =>
  simp only[F0] at U;cases N:(BV d).bind bJ with
  |none=>rw[N] at U;exact Am U
  |some ys =>
   rw[N] at U;obtain⟨y,j,w⟩:=Ej.mp N;obtain⟨v,u,rfl,rfl,p,q⟩:=wK C M;obtain⟨a,vs,ah,rfl,T,B,L,l1⟩:=oF I r p q j;refine bi (YN E I r T B L l1 w) λl o ⟨D,G,e,z,A,O⟩=>?_;subst e;exact⟨.ref D,_,A,rfl,k ys D G z O U⟩
def V5 (N:X.A.units+64<Fk):wI X (.builtin "sorted") wY:=by intro aa Y H s P J S M E w Q I r C O B;exact qBD N I r C O B λA D T L U G=>wH r L U G
end
section
variable {X:Cx}{cm:Ar}{k:Aj}
def qCP (Q:RoomC cm k X.A):gn X (.builtin "sorted") wY:=⟨V5 Q.units⟩
end
end _D
namespace _L
variable {k_:Y0}{mg mb:J8}
def qBU (H:Hp):Prop:=∀ b,H b=Zt\/(∃ o Q,H b=Aa (.frz o (.lst Q)))\/H b=Aa (.tbl #[])
def Z4 (K:Ag)(H:Hp):Prop:=∀ x∈u9,∀ c T,Dm K x=Aa (c,T)->H T=Aa (.tbl #[])
structure zp (K:Ag)(h:Bb):Prop where
 at':∀ x∈u9,∀ c T,Dm K x=Aa (c,T)->Aa3 h c T/\h.get? T=Aa (Qe #[]) /\ K.lookup T=Zt
 inj:∀ x∈u9,∀ y∈u9,∀ c d T,Dm K x=Aa (c,T)->Dm K y=Aa (d,T)->x=y
def PP {P:Ba}{w:Bu}{K:Ag}{CX:wl}{k:Aj}{fa a:Af}{fd:Ft}{x:Ah}{sp:Sp}{Q:Ai}{vs:Y8}{ns:Ab Aq}
  (KX:K.In Q.heap) (t:Q.heap.Ns Bi mg) (J:Q.heap.Ns Pl mb) (zl:∀ x:Ah,x ≠ "__name__" -> mb x=Gc x) (zc:Q.heap.NoLimit) (hg:Q.gens=#[]) (zn:RE mg Q.heap) (O:zp K Q.heap)
  (M:Q.heap.get? a=Aa { cls:=.type "list",data:=.seq vs.toArray }) (hi:Lj vs ns) (hl:ns.length<=sizeLine) (hr:nj k Rj)
  (F:∀ base:Bb,K.In base->base.Ns Bi mg->qt P w K mg base CX k fa fd [x] sp) (L:∀ (s:Ai) (u:Ac),Nz s fd ⟨[u],[]⟩ [(x,u)])
  (zo:∀ H:Hp,Z4 K H->so K H a (ns.map V.int)->sp [.ref a] H (λv _=>v=.bl Vq) λ_ _ _=>Fv)
  (zs:∀ H e s',CX [] H Q (λ_ _ _=>Fv) e s'->Fv) :
  Gn (As P w) Rj (.call (.ref fa) ⟨[.ref a],[]⟩) (λr s'=>r=.ok (.ret (.bool Vq))/\OldK Q.heap s'.heap/\s'.os=Q.os/\Nx s'.gens) Q:=by
 have rv:=K4 hi;have z3:=hi.length;let il:Af->Prop:=λb=>∃ x∈u9,∃ c,Dm K x=Aa (c,b);have tab:∀ b,il b->Q.heap.get? b=Aa (Qe #[]) /\ K.lookup b=none:=λb ⟨x,U,c,h⟩=>(O.at' x U c b h).2;have core:∀ H:Hp,qBU H->Z4 K H->so K H a (ns.map V.int)->jm P w H Q.heap->(∀ b,H b≠Zt->b=a\/il b)->(H a≠Zt->K.lookup a=Zt) ->
   Gn (As P w) Rj (.call (.ref fa) ⟨[.ref a],[]⟩) (λr s'=>r=.ok (.ret (.bool Vq))/\OldK Q.heap s'.heap/\s'.os=Q.os/\Nx s'.gens) Q:=by
  intro H hO hT hS A hA hK;have Y:∀ {b:Af} {o:Cd},Q.heap.get? b=Aa o->H b=Zt->(pV Q.heap H).get? b=Aa o:=λe n=>P7 e n;have f:∀ {b:Af} {o:Cd},Q.heap.get? b=Aa o->o.cls≠.none->(o.cls≠.type "list" \/ ∃ I y,o.data=.dict I y)->H b=none:=λ{b o} e c1 c2=>by
   cases q:H b with
   |none=>rfl
   |some u =>
    rcases hA b (by rw[q];simp) with e'|e'
    .subst e';rw[M] at e;cases e;rcases c2 with z|⟨I,y,d⟩
     .exact absurd Z z
     .cases d
    .rw[(tab b e').1] at e;cases e;exact absurd Z c1
  have sx:∀ {b:Af} {o:Cd} {I:Br Yl} {y:Aj},Q.heap.get? b=Aa o->o.data=.dict I y->H b=none:=λ{b o I y} e d=>by
   cases q:H b with
   |none=>rfl
   |some u =>
    rcases hA b (by rw[q];simp) with e'|e'
    .subst e';rw[M] at e;cases e;cases d
    .rw[(tab b e').1] at e;cases e;cases d
  have N:∀ {b:Af} {m:J8},Q.heap.Ns b m->(pV Q.heap H).Ns b m:=λ{b m} ⟨o,I,y,e,d,r⟩=>⟨o,I,y,Y e (sx e d),d,r⟩;have l:K.In (pV Q.heap H):=λb o e=>Y (KX b o e) (by
   cases q:H b with
   |none=>rfl
   |some u =>
    rcases hA b (by rw[q];simp) with e'|e'
    .subst e';rw[hK (by rw[q];simp)] at e;cases e
    .rw[(tab b e').2] at e;cases e)
  have hM:Mod K mg (pV Q.heap H):=by
   refine⟨l,N t,⟨mb,N J,zl⟩,let ⟨mc,h1,h2⟩:=zc;⟨mc,N h1,h2⟩,?_,λx U c T h=>?_,O.inj⟩
   .obtain⟨bm,o,b1,b2,b3,b4,b5⟩:=zn;exact⟨bm,o,b1,b2,Y b3 (f b3 (by rw[b4];nofun) (.inl (by rw[b4];decide))),b4,b5⟩
   .obtain⟨o,vs,i,tf,j,tg,z1,g,tt,C,E,r⟩:=(O.at' x U c T h).1;exact⟨o,vs,i,tf,j,tg,z1,g,tt,Y C (f C (by rw[E];nofun) (.inl (by rw[E];decide))),E,r⟩
  have e0:oh P w K mg (pV Q.heap H) Rj [] Q H:=⟨Z,hM,λb o e=>D8 e,Nat.le_of_eq (VY _ _),trivial,λb J=>absurd (show b∈([]:J9) from J) aA,A,.of_eq hg⟩
  refine Ka ((F _ l (N t)).run Rj [] Q H ⟨[.ref a],[]⟩ [.ref a] [.ref a] _ _ hr e0 (L Q (.ref a)) (.cons rfl .nil) (zo H hT hS)) λr s' h=>?_;cases r with
  |error e=>exact(zs H e s' h).elim
  |ok fl =>
   cases fl with
   |next=>exact Am h
   |brk=>exact Am h
   |cont=>exact Am h
   |ret u =>
    obtain⟨v,H',os,p,un,B,r',q⟩:=h;have q':v=.bl true:=q;subst q';obtain rfl:u=Fb true:=r';refine⟨rfl,⟨λb o e=>?_,λb o e=>un.there b o e aA⟩,os,p⟩;cases q:H b with
    |none=>exact .inl (un.keep b o e q (by intro z;exact absurd (show b∈([]:J9) from z) aA) aA)
    |some u =>
     rcases hO b with z|⟨ob,xs,z⟩|z
     .rw[q] at z;cases z
     .have z2:=un.frzs b ob _ z;obtain⟨C,_⟩:=A b _ z;obtain⟨E,_⟩:=B b _ z2;rw[e] at C;cases C;exact .inl E
     .obtain⟨jd,z2⟩:=un.tbls b _ z;have C:Q.heap.get? b=Aa (Qe #[]):=A b _ z;have E:s'.heap.get? b=Aa (Qe (#[] ++ jd)):=B b _ z2;rw[e] at C;cases C;rcases hA b (by rw[q];simp) with e'|⟨x,U,c,h⟩
      .subst e';rw[M] at e;cases e
      .exact .inr (.inl ⟨((O.at' x U c b h).1.tab e).isCodeTable,Z,#[],jd,Z,E⟩)
 have nT:¬ il a:=λh=>by have z:=(tab a h).1;rw[M] at z;cases z
 have tT:∀ x∈u9,∀ c T,Dm K x=Aa (c,T)->il T:=λx U c T h=>⟨x,U,c,h⟩;have z4:∀ b,Jf (il b):=λb=>Classical.propDecidable _;cases hk:K.lookup a with
 |some o =>
  have e:=KX a o hk;rw[M] at e;cases e;refine core (λb=>if il b then Aa (.tbl #[]) else Zt) (λb=>?_) (λx U c T h=>Au (tT x U c T h)) (.inr ⟨vs,_,hk,by rw[Ao];exact hl,rv⟩) (λb u z=>?_) (λb z=>?_) λz=>absurd (AT nT) z
  .by_cases h:il b
   .exact .inr (.inr (Au h))
   .exact .inl (AT h)
  .by_cases h:il b
   .have G:=(Au h).symm.trans z;cases G;exact(tab b h).1
   .have G:=(AT h).symm.trans z;cases G
  .by_cases h:il b
   .exact .inr h
   .exact absurd (AT h) z
 |none =>
  refine core (λb=>if b=a then Aa (.frz { cls:=.type "list",data:=.seq vs.toArray } (.lst (ns.map V.int))) else if il b then Aa (.tbl #[]) else Zt) (λb=>?_) (λx U c T h=>?_) (.inl (.inr ⟨{ cls:=.type "list",data:=.seq vs.toArray },Au Z⟩)) (λb u z=>?_) (λb z=>?_) λ_=>hk
  .by_cases J:b=a
   .exact .inr (.inl ⟨_,_,Au J⟩)
   .by_cases h:il b
    .exact .inr (.inr ((AT J).trans (Au h)))
    .exact .inl ((AT J).trans (AT h))
  .have h':=tT x U c T h;exact(AT (λ(z:T=a)=>nT (z▸h'))).trans (Au h')
  .by_cases J:b=a
   .have G:=(Au J).symm.trans z;cases G;subst J;exact⟨M,by rw[Ao];exact hl,vs,_,rv,M⟩
   .by_cases h:il b
    .have G:=((AT J).trans (Au h)).symm.trans z;cases G;exact(tab b h).1
    .have G:=((AT J).trans (AT h)).symm.trans z;cases G
  .by_cases J:b=a
   .exact .inl J
   .by_cases h:il b
    .exact .inr h
    .exact absurd ((AT J).trans (AT h)) z
def a9 (q:Ba)(K:Ag):Ar:=u9.all λx=>match Dm K x with
 |none=>Vq
 |some (_,T)=>((recsOf q).find? λe=>e.name == x).isSome&&((K.lookup T).isNone&&u9.all λy=>match Dm K y with
  |none=>Vq
  |some (_,U)=>x == y||!decide (T=U))
def SZ {Q:ExcName->Al Ac}{K:Ag}(T:Top q k_ Q mg mb h)(X:K.In h)(c:a9 q K=Vq):zp K h:=by
 unfold a9 at c;have g:∀ x∈u9,∀ d U,Dm K x=Aa (d,U)->((recsOf q).find? λe=>e.name == x).isSome=Vq/\(K.lookup U).isNone=Vq/\(u9.all λy=>match Dm K y with
  |none=>Vq
  |some (_,V)=>x == y||!decide (U=V))=true:=λx Y d U e=>by
  have z:=Bk.mp c x Y;rw[e] at z;simpa only [Av] using z
 refine⟨λx Y d U e=>?_,λx Y y E d I U N O=>?_⟩
 .obtain⟨G,B,_⟩:=g x Y d U e;obtain⟨r,J⟩:=Mo.mp G;obtain⟨C,L⟩:=PySem.W.tab_of T X J e;exact⟨C,L,by simpa using B⟩
 .have z:=Bk.mp (g x Y d U N).2.2 y E;rw[O] at z;simpa using z
def RA {l:wE}{n k:Aj}{q:Ba}{k_:Y0}{i:(Ah->Al Ac)->Bb->Prop}{A:Bu->Bb->Prop}{d:DefRec}{K:Params->Ag}{CX:Bu->wl}{sp:Bu->Sp}{x:Ah}
  (hn:l.most=Aa n) (O:n<=sizeLine) (T:d.params.defaults=[]) (M:nj k Rj) (z:∀ p,a9 q (K p)=Vq)
  (hY:∀ (w:Bu) (h:Bb),A w h->(K w.params).In h)
  (F:∀ (w:Bu) (mg:J8) (N:Af) (h:Bb),(K w.params).In h->h.Ns Bi mg->mg d.name=Aa (.ref N) ->
   ∃ fd:Ft,(∀ (s:Ai) (u:Ac),Nz s fd ⟨[u],[]⟩ [(x,u)]) /\
    ∀ base:Bb,(K w.params).In base->base.Ns Bi mg->qt l.prog w (K w.params) mg base (CX w) k N fd [x] (sp w))
  (B:∀ (w:Bu) (H:Hp) (a:Af) (ns:Ab Aq),ns.length<=n->Z4 (K w.params) H->so (K w.params) H a (ns.map V.int)->sp w [.ref a] H (λv _=>v=.bl Vq) λ_ _ _=>Fv)
  (L:∀ (w:Bu) (H:Hp) (s:Ai) (e:Ac) (s':Ai),CX w [] H s (λ_ _ _=>Fv) e s'->Fv) :
  AaG q k_ i A l.row.toRowW d [] (λf vs=>Aa1 f vs):=by
 refine _A.pv hn T λw I J mg mb N o pm cd zl a vs ns G t ho hd zc E U Y Q hg=>?_;have C:=hY w _ t;obtain⟨fd,hb,hF⟩:=F w mg N _ C G.T.g E;exact PP C G.T.g G.T.b G.T.builtins G.T.nolimit hg (let ⟨b,y,b1,g,r,j,b5,c⟩:=G.T.bmain;⟨b,y,b1,g,r,j,b5,c⟩) (SZ G.T C (z _)) U Y (By Q O) M hF hb (λH m hS=>B w H a ns Q m hS) λH e s'=>L w H J e s'
end _L
namespace _D
open _L
variable {K:Ag}{mg:J8}
def OD (X:K.In h)(G:h.Ns Bi mg){x:Ah}{st:Du}{ps:Y0}{f:Af}{L:Ac}{C O:Al Af}{N:Br (Al Ac)}{kV Y J Q U:Ac}
  (a:Bp K Bi x=Aa (Aa (.ref f)))
  (l:K.lookup f=Aa ⟨L,C,.func (Fp x x (xW st) (zG st) (qF st) .none kV Y J O Q U),N⟩) (c:Jp K Q x=Vq) (k:Da K (.ref f)=Vq)
  (B:∀ (kV Y J:Ac) (O:Al Af) (Q U:Ac) (us:Y8),us.length=ps.length->Tw (Fp x x (xW st) (zG st) (qF st) .none kV Y J O Q U) ⟨us,[]⟩=pure (ps.zip us)):we K mg x st ps:=
 have F:=nY (st:=st) l c k
 ⟨f,_,Kw X G a,F,F.binds B⟩
noncomputable def tR (K:Ag)(C:Af):Ar:=
 decide (Dd K (.ref C) "__getattribute__" = Aa (Aa (.builtin "BaseException.__getattribute__")))&&decide (Dd K (.ref C) "__getattr__" = Aa Zt)
 && decide (Dd K (.ref C) "__class__" = Aa (Aa (.builtin "object.__class__")))&&decide (Vr K C (.type "object")=Aa Vq)&&decide (Vr K C (.type "BaseException")=Aa Vq)
 && (Rw K C).isSome&&decide (Li K (.ref C) (.type "ValueError")=Aa Vq)
noncomputable def dI (K:Ag):Ar:=
 decide (Xt K (.builtin "object.__class__") "__get__" = Aa (Aa (.builtin "getset_descriptor.__get__")))&&decide (Zw K (.builtin "object.__class__")=Aa Vq)
def E2 (K:Ag)(Q:J9):Ar:=Q.all λC=>Q.all λB=>decide (Li K (.ref C) (.ref B)=Aa (C == B))
def E5 {Y:J9}(U:Y.all (tR K)=Vq)(N:dI K=Vq)(A:E2 K Y=Vq):ul K Y:=by
 have g:=N;unfold dI at g;simp only[Av,Az] at g;have J:∀ C∈Y,tR K C=true:=Bk.mp U;refine⟨λC Q=>?_,λC Q B T=>?_,λC Q=>?_⟩
 .have e:=J C Q;unfold tR at e;simp only[Av,Az] at e;obtain⟨⟨⟨⟨⟨⟨E,I⟩,H⟩,O⟩,L⟩,G⟩,M⟩:=e;exact⟨E,I,H,g.1,g.2,O,L,G⟩
 .have e:=Bk.mp (Bk.mp A C Q) B T;exact Bg e
 .have e:=J C Q;unfold tR at e;simp only[Av,Az] at e;exact e.2
def qBe (K:Ag)(Q:Y8)(A:Af):Ar:=Q.all λv=>decide (Jq K v (.ref A)=Aa Vq)
def qBc (K:Ag)(Q:J9)(A:Af):Ar:=Q.all λC=>tQ K C A
def qBd (K:Ag)(Q:J9):Ar:=Q.all λC=>Da K (.ref C)
def cJ (K:Ag):Sp:=λJ H Q E=>Z4 K H/\∃ a Y,J=[.ref a]/\so K H a (wP V.int Y)/\Y.length<=63/\∀ U,Q (.bl Vq) U
theorem oA {P:Hp}:∀ ns:Ab Aq,qJ K P J (ns.map D.int) (ns.map V.int)
 |[]=>.nil
 |n::ns=>.cons (by simp only[am]) (oA ns)
def xm (H:Hp):Hp:=λb=>match H b with
 |some (.tbl _)=>Zt
 |u=>u
def LC {P:Ba}{w:Bu}{st:Du}{k:Aj}{x:Ah}(hs:we K mg "law" st [x])(M:mg "law" = Aa (.ref g))
  (L:∀ (kV U I:Ac) (B:Al Af) (J A:Ac) (s:Ai) (v:Ac),Nz s (Fp "law" "law" (xW st) (zG st) (qF st) .none kV U I B J A) ⟨[v],[]⟩ [(x,v)])
  (N:∀ base:Bb,∃ F,cO P w K mg base Vq k "law" [x] F/\∀ ns:Ab Aq,ns.length<=63->∃ S,F [.lst (ns.map D.int)] [] = .ok (.bl Vq) S) :
  ∃ fd:Ft,(∀ (s:Ai) (v:Ac),Nz s fd ⟨[v],[]⟩ [(x,v)])/\∀ base:Bb,K.In base->base.Ns Bi mg->qt P w K mg base (pf P w) k g fd [x] (cJ K):=by
 obtain⟨f,fd,r,F,hb⟩:=hs;cases M.symm.trans r;refine⟨fd,?_,λbase _ _=>?_⟩
 .obtain⟨oc,od,kV,U,I,B,J,A,i,rfl,_,_⟩:=F.ex;exact L kV U I B J A
 .obtain⟨G,⟨f',n,C,_,zc,j,X⟩,hG⟩:=N base;cases r.symm.trans C;cases j.one (kQ F);refine(X.imp λvs H Q E h=>?_).ok;obtain⟨l,a,ns,rfl,t,j,k⟩:=h;obtain⟨S,e⟩:=hG ns j;have Y:∀ (b:Af) (u:HO),H b=Aa u->(∀ O,u≠.tbl O)->xm H b=Aa u:=λb u q h=>by
   unfold xm;rw[q];cases u with
   |tbl O=>exact absurd rfl (h O)
   |_=>rfl
  have y:so K (xm H) a (wP V.int ns):=by
   rcases t with (h|⟨o,h⟩)|h
   .exact .inl (.inl (Y _ _ h λ_ z=>by cases z))
   .exact .inl (.inr ⟨o,Y _ _ h λ_ z=>by cases z⟩)
   .exact .inr h
  have sub:qP (xm H) H:=λb u q=>by
   unfold xm at q;cases z:H b with
   |none=>rw[z] at q;cases q
   |some v =>
    rw[z] at q;cases v with
    |tbl O=>cases q
    |_=>exact q
  refine⟨rfl,xm H,[],[.lst (ns.map D.int)],[],⟨λx p c T h=>⟨#[],l x p c T h,by unfold xm;rw[l x p c T h],by simp,trivial,λai cv z=>by cases z⟩,sub,rfl,.nil,by simp,by simp,by simp⟩,.cons (sX y (oA ns)) .nil,?_⟩;rw[e];intro v m P' J' _ _ _ d;simp only[am] at d;subst d;exact k m
def qBN {l:wE}{B:Y0}{G:(Ah->Al Ac)->Bb->Prop}{Y:Bu->Bb->Prop}{d:DefRec}{K:Params->Ag}{x:Ah}(E:l.most=Aa 63)(Q:d.params.defaults=[])(U:nj k Rj)(N:∀ p,a9 q (K p)=Vq)
  (I:∀ (w:Bu) (h:Bb),Y w h->(K w.params).In h)
  (F:∀ (w:Bu) (mg:J8) (J:Af) (h:Bb),(K w.params).In h->h.Ns Bi mg->mg d.name=Aa (.ref J) ->
   ∃ fd:Ft,(∀ (s:Ai) (u:Ac),Nz s fd ⟨[u],[]⟩ [(x,u)])/\∀ base:Bb,(K w.params).In base->base.Ns Bi mg->qt l.prog w (K w.params) mg base (pf l.prog w) k J fd [x] (cJ (K w.params))) :
  AaG q B G Y l.row.toRowW d [] (λf vs=>Aa1 f vs):=
 _L.RA (n:=63) (k:=k) (x:=x) (CX:=λw=>pf l.prog w) (sp:=λw=>cJ (K w.params)) E aC Q U N I F (λ_ _ a T L O C=>⟨O,a,T,Z,C,L,λ_=>rfl⟩) λw H s e A h=>by obtain⟨_,_,_,_,_,_,_,_,_,_,_,_,z⟩:=h;exact z
end _D
namespace _D
variable {us:Y8}
def us0 (h:us.length=0):us=[]:=Pa h
def yt {n:Aj}(h:us.length=n+1):∃ a vs,us=a::vs/\vs.length=n:=by
 cases us with
 |nil=>exact absurd h aA
 |cons a vs=>exact⟨a,vs,rfl,by simpa using h⟩
def S_ (h:us.length=1):∃ a,us=[a]:=by obtain⟨a,Y,rfl,Q⟩:=yt h;exact⟨a,by rw[us0 Q]⟩
def R_ (h:us.length=2):∃ a b,us=[a,b]:=by obtain⟨a,Y,rfl,Q⟩:=yt h;obtain⟨b,rfl⟩:=S_ Q;exact⟨a,b,rfl⟩
def _f (h:us.length=3):∃ a b c,us=[a,b,c]:=by obtain⟨a,Y,rfl,Q⟩:=yt h;obtain⟨b,c,rfl⟩:=R_ Q;exact⟨a,b,c,rfl⟩
def us4 (h:us.length=4):∃ a b c d,us=[a,b,c,d]:=by obtain⟨a,Y,rfl,Q⟩:=yt h;obtain⟨b,c,d,rfl⟩:=_f Q;exact⟨a,b,c,d,rfl⟩
def us5 (h:us.length=5):∃ a b c d e,us=[a,b,c,d,e]:=by obtain⟨a,Y,rfl,Q⟩:=yt h;obtain⟨b,c,d,e,rfl⟩:=us4 Q;exact⟨a,b,c,d,e,rfl⟩
end _D
namespace _D
open _L
variable {sc:Ez}
def MK (F:DF):∃ G:DF,G=F:=⟨F,Z⟩
def sh (F:DF):DF:=Oe (MK F)
def zD (F:DF):sh F=F:=Of (MK F)
def _m:Al Hz->Ar
 |some .local => Vq
 |some .cell=>Vq
 |some .free=>Vq
 |_=>Yp
noncomputable def X_:Al Hz->Ar
 |some .local => Vq
 |some .cell=>Vq
 |_=>Yp
def isG:Al Hz->Ar
 |some .globalImplicit=>Vq
 |_=>Yp
noncomputable def yx (x:Ah):Ar:=!(x == ("__debug__" : Ah))&&(!(x == ("__classdict__" : Ah))&&!decide (x = "__name__"))
def oj (X:Cx)(x:Ah):Ar:=isG (X.env.kindOf x)&&yx x
def _k (v:Ac)(x:Ah):Ar:=decide (Gc x=Aa v)
def vI (sc:Ez):Ab Ah:=sc.names.filterMap λy=>if X_ (Aa y.2) then Aa y.1 else Zt
def vA (sc:Ez):Ab Ah:=(sc.names.filterMap λy=>if X_ (Aa y.2)&&!(y.1 == (".0" : Ah)) then Aa y.1 else Zt)++sc.names.filterMap λy=>if y.2 == .free then Aa y.1 else Zt
def Ck (b:Ar):Prop:=b=Vq
def ck {b:Ar}(h:b=true:=by kernel_rfl):Ck b:=h
structure DfS (F:DF)(P:Ba)(w:Bu)(K:Ag)(mg:J8)(base:Bb)(cm:Ar)(k:Aj)(x:Ah)(n:Aj):Prop where
 get:uz P w K mg base cm k x n F
def yw (X:Cx)(m:Aj)(x:Ah):Ar:=decide (X.N[m]? = Aa x)&&(X_ (X.env.scope.names.lookup x)&&(decide X.N.Nodup&&(X.fn x||decide (X.env.scope.names.lookup x=Aa .local))))
noncomputable def wy (X:Cx)(m:Aj)(x:Ah):Ar:=decide (X.N[m]? = Aa x)&&decide (X.env.scope.names.lookup x=Aa .local)
def c8 (Q:Ez)(Y:Y0)(ae:Ez)(cr:Ab (Al Aj)):Ar:=
 decide (ae.kind=.function)&&(decide (∀ y∈ae.names,y.2=.local -> ae.names.lookup y.1=Aa .local)&&(decide (∀ y∈ae.names,y.2=.cell->ae.names.lookup y.1=Aa .cell)&&(decide (∀ y∈ae.names,y.2=.free->Q.names.lookup y.1=Aa .cell\/Q.names.lookup y.1=Aa .free)
 && (decide (∀ y∈ae.names,y.2=.free->ae.names.lookup y.1=Aa .free)&&(decide (cr.length=(vA ae).length)&&(((cr.zip (vA ae)).all λp=>match p.1 with|none=>Vq|some i=>Y[i]? == Aa p.2&&ae.names.lookup p.2 == Aa .free)&&decide (vA ae).Nodup))))))
noncomputable def xc (N P:Y0)(sc:Ez):Ar:=
 decide (sc.kind=.function)&&(decide (sc.isCoroutine=Yp)&&(decide (sc.isGenerator=Yp)&&(decide N.Nodup&&(decide (N.take P.length=P)&&(decide (∀ x∈P,sc.names.lookup x=Aa .local \/ sc.names.lookup x=Aa .cell)&&decide (∀ y∈sc.names,y.2≠.free))))))
def aD (h:c8 Q Y ae cr=Vq):gh Q Y ae (vA ae) cr:=by simp only[c8,Av,Az] at h;obtain⟨a,b,c,d,e,f,g,k⟩:=h;exact⟨a,b,c,d,e,f,g,k⟩
def fH {N P:Y0}(h:xc N P sc=Vq):cz N P sc:=by simp only[xc,Av,Az] at h;obtain⟨a,b,c,d,e,f,g⟩:=h;exact⟨a,b,c,d,e,f,g⟩
section
variable {X:Cx}{a b c e:Bl}{aq:Ab Bl}{f g:DS}{fa:DE}{t:DT}{l q:Aj}{y z:Ah}{es:Ab Bl}{fA:DA}{x:Ah}{p ai:Eb}{cm:Ar}{k n m:Aj}{F:DF}
def zd (h:_m (sc.names.lookup x)=Vq):qg sc x:=by
 unfold qg;revert h;cases sc.names.lookup x with
 |none=>intro h;cases h
 |some y=>cases y <;> intro h <;> first|cases h;done|exact .inl rfl|exact .inr (.inl rfl)|exact .inr (.inr rfl)
def NZ (h:X_ (sc.names.lookup x)=Vq):_L.Loc sc x:=by
 unfold _L.Loc;revert h;cases sc.names.lookup x with
 |none=>intro h;cases h
 |some y=>cases y <;> intro h <;> first|cases h;done|exact .inl rfl|exact .inr rfl
def pC (h:yx x=Vq):(x == ("__debug__" : Ah))=Yp/\(x == ("__classdict__" : Ah))=Yp/\x ≠ "__name__":=by unfold yx at h;rw[Av,Av] at h;exact⟨by simpa using h.1,by simpa using h.2.1,by simpa using h.2.2⟩
def xB (h:oj X x=Vq):Gl X x/\(x == ("__debug__" : Ah))=Yp/\x ≠ "__name__":=by
 have h:=(Av _ _).mp h;refine⟨?_,(pC h.2).1,(pC h.2).2.2⟩;have z:=h.1;unfold Gl;revert z;cases X.env.kindOf x with
 |none=>intro z;cases z
 |some y=>cases y <;> intro z <;> first|cases z;done|rfl
def iS (h:yw X m x=Vq):X.N[m]? = Aa x/\_L.Loc X.env.scope x/\X.N.Nodup/\(X.fn x=Vq\/X.env.scope.names.lookup x=Aa .local):=by simp only[yw,Av,Az,Ow] at h;exact⟨h.1,NZ h.2.1,h.2.2⟩
def wW (h:wy X m x=Vq):X.N[m]? = Aa x/\X.env.scope.names.lookup x=Aa .local:=by simp only[wy,Av,Az] at h;exact h
def qDZ (h:Ck (oj X x)):Gl X x:=(xB h).1
def aV (h:Ck (decide (X.N[m]? = Aa x)&&(_m (X.env.scope.names.lookup x)&&yx x))):QE X (.Name x ai) (qB m):=by unfold Ck at h;simp only[Av,Az] at h;exact IW m h.1 (zd h.2.1) (pC h.2.2).1 (pC h.2.2).2.1
def aBt (h:Ck (oj X x))(hm:X.mg x=Zt)(Q:Ck (_k (.type nm) x)):QE X (.Name x ai) (dC (.ty nm)):=
 have h:=xB h
 SB h.1 hm (Bg Q) h.2.2 h.2.1
def aCl (h:Ck (oj X x))(hm:X.mg x=Aa (.ref C)/\Da X.K (.ref C)=Vq):QE X (.Name x ai) (dC (.obj C)):=
 have h:=xB h
 IV h.1 hm.1 hm.2 h.2.1
def aGi (h:Ck (oj X x))(hm:∃ t,X.mg x=Aa (.int v t)):QE X (.Name x ai) (dC (.int v)):=
 have h:=xB h
 SD h.1 hm h.2.1
abbrev St1 (X:Cx)(e:Bl)(es:Ab Bl)(ai:Eb):Prop:=Bc (e::es) X.env=(Yp,eval e X.env)::Bc es X.env/\(Eu ai (Bc es X.env)).any (·.1)=Yp
def aN (G:DfS F X.prog X.w X.K X.mg X.base cm k x n)(Q:RoomC cm k X.A)(Y:Fn1 X)(h:Ck (oj X x))(J:QA X (e::es) fA)(s:St1 X e es ai):QE X (.Call (.Name x p) (e::es) [] ai) (qI n F fA):=
 have h:=xB h
 qcN G.1 Q Y h.1 J h.2.1 s.1 s.2
def aB {id:Em}(J:gn X (.builtin id) F)(h:Ck (oj X x))(hm:X.mg x=Zt)(Y:Ck (_k (.builtin id) x))(Q:QA X (e::es) fA)(s:St1 X e es ai):QE X (.Call (.Name x p) (e::es) [] ai) (qH F fA):=
 have h:=xB h
 BG J h.1 hm (Bg Y) Q h.2.2 h.2.1 s.1 s.2
def aT (J:gn X (.type T) F)(h:Ck (oj X x))(hm:X.mg x=Zt)(Y:Ck (_k (.type T) x))(Q:QA X (e::es) fA)(s:St1 X e es ai):QE X (.Call (.Name x p) (e::es) [] ai) (qH F fA):=
 have h:=xB h
 JH J h.1 hm (Bg Y) Q h.2.2 h.2.1 s.1 s.2
def aNm (h:Ck (yw X m x)):QG X (.Name x ai) (be m):=
 have h:=iS h
 SE h.2.2.1 h.1 h.2.1 h.2.2.2
def aSt (hs:Ly e (Aa (.Name x Q)) ai.line X.env=pure Yp)(Y:QE X e fa)(h:Ck (yw X m x)):QS X (.Assign [.Name x Q] e ai) (qV fa (be m)):=
 have h:=iS h
 IY h.2.2.1 Y h.1 h.2.1 hs h.2.2.2
def aP2 {Y Q J:Eb} {kt k2 pt2} (h:Ck (decide X.N.Nodup&&(wy X m x&&(wy X l y&&!decide (m=l))))) (G:X.calm=Vq) (U:QA X [a,b] fA)
  (hw:Ic [.Tuple [.Name x Y,.Name y Q] kt J] (.Tuple [a,b] k2 pt2) X.env=pure (Aa [x,y])) (hs:Ie [.Tuple [.Name x Y,.Name y Q] kt J] (.Tuple [a,b] k2 pt2) ai.line X.env=pure Yp) :
  QS X (.Assign [.Tuple [.Name x Y,.Name y Q] kt J] (.Tuple [a,b] k2 pt2) ai) (gG m l fA):=by
 unfold Ck at h;simp only[Av,Az,Lc,Nd] at h;exact IX G h.1 U (wW h.2.1).1 (wW h.2.2.1).1 h.2.2.2 (wW h.2.1).2 (wW h.2.2.1).2 hw hs
def aP3 {J Y Q U:Eb} {kt k2 pt2} (h:Ck (decide X.N.Nodup&&(wy X m x&&(wy X l y&&(wy X q z&&(!decide (m=l)&&(!decide (m=q)&&!decide (l=q)))))))) (I:X.calm=Vq) (E:QA X [a,b,c] fA)
  (hw:Ic [.Tuple [.Name x J,.Name y Y,.Name z Q] kt U] (.Tuple [a,b,c] k2 pt2) X.env=pure (Aa [x,y,z])) (hs:Ie [.Tuple [.Name x J,.Name y Y,.Name z Q] kt U] (.Tuple [a,b,c] k2 pt2) ai.line X.env=pure Yp) :
  QS X (.Assign [.Tuple [.Name x J,.Name y Y,.Name z Q] kt U] (.Tuple [a,b,c] k2 pt2) ai) (lW m l q fA):=by
 unfold Ck at h;simp only[Av,Az,Lc,Nd] at h;obtain⟨C,G,O,N,L,B,T⟩:=h;exact SG I C E (wW G).1 (wW O).1 (wW N).1 L B T (wW G).2 (wW O).2 (wW N).2 hw hs
def aRs {U Q:Eb}(h:Ck (oj X x))(O:X.calm=Vq)(G:Fn1 X)(hm:∃ J,X.mg x=Aa (.ref C)/\tQ X.K C J=Vq)(N:QA X (e::aq) fA)(s:St1 X e aq Q) :
  QS X (.Raise (Aa (.Call (.Name x U) (e::aq) [] Q)) Zt ai) (xG (.ref C) fA):=
 have h:=xB h;let ⟨_,hm,Y⟩:=hm
 BH O G h.1 hm Y N h.2.1 s.1 s.2
def aTr {Y:Du}{Q:Ab Du}{B J:Eb}{O:Y8}(h:Ck (oj X x&&(wy X m nm&&(decide X.N.Nodup&&decide (X.N.length=n)))))(T:Fn1 X)(hm:∃ G,X.mg x=Aa (.ref G)/\∀ c∈O,Jq X.K c (.ref G)=Aa Vq)(L:∀ E N,ZPass (Cx.tryIn X E N)->QB (Cx.tryIn X E N) C f)(hs:∀ e,QB (Cx.suite X e) (Y::Q) g) :
  QS X (.Try C [.ExceptHandler (Aa (.Name x B)) (Aa nm) (Y::Q) J] [] [] ai) (nF n m O f g):=by
 unfold Ck at h;simp only[Av,Az] at h;obtain⟨G,hm,U⟩:=hm;exact IZ T L hs (xB h.1).1 hm U h.2.2.1 (wW h.2.1).1 (wW h.2.1).2 (xB h.1).2.1 h.2.2.2
end
structure zk (K:Ag)(mg:J8)(tp:Aj->Du)(tab:Ab (Ah × Aj × Ab Ah))(bl:Y0)(qo sw:Ab (Ah × Af))(cs:Y8)(exl:J9)(tw:Ab (Ah × Aq)):Prop where
 src:∀ (j:Aj) {x:Ah} {i:Aj} {ps:Y0},tab[j]? = Aa (x,i,ps)->we K mg x (tp i) ps
 nb:∀ {x:Ah},Ck (bl.contains x)->mg x=Zt
 cl:∀ {x:Ah} {C:Af},qo.lookup x=Aa C->mg x=Aa (.ref C)/\Da K (.ref C)=Vq
 rz:∀ {x:Ah} {C:Af},sw.lookup x=Aa C->∃ Ae,mg x=Aa (.ref C)/\tQ K C Ae=Vq
 ct:∃ C0,mg "FarError" = Aa (.ref C0)/\∀ c∈cs,Jq K c (.ref C0)=Aa Vq
 cls:ul K exl
 gi:∀ {x:Ah} {v:Aq},tw.lookup x=Aa v->∃ t,mg x=Aa (.int v t)
section
variable {K:Ag}{mg:J8}{cm:Ar}{tp:Aj->Du}{tab:Ab (Ah × Aj × Ab Ah)}{bl:Y0}{qo sw:Ab (Ah × Af)}{cs:Y8}{exl:J9}{tw:Ab (Ah × Aq)}{x:Ah}{i m:Aj}{ps:Y0}{F:DF}{g:DS}
def dq (P:Ba)(w:Bu)(base:Bb)(k j:Aj)(T:zk K mg tp tab bl qo sw cs exl tw)(U:tab[j]? = Aa (x,i,ps))(h:Ck (xc (vI (qF (tp i))) ps (qF (tp i))&&decide ((vI (qF (tp i))).length=m)))(G:F=qL m g)
  (J:∀ (f:Af) (Q:Ac) (A:Bn) (Y:Ab Hg) (s:Ai) (H:Hp) (E:XK),f7 K x Q->RoomC cm k (A.deeper (Fu x (qF (tp i)) s.heap.objs.size f Q)) ->
   QB (jt cm P w K mg base (vI (qF (tp i))) x (qF (tp i)) f Q A Y s H E) (zG (tp i)) g):DfS F P w K mg base cm (k+1) x ps.length:=by
 unfold Ck at h;simp only[Av,Az] at h;obtain⟨h,rfl⟩:=h;exact⟨G▸qBf (T.src j U) (fH h) rfl J⟩
def dqP {P:Ba}{w:Bu}{base:Bb}(k j:Aj)(T:zk K mg tp tab bl qo sw cs exl tw)(U:tab[j]? = Aa (x,i,ps))(h:Ck (xc (vI (qF (tp i))) ps (qF (tp i))&&decide ((vI (qF (tp i))).length=m)))
  (J:∀ (f:Af) (Q:Ac) (A:Bn) (Y:Ab Hg) (s:Ai) (H:Hp) (E:XK),f7 K x Q->RoomC cm k (A.deeper (Fu x (qF (tp i)) s.heap.objs.size f Q)) ->
   QB (jt cm P w K mg base (vI (qF (tp i))) x (qF (tp i)) f Q A Y s H E) (zG (tp i)) g):cO P w K mg base cm (k+1) x ps (qL m g):=by
 unfold Ck at h;simp only[Av,Az] at h;obtain⟨h,rfl⟩:=h;exact qAE (T.src j U) (fH h) rfl J
end
section
variable {K:Ag}{mg:J8}{tp:Aj->Du}{tab:Ab (Ah × Aj × Ab Ah)}{bl:Y0}{qo sw:Ab (Ah × Af)}{cs:Y8}{exl:J9}{tw:Ab (Ah × Aq)}
def Z0 (P:Ba)(w:Bu)(base:Bb)(T:zk K mg tp tab bl qo sw cs exl tw)(k j:Aj){x:Ah}{i m:Aj}{ps:Y0}{F:DF}{g:DS}{b:Prop}(U:tab[j]? = Aa (x,i,ps))(h:Ck (xc (vI (qF (tp i))) ps (qF (tp i))&&decide ((vI (qF (tp i))).length=m)))(G:F=qL m g)(q:DfS F P w K mg base Vq (k+1) x ps.length->b)
  (J:∀ (f:Af) (Q:Ac) (A:Bn) (Y:Ab Hg) (s:Ai) (H:Hp) (E:XK),f7 K x Q->RoomC Vq k (A.deeper (Fu x (qF (tp i)) s.heap.objs.size f Q)) ->
   QB (jt Vq P w K mg base (vI (qF (tp i))) x (qF (tp i)) f Q A Y s H E) (zG (tp i)) g):b:=q (dq P w base k j T U h G J)
end
def hv {a b:Prop}(f:a->b)(h:a):b:=f h
inductive x_ (K:Ag)(x:Ah)(st:Du)(ps:Y0):Prop
 |mk {f:Af} {oc:Ac} {od an:Al Af} {osl:Br (Al Ac)} {kV doc pm cdv ct:Ac} (a:Bp K Bi x=Aa (Aa (.ref f)))
  (l:K.lookup f=Aa ⟨oc,od,.func (Fp x x (xW st) (zG st) (qF st) .none kV doc pm an cdv ct),osl⟩) (c:Jp K cdv x=Vq) (k:Da K (.ref f)=Vq):x_ K x st ps
def XX (K:Ag)(tp:Aj->Du):Ab (Ah × Aj × Ab Ah)->Prop
 |[]=>Jg
 |(x,i,Q)::t=>x_ K x (tp i) Q/\XX K tp t
def _e (tp:Aj->Du):Ab (Ah × Aj × Ab Ah)->Prop
 |[]=>Jg
 |(x,i,U)::t=>(∀ (kV Y G:Ac) (O:Al Af) (J N:Ac) (Q:Y8),Q.length=U.length->Tw (Fp x x (xW (tp i)) (zG (tp i)) (qF (tp i)) .none kV Y G O J N) ⟨Q,[]⟩=pure (U.zip Q))/\_e tp t
def XS (K:Ag):Ab (Ah × Af)->Prop
 |[]=>Jg
 |(x,C)::t=>Bp K Bi x=Aa (Aa (.ref C))/\XS K t
def XT (K:Ag):Ab (Ah × Aq)->Prop
 |[]=>Jg
 |(x,v)::t=>(∃ k,Bp K Bi x=Aa (Aa (.int v k)))/\XT K t
def qBl:Al (Al Ac)->Ar
 |some Zt=>Vq
 |_=>Yp
section
variable {K:Ag}{h:Bb}{mg:J8}{tp:Aj->Du}
theorem XD (X:K.In h)(G:h.Ns Bi mg):∀ (tab:Ab (Ah × Aj × Ab Ah)),XX K tp tab->_e tp tab->∀ (j:Aj) {x:Ah} {i:Aj} {ps:Y0},tab[j]? = Aa (x,i,ps)->we K mg x (tp i) ps
 |[],_,_,_,_,_,_,e=>by cases e
 |(x,i,ps)::t,H,B,0,_,_,_,e=>by
  cases e;obtain⟨a,l,c,k⟩:=H.1;exact OD X G a l c k B.1
 |(x,i,ps)::t,H,B,j+1,_,_,_,e=>XD X G t H.2 B.2 j e
theorem yH {β:Type}{p:Ah->β->Prop}{C:β}:∀ {l:Ab (Ah × β)},(∀ y∈l,p y.1 y.2)->l.lookup x=Aa C->p x C
 |[],_,e=>by cases e
 |(y,b)::t,H,e=>by
  rw[Eo] at e;cases q:x == y with
  |true =>
   rw[q] at e;cases e;rw[eq_of_beq q];exact H (y,_) (.head _)
  |false =>
   rw[q] at e;exact yH (λz Q=>H z (.tail _ Q)) e
theorem mG (X:K.In h)(G:h.Ns Bi mg):∀ {l:Ab (Ah × Af)},XS K l->∀ y∈l,mg y.1=Aa (.ref y.2)
 |(x,C)::t,H,y,hy=>by
  rcases Ay.mp hy with rfl|hy
  .exact Kw X G H.1
  .exact mG X G H.2 y hy
theorem QC (X:K.In h)(G:h.Ns Bi mg):∀ {l:Ab (Ah × Aq)},XT K l->∀ y∈l,∃ k,mg y.1=Aa (.int y.2 k)
 |(x,C)::t,H,y,hy=>by
  rcases Ay.mp hy with rfl|hy
  .obtain⟨k,e⟩:=H.1;exact⟨k,Kw X G e⟩
  .exact QC X G H.2 y hy
def qBH {tab:Ab (Ah × Aj × Ab Ah)}{bl:Y0}{qo sw:Ab (Ah × Af)}{J:Y8}{exl:J9}{tw:Ab (Ah × Aq)}(B:_e tp tab)(hp:∀ y∈sw,y∈qo)(N:qo.lookup ("FarError" : Ah)=Aa Q)(X:K.In h)(G:h.Ns Bi mg)
  (s:XX K tp tab) (z:(bl.all λx=>qBl (Bp K Bi x))=Vq) (q:XS K qo) (g:XT K tw) (e1:exl.all (tR K)=Vq) (e2:dI K=Vq) (e3:E2 K exl=Vq) (e4:qBe K J Q=Vq) (e5:qBc K (sw.map (·.2)) Q=Vq) (e6:qBd K (qo.map (·.2))=Vq):zk K mg tp tab bl qo sw J exl tw where
 src:=XD X G tab s B
 nb:=λ{x} U=>by
  have e:=Bk.mp z x (by simpa using Ew.mp U);refine PySem.W.mg_none_of X G ?_;revert e;cases Bp K Bi x with
  |none=>intro e;cases e
  |some y=>cases y with
   |none=>intro _;rfl
   |some y=>intro e;cases e
 cl:=λh=>⟨yH (p:=λx C=>mg x=Aa (.ref C)) (mG X G q) h,yH (p:=λ_ C=>Da K (.ref C)=Vq) (λy Y=>Bk.mp e6 y.2 (Ha Y)) h⟩
 rz:=λh=>⟨Q,yH (p:=λx C=>mg x=Aa (.ref C)) (λy Y=>mG X G q y (hp y Y)) h,yH (p:=λ_ C=>tQ K C Q=Vq) (λy Y=>Bk.mp e5 y.2 (Ha Y)) h⟩
 ct:=⟨Q,yH (p:=λx C=>mg x=Aa (.ref C)) (mG X G q) N,λv hv=>Bg (Bk.mp e4 v hv)⟩
 cls:=E5 e1 e2 e3
 gi:=λh=>yH (p:=λx v=>∃ k,mg x=Aa (.int v k)) (QC X G g) h
end
section
variable {X:Cx}{aa:J0}{Y: _L.St}{H:Hp}{s:Ai}
def Inv.pinned {a:Af}{h':Bb}{U:Aj}(I:Inv X aa Y H' { s with heap:=h'.push o,toks:=U })(O:a=h'.objs.size)(hs:s.heap.objs.size<=h'.objs.size)(G:Inv X aa Y H s)(N:H' a=Zt)(C:∀ v,o.data≠.cell v)(Q:o.isFreed=false:=by rfl):Inv X ((a,o)::aa) Y H' { s with heap:=h'.push o,toks:=U }:=by
 refine I.pins_of λp hp=>?_;rcases Ay.mp hp with rfl|hp
 .subst O;exact⟨Be _ Q,N,Hj (Bo G.lt hs),G.nofs hs,C⟩
 .exact I.pin p (Ce _ hp)
end
abbrev J_:=Ab (Af × Aj × DF)
def _X (X:Cx)(cm:Ar)(k:Aj)(Q:J_):Prop:=∀ q∈Q,∃ x,X.mg x=Aa (.ref q.1)/\uz X.prog X.w X.K X.mg X.base cm k x q.2.1 q.2.2
def vZ (i:Aj)(J:J_)(G:DA):DE:=λY S=>match Y[i]? with
 |some (Aa (.obj a))=>match J.lookup a with
  |some (n,F)=>(G Y S).bind λQ U=>if Q.length=n then F Q U else .bad
  |none=>.bad
 |_=>.bad
section
variable {X:Cx}{cm:Ar}{k i:Aj}{x:Ah}{p ai:Eb}{e:Bl}{es:Ab Bl}{fa:DA}{Fs:J_}
theorem UG {β:Type}{b:β}:∀ {l:Ab (Af × β)},l.lookup a=Aa b->(a,b)∈l
 |[],h=>by cases h
 |(c,d)::r,h=>by
  rw[Eo] at h;cases q:a == c with
  |true=>rw[q] at h;cases h;rw[eq_of_beq q];exact .head _
  |false=>rw[q] at h;exact .tail _ (UG h)
set_option tactic.hygienic true in
def NQ {S:ag}{P:Hp}{Ok:D->ag->Prop}(h:qK X P J (vZ i Fs fa ac S) Ok):∃ a n F,ac[i]? = Aa (Aa (.obj a))/\(a,n,F)∈Fs/\qK X P J ((fa ac S).bind λds S1=>if ds.length=n then F ds S1 else .bad) Ok:=by
 unfold vZ at h;split at h
 .rename_i a e;split at h
  .rename_i n F q;exact⟨a,n,F,e,UG q,h⟩
  .exact Am h
 .exact Am h
def EK (E:_X X cm k Fs)(o:RoomC cm k X.A)(hF:Fn1 X)(g:X.N[i]? = Aa x)(hv:qg X.env.scope x)(hd:(x == ("__debug__" : Ah))=Yp)(B:(x == ("__classdict__" : Ah))=Yp)(c:PA X (e::es) (kh X fa))
  (he:Bc (e::es) X.env=(Yp,eval e X.env)::Bc es X.env:=by rfl) (N:(Eu ai (Bc es X.env)).any (·.1)=false:=by rfl):PE X (.Call (.Name x p) (e::es) [] ai) (tD X (vZ i Fs fa)):=by
 intro aa s Y H Q I h;obtain⟨P,J,ac,S,r,w,A⟩:=h;obtain⟨a,n,F,l,hm,A⟩:=NQ A;obtain⟨y,hy,f,fd,ps,hn,O,hk,hb,z,G⟩:=E _ hm;cases hy.symm.trans O;obtain⟨v,d,U⟩:=w.2 i _ l;simp only[am] at U;obtain⟨rfl,q⟩:=U;refine Hr (bi (lP g hv hd B aa s Y H (λv H'=>v=.ref a/\H'=H) I ⟨_,d,rfl,rfl⟩) λu s1 ⟨v,H1,I1,L,z1,m⟩=>?_);subst z1;subst m;cases (show u=Ca a from L);refine Mt (h₀:=X.base) I.ok.mod.kin q (bi (wN c I1 r w A ai) λus s2 ⟨vs,H2,P2,J2,ds,S2,M,L,b,zc,U,t,j,T⟩=>⟨M.kIn,?_⟩) he N;obtain⟨z,C⟩:=x3 T;exact pE G o hb M b L U z (qU.base t j C)
end
def _i (X:Cx)(i:Aj)(x:Ah):Ar:=decide (X.N[i]? = Aa x)&&(_m (X.env.scope.names.lookup x)&&yx x)
structure ZF (X:Cx)(cm:Ar)(k:Aj)(Fs:J_):Prop where
 get:_X X cm k Fs
section
variable {X:Cx}{cm:Ar}{k n i:Aj}{x:Ah}{p ai:Eb}{e:Bl}{es:Ab Bl}{fA:DA}{Fs:J_}
def AQ (h:Ck (_i X i x)):X.N[i]? = Aa x/\qg X.env.scope x/\(x == ("__debug__" : Ah))=Yp/\(x == ("__classdict__" : Ah))=false:=by unfold Ck _i at h;simp only[Av,Az] at h;exact⟨h.1,zd h.2.1,(pC h.2.2).1,(pC h.2.2).2.1⟩
def aFv (Y:RoomC cm k X.A)(Q:ZF X cm k Fs)(F:Fn1 X)(h:Ck (_i X i x))(J:QA X (e::es) fA)(s:St1 X e es ai):QE X (.Call (.Name x p) (e::es) [] ai) (vZ i Fs fA):=
 have h:=AQ h
 ⟨EK Q.1 Y F h.1 h.2.1 h.2.2.1 h.2.2.2 J.1 s.1 s.2⟩
def qEE:ZF X cm k []:=⟨λq h=>by cases h⟩
def aFn {F:DF}(D:DfS F X.prog X.w X.K X.mg X.base cm j x n)(Y:j<=k)(hm:X.mg x=Aa (.ref f)/\Da X.K (.ref f)=Vq)(Q:ZF X cm k Fs):ZF X cm k ((f,n,F)::Fs):=⟨λq h=>by
 rcases Ay.mp h with rfl|h
 .exact⟨x,hm.1,D.1.mono Y⟩
 .exact Q.1 q h⟩
end
def pR:G2:=λa b S=>match lstM a S,lstM b S with
 |some Q,Aa Y=>if Q.length+Y.length<=bb then .ok (.loc S.length) (S++[.lst (Q++Y)]) else .bad
 |_,_=>.bad
section
variable {X:Cx}
def PM {H P:Hp}{S:ag}{Q:VK}(I:Inv X aa Y H s)(r:bf X.K H P J S)(t:qJ X.K P J xs vs)(U:qQ vs ah)(hz:xs.length<=bb)
  (ok:gy X P J Q (.loc S.length) (S++[.lst xs])):EP X aa Y Q (.ref s.heap.objs.size) { s with heap:=s.heap.push { cls:=.type "list",data:=.seq ah.toArray } }:=by
 refine⟨.ref s.heap.objs.size,_,I.laid (t':=s.toks) (o:=.lst vs) (λb G q=>Ak _ q) (Ax _) ⟨by rw[<- t.length,<- zM];exact hz,ah,0,U,Be _ Z⟩,Z,mQ r (I.hok.fresh (Ax _)) t ok⟩
def D4:gz X (Ec .Add) pR:=by
 intro f Y H s P J S v u l g a b Q I r w y z j U;unfold pR at U;cases G:lstM a S with
 |none=>rw[G] at U;exact Am U
 |some k =>
  cases O:lstM b S with
  |none=>rw[G,O] at U;exact Am U
  |some q =>
   rw[G,O] at U;obtain⟨L,U⟩:=x3 (X:=X) U;obtain⟨a,d,p,n,rfl,A,C,T,l1⟩:=pA I r G z;obtain⟨b,o,B,c,rfl,M,N,E,l2⟩:=pA I r O j;cases w;cases y;refine Sx T E ?_ (by rw[Bf,Bf,<- l1,<- l2,<- zM];exact L);rw[Po];exact PM I r (A.append M) (C.append N) (by rw[Bj];exact L) U
def qDQ:ZOp X (Ec .Add) pR:=⟨D4⟩
end
noncomputable def YJ:D->ag->Al (Ab D)
 |.lst Q,_=>Aa Q
 |.tup Q,_=>Aa Q
 |.loc n,S=>match S[n]? with
  |some (.lst Q)=>Aa Q
  |_=>Zt
 |_,_=>Zt
def uU (U:Ar)(f:DE):DE:=λJ S=>(f J S).bind λd Q=>match (YJ d Q).bind kD with
 |some Y=>if U then .ok (.loc Q.length) (Q++[.lst Y]) else .ok (.lst Y) Q
 |none=>.bad
section
variable {X:Cx}{aa:J0}{Y: _L.St}{H P:Hp}{J: Ab Af}{S:ag}{s:Ai}
def Q0 {K:Type}{is:K->Ac->Prop}{hash:K->Aq}{lt':K->K->Ar}{d:K}{l:K->Prop}(kd:_S.Kind X.prog X.w is hash lt' d l s.heap)(ad:_S.wq X.prog X.w is hash s.heap)(o:X.calm=Vq)(hu:X.A.units+64<Fk)(I:Inv X aa Y H s)(r:bf X.K H P J S){a:Af}{ah:Y8}
  (t:s.heap.IsList a ah.toArray\/s.heap.IsTuple a ah.toArray) (ks:Ab K) (e:ks.length=ah.length) (x:∀ i v,ah[i]? = Aa v->is (ks.getD i d) v) (hn:(_S.mi lt' ks).length<=63) (g:∀ k∈ks,l k) (cp:K->D)
  (C:∀ k v,is k v->v∈ah->∃ q,qR q v/\am X.K P J (cp k) q) {E:J7} :
  a8 X (call (.type "set") [.ref a]) (λu f=>a8 X (call (.builtin "sorted") [u]) (sr X aa Y H P J ((_S.mi lt' ks).map cp)) E f) E s:=by
 have N:ah.toArray.size=ks.length:=by rw[Bf,e]
 have mem:∀ k,k∈_S.mi lt' ks↔k∈ks:=λk=>_S.vP kd.ord k ks;have B:∀ i,i<ks.length->ks.getD i d∈ks:=λi L=>by simp[Ma,L]
 refine _S.W6 (U:=_S.mi lt' ks) ad (I.ok.hd o) li t (λi=>ks.getD i d) (λi v hv=>x i v (by simpa using hv)) li (λi L=>(mem _).mpr (B i (by rw[<- N];exact L))) λT G w y=>?_;have seen:∀ k∈_S.uO (λi=>ks.getD i d) ah.toArray.size,k∈ks:=λk Q=>by obtain⟨i,L,rfl⟩:=_S.kU.mp Q;exact B i (by rw[<- N];exact L)
 have n:Inv X aa Y H { s with heap:=T,toks:=G }:=I.kept y;refine _S.YQ (s:={ s with heap:=T,toks:=G }) kd (I.ok.hd o) li y w (λk Q=>g k (seen k Q)) (U:=_S.mi lt' ks) li (λk Q=>(mem k).mpr (seen k Q)) λh2 m D c ps z h M O b A=>?_;rw[N,F2 kd.ord] at O;exact ZN (s:={ s with heap:=T,toks:=G }) C n z h M O (λp j=>by simpa using b p j) A
set_option tactic.hygienic true in
def SM (I:Inv X aa Y H s)(r:bf X.K H P J S)(p:am X.K P J d v)(q:qR v Q)(h:YJ d S=Aa xs) :
  ∃ a vs ah,Q=.ref a/\qJ X.K P J xs vs/\qQ vs ah/\(s.heap.IsList a ah.toArray\/s.heap.IsTuple a ah.toArray)/\xs.length=ah.length:=by
 cases d with
 |lst G=>exact oF I r p q h
 |tup G=>exact oF I r p q h
 |loc n =>
  have O:S[n]? = Aa (.lst xs):=by
   have h:(match S[n]? with|some (.lst xs)=>Aa xs|_=>Zt)=Aa xs:=h;split at h
   .rename_i e;cases h;exact e
   .cases h
  simp only[am] at p;obtain⟨a,rfl,N⟩:=p;cases (show Q=Ca a from q);obtain⟨vs,z,t⟩:=r.at' n a _ N O;obtain⟨ah,U,p,C⟩:=I.list (kr.of z);exact⟨a,vs,ah,rfl,t,U,.inl p.isList,by rw[t.length,U.length]⟩
 |_=>cases h
end
section
variable {X:Cx}{e:Bl}{fa:DE}{p1 p2 sd r_:Eb}{mu:Ar}
set_option tactic.hygienic true in
def oU (x:X.calm=Vq)(hu:X.A.units+64<Fk)(hg:Gl X "sorted")(hm:X.mg "sorted" = Zt)(o:Gl X "set")(k:X.mg "set" = Zt)(ha:PE X e (tD X fa))(g:Bc [e] X.env=(Yp,eval e X.env)::Bc [] X.env:=by rfl) :
  PE X (.Call (.Name "sorted" p1) [.Call (.Name "set" p2) [e] [] r_] [] sd) (tD X (uU mu fa)):=by
 intro aa s Y H Q I h;obtain⟨P,J,ac,S,r,re,af⟩:=h;refine Hr (uW I hg hm V3 ?_);refine On ?_ rfl rfl;refine Hq ?_;refine Call_ (uW I o k KP (Gq ?_ g rfl));rw[g];refine Hq (bi (zK ha I r re af) λvv O ⟨v,n,b,J1,d,m,G1,U⟩=>Lb ?_);cases z:(YJ d m).bind kD with
 |none=>simp only[z] at U;exact Am U
 |some ys =>
   simp only[z] at U;obtain⟨f,hd,G⟩:=Ej.mp z;obtain⟨a,vs,ah,rfl,t1,p,B,l1⟩:=SM G1.inv G1.rel G1.rep G1.val hd;have L:a8 X (call (.type "set") [.ref a]) (λu O=>a8 X (call (.builtin "sorted") [u]) (sr X aa Y n b J1 ys) X.xe O) X.xe O:=by
    unfold kD at G;cases T:w5 f with
    |none=>rw[T] at G;cases G
    |some ks =>
     rw[T] at G;dsimp only at G;split at G
     .rename_i N;cases G;rw[Av,Az] at N;have:=nJ T;subst this;rw[Ao] at l1;obtain⟨t,q2⟩:=XM G1.inv G1.rel t1 p l1;exact Q0 (d:=[]) (_S.M1 X.prog X.w O.heap) (_S.RL O.heap) x hu G1.inv G1.rel B ks l1 t N.1 (lG N.2) mf q2
     .cases G
   refine bi L λu s2 i=>Lb (bi i λu' s3 ⟨D,zc,e,c,l,C⟩=>?_);subst e;cases mu with
   |true=>exact⟨.ref D,_,l,rfl,mQ G1.rel c C λM j w q A B E y=>U M j w q A (G1.same.trans B) (G1.pre.trans E) y⟩
   |false=>exact⟨.ref D,_,l,rfl,wH G1.rel c C λM j w q A B E y=>U M j w q A (G1.same.trans B) (G1.pre.trans E) y⟩
end
section
variable {X:Cx}{cm:Ar}{k:Aj}{e:Bl}{fa:DE}{p1 p2 sd r_:Eb}{mu:Ar}
def OV (O:X.calm=Vq)(J:RoomC cm k X.A)(N:Gl X "sorted")(hm:X.mg "sorted" = Zt)(Y:Gl X "set")(Q:X.mg "set" = Zt)(U:QE X e fa)(G:Bc [e] X.env=(Yp,eval e X.env)::Bc [] X.env:=by rfl) :
  QE X (.Call (.Name "sorted" p1) [.Call (.Name "set" p2) [e] [] r_] [] sd) (uU mu fa):=⟨oU O J.units N hm Y Q U.1 G⟩
end
end _D
section
namespace _D
open _L
mutual
def FT:D->Ab Aq
 |.int n=>[1,n]
 |.tup Q=>2::V7 Q
 |_=>[]
def V7:Ab D->Ab Aq
 |[]=>[0]
 |x::Q=>FT x++V7 Q
end
end _D
end
namespace _D
open _L PySem.SeqAt
inductive Z3 (h:Bb):Aj->D->Ac->Prop
 |int (n:Aj) (i:Aq) (t:Ms):Z3 h n (.int i) (.int i t)
 |tup (n:Aj) (a:Af) (xs:Ab D) (its:Y8) (ht:h.IsTuple a its.toArray) (hl:xs.length=its.length) (hs:∀ (j:Aj) (x:D) (v:Ac),xs[j]? = Aa x->its[j]? = Aa v->Z3 h n x v):Z3 h (n+1) (.tup xs) (.ref a)
def vt (h:Bb)(k:Ab Aq)(v:Ac):Prop:=∃ d,Z3 h 6 d v/\FT d=k
end _D
section
end
section
end
namespace _D
open _L
def a9 (ds:Ab D):Ar:=match w5 ds with
 |some Q=>decide ((_S.mi _H.lexLt Q).length<=63)&&Q.all λk=>!k.isEmpty
 |none=>Yp
end _D
section
end
namespace _D
open _L PySem.W
structure qu (K:Ag)(C B:Af):Prop where
 cd:∃ cd,clsIn K C=Aa cd/\cd.mro=.ref C::.ref B::gC/\cd.hasDict=Vq
 sa:findIn K (.ref C) "__setattr__" = Aa (Aa (.builtin "object.__setattr__"))
section
variable {prog:Ba}{w:Bu}{A:Bn}{E:J7}{s:Ai}{K:Ag}{x C B:Af}{ob:Cd}{vs:Br Ac}{name:Ah}{v:Ac}
def QL {Y:Ms}{R:Qs->Ai->Prop}(X:K.In s.heap)(J:qu K C B)(H:findIn K (.ref C) name=Aa Zt)(I:InstAt s.heap x ob C O)
  (h:Ap (As prog w) A.in1 (Ym (.ref x) (.ref C) (.str name Y) name v Yp)
   (λfin s'=>match fin with|.done f=>R (.ok f) s'|.again G=>G.quiet=Vq/\Gn (As prog w) A G R s') (λe s'=>R (.error e) s') s) :
  Gn (As prog w) A (.call (.builtin "object.__setattr__") ⟨[.ref x,.str name Y,v],[]⟩) R s:=by
 have Q:=PySem.F.store_object;obtain⟨L,U,N,_⟩:=J.cd;have sub:Looks (As prog w) s.heap (Wc (.ref x) (.type "object")) true:=I.type.andThen (Ut X (by unfold mroIn;rw[U,Og,N];rfl));refine Jm Q.slot.plain Q.entry (@check_slot (As prog w) _ _ s "object.__setattr__" "object" "__setattr__" (.ref x) [.str name Y,v] [] _ Q.kind Q.split sub (Q.args (.ref x) (.str name Y) v) ?_);have T:Looks (As prog w) s.heap (mroOf (.ref C)) L.mro:=(Zr X U).andThen .now;rw[osa_eq,refuse_eq];refine Ad (Ad (I.type.here (Ad (T.here ?_))));rw[N,refuseLoop_ref,refuseLoop_ref,PySem.F.store_ValueError.passes];exact An (Ad (I.type.here (Ad ((Mz X H).here (Ad (Jx (a:=Zt) Z h))))))
def rX {mA:J8}{ns:Y0}{Q:Nq->Ai->Prop}(X:K.In s.heap)(G:qu K C B)(hn:findIn K (.ref C) name=Aa Zt)(O:s.heap.get? x=Aa ob)(hc:ob.cls=.ref C)(hd:ob.data=.fields vs)
  (hD:(ob.dict=Zt/\∀ n,mA n=Zt)\/∃ Y,ob.dict=Aa Y/\Y≠x/\s.heap.Ns1 Y mA) (hw:Mw mA ns) (hz:ns.length<=sizeLine)
  (h:∀ h' Y tk,h'.get? x=Aa { ob with dict:=Aa Y } -> Y≠x->h'.Ns1 Y (λy=>if y=name then Aa v else mA y)->(∀ b o,b≠x->b≠Y->s.heap.get? b=Aa o->h'.get? b=Aa o)->(∀ d,ob.dict=Aa d->d=Y)->(ob.dict=Zt->s.heap.get? Y=Zt)->Q () ⟨h',s.gens,s.drawn,tk,s.os⟩) :
  Ap (As prog w) A (setAttr (.ref x) name v) Q E s:=by
 obtain⟨cd,l,_,L⟩:=G.cd;obtain⟨oc,zc,zl,N⟩:=ob;dsimp only at hc hd;subst hc hd;rcases hD with⟨j,c⟩|⟨Y,u,m,k⟩
 .dsimp only at j;subst j;have I:InstAt s.heap x ⟨.ref C,Zt,.fields vs,N⟩ C none:=⟨O,rfl,rfl,Js⟩;refine set_plain X I G.sa (QL (s:={ s with toks:=s.toks+1 }) X G hn I ?_);refine Ad (An (Ad (Ad (Pw O (Ad (Looks.here (s:={ s with toks:=s.toks+1 }) (Zr X l) ?_))))));rw[L];refine Ad (Zl ?_);have p:(s.heap.push { cls:=.type "dict",data:=.dict #[] }).get? x=Aa ⟨.ref C,Zt,.fields vs,N⟩:=Ak _ O;have g:x≠s.heap.objs.size:=Cn (Bh O);refine Ad (wpAny_update (o:=⟨.ref C,Zt,.fields vs,N⟩) p ?_);refine An (a:=Aa s.heap.objs.size) ?_;have g1:((s.heap.push { cls:=.type "dict",data:=.dict #[] }).update x λo=>{ o with dict:=Aa s.heap.objs.size }).get? s.heap.objs.size=Aa { cls:=.type "dict",data:=.dict #[] }:=(Ci _ _ g).trans (Yn Z Z);have g2:((s.heap.push { cls:=.type "dict",data:=.dict #[] }).update x λo=>{ o with dict:=Aa s.heap.objs.size }).Ns s.heap.objs.size (λ_=>Zt):=⟨_,#[],_,g1,Z,λe O=>absurd O aA,λ_=>rfl⟩
  refine Ad (An (Ad (Xb (s:=⟨_,s.gens,s.drawn,s.toks+1,s.os⟩) (Xs g2) λh' U J=>?_)));obtain⟨oD,f,t,T,M,H⟩:=U.count (Rf name v Td);refine Ad (So T (by rw[M];exact Sr (By H (by rw[Aw,Cy,Dv];lia))) ?_);refine An (h h' _ _ ?_ g.symm ?_ (λb o i r q=>?_) (λd z=>nomatch z) λ_=>Hx (Ax _))
  .exact(J.2 x g).trans (Dy _ p Z)
  .obtain⟨o',es,ep,e1,e2,e3,eu,e4⟩:=U;exact⟨o',es,ep,e1,e2,e3,eu,λy=>by rw[e4 y];by_cases hy:y=name <;> simp[hy,c]⟩
  .exact(J.2 b r).trans ((Ci _ _ (Di i)).trans (Ak _ q))
 .dsimp only at u;subst u;obtain⟨od,ho,_⟩:=fS k;have I:InstAt s.heap x ⟨.ref C,Aa Y,.fields vs,N⟩ C (Aa od):=⟨O,rfl,rfl,ho⟩;refine set_plain X I G.sa (QL (s:={ s with toks:=s.toks+1 }) X G hn I ?_);refine Ad (An (Ad (Ad (Pw O (Ad (Looks.here (s:={ s with toks:=s.toks+1 }) (Zr X l) ?_))))));rw[L];refine An (a:=Aa Y) (Ad (An (Ad ?_)));refine Xb (s:={ s with toks:=s.toks+1 }) k λh' U J=>?_;obtain⟨oD,f,t,T,M,H⟩:=U.count (Rf name v hw);refine Ad (So T (by rw[M];exact Sr (By H (by rw[Aw];lia))) ?_);exact An (h h' Y _ ((J.2 x m.symm).trans O) m U (λb o i r q=>(J.2 b r).trans q) (λd z=>(Cw z).symm) λz=>nomatch z)
end
end _D
namespace _D
open _L
variable {a:Af}{K:Ag}{P:Ba}{φ:Bb->Prop}
def ol (e C t:Af)(dd:Al Af):HO:=.ext λh=>∃ Q,h.get? e=Aa Q/\Q.cls=.ref C/\Q.dict=dd/\Q.data=.fields #[.ref t,.none,.none,.none,.bool Yp,.none]
inductive xk (H0 H:Hp)(e C t:Af)(fs:Ab (Ah × V)):Prop
 |no (h1:fs=[]) (h2:H=bx H0 e (ol e C t Zt)):xk H0 H e C t fs
 |dx (dx:Af) (h1:H0 dx=Zt) (h2:dx≠e) (h3:H=bx (bx H0 e (ol e C t (Aa dx))) dx (oq dx fs)):xk H0 H e C t fs
def VQ {h:Bb}(p:φ h)(t:∃ o,h.get? a=Aa o)(st:∀ Q Y:Bb,φ Q->(∀ o,Q.get? a=Aa o->Y.get? a=Aa o)->φ Y):zR P w H h a (.ext φ):=⟨p,t,st⟩
def aS {h:Bb}{dd:Al Af}(J:h.get? e=Aa Q)(G:Q.cls=.ref C)(U:Q.dict=dd)(Y:Q.data=.fields #[.ref t,.none,.none,.none,.bool Yp,.none]):zR P w H h e (ol e C t dd):=
 VQ ⟨Q,J,G,U,Y⟩ ⟨Q,J⟩ λ_ _ ⟨o,q,r⟩ k=>⟨o,k o q,r⟩
def MV {fs:Ab (Ah × V)}(x:KL a fs h):zR P w H h a (oq a fs):=by have J:=x;obtain⟨_,⟨o,_,_,e,_⟩,_⟩:=J;exact VQ x ⟨o,e⟩ λ_ _ ⟨m,⟨o,Q,Y,e,r⟩,q⟩ k=>⟨m,⟨o,Q,Y,k _ e,r⟩,q⟩
theorem UF {f:Ah}{v:V}:∀ {fs:Ab (Ah × V)},(∀ p∈fs,p.1≠f)->∀ y,(fs++[(f,v)]).lookup y=if y=f then Aa v else fs.lookup y
 |[],_,y=>by
  by_cases h:y=f
  .subst h;simp
  .simp[Ev,Fx.mpr h,h]
 |(g,u)::fs,Q,y=>by
  rw[List.cons_append,Eo,Eo];have:=UF (fs:=fs) (v:=v) (λp Y=>Q p (.tail _ Y)) y;cases q:y == g with
  |true =>
   rw[AT (λz=>Q (g,u) (.head _) (by rw[<- eq_of_beq q,z]))]
  |false=>exact this
def KA {h':Bb}{f:Ah}{fs:Ab (Ah × V)}{mA:J8}(Y:∀ p∈fs,p.1≠f)(Q:qR v u)(r:∀ y,uH (fs.lookup y) (mA y))(U:Mw mA (fs.map (·.1)))(n:h'.Ns1 a (λy=>if y=f then Aa u else mA y)):KL a (fs++[(f,v)]) h':=by
 refine⟨_,n,λy=>?_,λy J=>?_⟩
 .rw[UF Y];by_cases q:y=f
  .rw[Au q,Au q];exact Q
  .rw[AT q,AT q];exact r y
 .rw[Dq,Cg];by_cases q:y=f
  .exact .inr (by rw[q];simp)
  .refine .inl (U y λz=>J ?_);show (if y=f then Aa u else mA y)=Zt;rw[AT q];exact z
section
variable {X:Cx}{aa:J0}{Y: _L.St}{H0 H:Hp}{s:Ai}{e C B t:Af}{fs:Ab (Ah × V)}{f:Ah}{v:V}{u:Ac}
def vW (I:Inv X aa Y H s)(h:H a=Aa (.ext φ)) : φ s.heap:=(I.hok a _ h).1
def none_of (I:Inv X aa Y H s)(h:s.heap.get? a=Zt):H a=none:=by
 cases q:H a with
 |none=>rfl
 |some w =>
  obtain⟨Q,z⟩:=zR.there (I.hok a _ q);rw[h] at z;cases z
def SO {A:Bn}{E:J7}{Q:Nq->Ai->Prop}(I:Inv X aa Y H s)(h0:H0 e=Zt)(L:qu X.K C B)(hn:Dd X.K (.ref C) f=Aa Zt)(x:xk H0 H e C t fs)(hl:fs.length<1000)(hf:∀ p∈fs,p.1≠f)(rv:qR v u)
  (h:∀ H' s',Inv X aa Y H' s'->xk H0 H' e C t (fs++[(f,v)])->Q () s'):Ap (As X.prog X.w) A (setAttr (.ref e) f u) Q E s:=by
 cases x with
 |no g N =>
  subst g N;obtain⟨ob,l,k,G,J⟩:=vW I qT;refine rX (mA:=λ_=>Zt) (ns:=[]) I.kIn L hn l k J (.inl ⟨G,λ_=>rfl⟩) Td aA λm dx d M y j a4 _ a6=>?_;have i:s.heap.get? dx=none:=a6 G;have hx:H0 dx=none:=by have z:=none_of I i;rwa [qN y] at z
  have nH:∀ b w,bx H0 e (ol e C t Zt) b=Aa w->b≠dx:=λb w q z=>by rw[z,qN y,hx] at q;cases q
  have U:∀ b o,b≠e->s.heap.get? b=Aa o->m.get? b=Aa o:=λb o n q=>a4 b o n (λz=>by rw[z,i] at q;cases q) q;have O:∀ b w,bx H0 e (ol e C t Zt) b=Aa w->(∀ φ,w≠.ext φ) -> bx (bx H0 e (ol e C t (Aa dx))) dx (oq dx [(f,v)]) b=Aa w:=λb w q n=>by
   rw[qN (nH b w q)];by_cases z:b=e
   .subst z;rw[qT] at q;cases q;exact absurd rfl (n _)
   .rw[qN z] at q ⊢;exact q
  refine h _ _ (Inv.un (t':=d) I (H':=bx (bx H0 e (ol e C t (Aa dx))) dx (oq dx [(f,v)])) ⟨λb o q n _ _=>?_,λb o q n _ _=>⟨o.slots,?_⟩,λb o q n _=>?_,λb o q _=>?_,λb xs q=>O b _ q (λ_ z=>nomatch z),λb o w q=>O b _ q (λ_ z=>nomatch z),λb ps q=>⟨#[],by rw[O b _ q (λ_ z=>nomatch z)];simp⟩⟩ λb w q=>?_) (.dx dx hx y Z)
  .exact U b o (λz=>by rw[z,qT] at n;cases n) q
  .exact U b o (λz=>by rw[z,qT] at n;cases n) q
  .have z1:b≠e:=λz=>by rw[z,qT] at n;cases n
   rw[qN z1] at n;rw[qN (λz=>by rw[z,i] at q;cases q),qN z1];exact n
  .by_cases z:b=e
   .subst z;exact⟨_,M⟩
   .exact⟨o,U b o z q⟩
  .by_cases z:b=dx
   .subst z;rw[qT] at q;cases q;exact MV (KA (fs:=[]) (mA:=λ_=>Zt) aA rv (λ_=>Js) Td j)
   .rw[qN z] at q;by_cases T:b=e
    .subst T;rw[qT] at q;cases q;exact aS M k rfl J
    .rw[qN T] at q;have q':bx H0 e (ol e C t Zt) b=Aa w:=by rw[qN T];exact q
     refine(I.hok b w q').stay (λc o zc r=>U c o ?_ r) (λc r=>O c _ r λ_ z=>nomatch z) λc xs r=>O c _ r λ_ z=>nomatch z;rcases zc with rfl|r
     .exact T
     .rintro rfl;rw[qT] at r;cases r
 |dx dx g N h3 =>
  subst h3;have hE:bx (bx H0 e (ol e C t (Aa dx))) dx (oq dx fs) e=Aa (ol e C t (Aa dx)):=by rw[qN (Di N),qT]
  obtain⟨ob,l,k,G,J⟩:=vW I hE;obtain⟨mA,n,r,wi⟩:=vW I (a:=dx) qT;refine rX (mA:=mA) (ns:=fs.map (·.1)) I.kIn L hn l k J (.inr ⟨dx,G,N,n⟩) wi (by rw[Ao,Dv];lia) λm d2 d M y j a4 a5 _=>?_;cases a5 dx G;have U:∀ b o,b≠dx->s.heap.get? b=Aa o->m.get? b=Aa o:=λb o n q=>by
   by_cases z:b=e
   .subst z;rw[l] at q;cases q;rw[M,<- G]
   .exact a4 b o z n q
  have x':=KA hf rv r wi j;refine h _ _ (Inv.write (t':=d) I (x:=dx) (e:=dx) (o:=oq dx (fs++[(f,v)])) (by rw[qT];exact Js) (.inl Z) U ?_ (MV x')) (.dx dx g N R6);obtain⟨o,_,_,q,_⟩:=j;exact⟨o,q⟩
end
inductive nk:Ab Ah->Ab Du->Prop
 |nil:nk [] []
 |cons {f:Ah} {fs:Y0} {p1 p2 p3 pos:Eb} {r:Ab Du}:nk fs r->nk (f::fs) (.Assign [.Attribute (.Name ("self" : Ah) p1) f p2] (.Name f p3) pos::r)
structure rj (K:Ag)(C:Af)(f:Ah):Prop where
 at_:Dd K (.ref C) f=Aa Zt
 hd:(f == ("__debug__" : Ah))=Yp
 hc:(f == ("__classdict__" : Ah))=Yp
def OH (C:Af)(i:Aj)(f:Ah):TS:=λD Y H=>∃ e t J Q v,Y[0]? = Aa (Aa (.ref e))/\Y[i]? = Aa (Aa v)/\J e=Zt/\xk J H e C t Q/\Q.length<1000/\(∀ p∈Q,p.1≠f)/\∀ U,xk J U e C t (Q++[(f,v)])->D.nx Y U
def OI (C:Af)(i:Aj)(fs:Y0):TS:=λD Y H=>∃ e t J U Q,Y[0]? = Aa (Aa (.ref e))/\(∀ j w,U[j]? = Aa w->Y[i+j]? = Aa (Aa w))/\U.length=fs.length/\J e=Zt/\xk J H e C t Q/\Q.length+fs.length<1000/\(∀ p∈Q,p.1 ∉ fs)/\∀ G,xk J G e C t (Q++fs.zip U)->D.nx Y G
section
variable {X:Cx}{C B:Af}
def DX {o h O ai:Eb}{i:Aj}(J:qu X.K C B)(k:rj X.K C f)(h0:X.N[0]? = Aa ("self" : Ah))(M:qg X.env.scope "self")(hi:X.N[i]? = Aa f)(hv:qg X.env.scope f) :
  PS X (.Assign [.Attribute (.Name ("self" : Ah) o) f h] (.Name f O) ai) (OH C i f):=by
 intro N s Y H D I ⟨e,t,H0,fs,v,c,r,d,m,q,z,g⟩;refine Oh (bi (lP hi hv k.hd k.hc N s Y H (λy Q=>y=v/\Q=H) I ⟨v,r,rfl,rfl⟩) λu L ⟨y,Q,p,b,E,U⟩=>bi (lP h0 M aC aC N L Y Q (λy Q=>y=.ref e/\Q=H) p ⟨.ref e,c,rfl,U⟩) λn s2 ⟨x,H2,A,T,l,w⟩=>?_);subst E U l w;obtain rfl:n=Ca e:=T;exact SO A d J k.at_ m q z b λG s' j x=>⟨Y,G,j,g G x⟩
def FN {fs:Ab (Ah × V)}{f:Ah}{v:V}{r:Ab (Ah × V)}:fs++(f,v)::r=(fs++[(f,v)])++r:=by simp
set_option tactic.hygienic true in
theorem eC (J:qu X.K C B)(h0:X.N[0]? = Aa ("self" : Ah))(o:qg X.env.scope "self"):∀ (fs:Y0) (G:Ab Du) (i:Aj),nk fs G->(∀ j f,fs[j]? = Aa f->X.N[i+j]? = Aa f)->(∀ f∈fs,rj X.K C f/\qg X.env.scope f)->fs.Nodup ->
  kg X G (OI C i fs)
 |[],G,i,T,_,_,_=>by
  cases T;intro A s Y H D I ⟨e,t,O,U,Q,_,_,_,_,L,_,_,E⟩;exact ZX A s Y H D I (E H (by simpa using L))
 |f::fs,G,i,T,M,h,b=>by
  cases T;rename_i p1 p2 p3 ai r hr;have k:=h f (.head _);have ih:=eC J h0 o fs r (i+1) hr (λj g e=>by have:=M (j+1) g e;rwa [show i+1+j=i+(j+1) by fin2]) (λg hg=>h g (.tail _ hg)) (Gx.mp b).2;have nf:=(Gx.mp b).1;intro A s Y H D I ⟨e,t,O,U,Q,d,m,v,n,L,l,c,E⟩;cases U with
  |nil=>cases v
  |cons w U =>
   have q:OJ (OH C i f) (OI C (i+1) fs) D Y H:=⟨e,t,O,Q,w,d,m 0 w Z,n,L,by rw[Aw] at l;fin2,λp hp z=>c p hp (z▸.head _),λH' x=>?_⟩
   .exact o3 (DX J k.1 h0 o (M 0 f Z) k.2) ih A s Y H D I q
   .refine⟨e,t,O,U,Q++[(f,w)],d,λj u hj=>by have:=m (j+1) u hj;rwa [show i+1+j=i+(j+1) by fin2],AaL v,n,x,by rw[Aw] at l;rw[Bj,Df];fin2,λp hp z=>?_,λN y=>E N (by rw[Kg,FN];exact y)⟩;rcases Cg.mp hp with hp|hp
    .exact c p hp (.tail _ z)
    .rw[Cc.mp hp] at z;exact nf z
end
def spI (C:Af)(fs:Y0):Sp:=λG H Q _=>∃ e t J U,G=V.ref e::U/\U.length=fs.length/\J e=Zt/\H=bx J e (ol e C t Zt)/\∀ Y,J Y=Zt->Y≠e->Q .non (bx (bx J e (ol e C t (Aa Y))) Y (oq Y (fs.zip U)))
def QY {w:Bu}{mg:J8}{base:Bb}{cm:Ar}{y:Ah}{st:Du}{fs:Y0}(F:uj K "__init__" y st O fd)(S:cz (("self" : Ah)::fs) (("self" : Ah)::fs) (qF st))(T:qu K C B)(v:nk fs (zG st))(n:∀ f∈fs,rj K C f)(m:fs≠[])(p:fs.length<1000) :
  rh P w K mg base cm 1 O fd (("self" : Ah)::fs) (spI C fs):=by
 have Y:∀ x∈("self" : Ah)::fs,qg (qF st) x:=λx k=>(S.par x k).elim .inl λh=>.inr (.inl h);refine VV F S (λr H Q E ⟨e,t,M,G,J,U,_⟩=>by rw[J,Aw,Aw,U]) λN A q s H r Q E _ _ ⟨e,t,M,G,J,U,o,g,c⟩=>?_;refine⟨_,eC (X:=jt cm P w K mg base (("self" : Ah)::fs) y (qF st) O N A q s H E) (C:=C) T Z (Y _ (.head _)) fs (zG st) 1 v (λj f e=>by rw[Ph];exact e) (λf I=>⟨n f I,Y f (.tail _ I)⟩) (Gx.mp S.nd).2,e,t,M,G,[],?_,λj u z=>?_,U,o,.no Z g,by simpa using p,by simp,λi x=>?_⟩
 .rw[J];rfl
 .rw[J];show ((V.ref e::G).map Aa++_)[1+j]? = _;rw[Co (by rw[Ao,Aw];have:=(Bv.mp z).1;fin2),Es,Ph,Nb,z];rfl
 .rw[Kt] at x;cases x with
  |no L _ =>
   exfalso;cases fs with
   |nil=>exact m rfl
   |cons f fs =>
    cases G with
    |nil=>cases U
    |cons _ _=>cases L
  |dx dx L d l=>rw[l];exact c dx L d
section
variable {prog:Ba}{w:Bu}{A:Bn}{E:J7}{s:Ai}{h:Bb}{g:Br Qy}{d:Drawn}{t:Aj}{os:OsState}{ac:Hg}
variable {nm q:Ah}{C N:Af}{bs bm wa:Y8}{hdct:Ar}{sn:Y0}{sub:Y8}{ab:Ar}{col:Al Ar}{dd:Al Af}{k0 k1 k2 k3 k5:Al Ac}{B gu mn:Em}{fI:Af}{oI:Cd}{mN:J8}{aq:Y8}
def YR (F:Tp B gu mn wa)(T:Ua h wa bm){Q:Fin->Ai->Prop}(L:h.get? C=Aa (Jw nm q C N bs bm hdct sn sub ab col dd k0 k1 k2 k3 k5 gu))(m:h.Ns N mN)(n:mN "__init__" = Aa (.ref fI))(j:h.get? fI=Aa oI)(k:oI.cls=.type "function")
  (c:∀ h' e,Qf h h' e (.ref C) aq->Ap (As prog w) A (call (.ref fI) (.ref e::aq)) (λr s'=>r=.none/\Q (.done (.ret (.ref e))) s') E ⟨h',g,d,t,os⟩) (Y:aq.length<=sizeLine) :
  Ap (As prog w) A (Ih.«type.__call__» ⟨.ref C::aq,[]⟩) Q E ⟨h,g,d,t,os⟩:=by
 repeat (first|with_reducible refine Lg L ?_|with_reducible refine wpAny_madeBy_exc L ?_|wp_step)
 refine codeAny_call_builtin_code (Mv _ F.quiet) (wpAny_check_new_subT F T L ?_);refine codeAny_exc_new_subT F T L ?_ Y;show Ap _ _ _ _ _ _;generalize H:({ cls:=.ref C,data:=.fields #[.ref h.objs.size,.none,.none,.none,.bool Yp,.none] } : Cd)=O;generalize u:({ cls:=.type "tuple",data:=.seq aq.toArray } : Cd)=U;have J:∀ b o,h.get? b=Aa o->((h.push U).push O).get? b=Aa o:=λb o e=>Ak _ (Ak _ e);have G:=J _ _ L;have z:=J _ _ j;have M:=m.keeps J;have f:=T.keeps J;have p:((h.push U).push O).get? (h.objs.size+1)=Aa O:=by subst H u;heap_get
 have I:(Ca C::bm).contains (.ref C)=true:=by simp
 have y:O.cls=.ref C:=by subst H;rfl
 unfold Wc
 repeat (first|(with_reducible refine Lg p ?_;rw[y])|(with_reducible refine Wl G ?_;rw[I])|wp_step)
 show Ap _ _ (typeLookup (.ref C) _) _ _ _;refine wpAny_typeLookup_tail G M f F.mroIs F.init.lookup ?_;rw[n];refine Dc (Ad ?_);unfold bindSpecial;refine Ad (Lo (T:="function") ⟨_,z,k⟩ ?_);rw[Au aC];refine An (Ad (Fm (c _ (h.objs.size+1) ⟨J,Hx (Jt _),h.objs.size,p.trans (congrArg Aa H.symm),Hx (Ax _),?_⟩) (λr s' l=>?_) λ_ _ x=>x))
 .subst u;exact Ak _ (Yn rfl rfl)
 .obtain⟨rfl,v⟩:=l;wp_walk;exact v
def rP (F:Tp B gu mn wa)(T:Ua h wa bm){Q:J7}(J:h.get? C=Aa (Jw nm q C N bs bm hdct sn sub ab col dd k0 k1 k2 k3 k5 gu))(I:h.Ns N mN)(L:mN "__init__" = Aa (.ref fI))(U:h.get? fI=Aa oI)(G:oI.cls=.type "function")
  (O:∀ h' e,Qf h h' e (.ref C) aq->Ap (As prog w) (A.under (.builtin "type.__call__" ⟨.ref C::aq,[]⟩)) (call (.ref fI) (.ref e::aq)) (λr s'=>r=.none/\Q (.ref e) s') E ⟨h',g,d,t,os⟩) (Y:aq.length<=sizeLine) :
  Ap (As prog w) A (call (.ref C) aq) Q E ⟨h,g,d,t,os⟩:=by
 have M:=tc_lookup;have H:=tc_bind (.ref C);have z:(⟨h,g,d,t,os⟩:Ai).TypeIs (.ref C) "type":=⟨_,J,Z⟩;refine Kz (Oy ?_);show Ap _ _ (callAny (.ref C) _) _ _ _
 repeat (any_goals (first|assumption|with_reducible refine Lg J ?_|wp_step))
 refine⟨Z,codeAny_call_builtin_at (Mv _ (by decide +kernel)) entry_typeCall (wpAny_check_type_call_sub J (YR F T J I L U G (λh' e m=>?_) Y))⟩;exact O h' e m
def BN {x:Kk Ac}{Q:Flow->Ai->Prop}(I:bm.contains (.type "BaseException")=Vq)(T:A.handled=Zt)
  (k:Ap (As prog w) A x (λv Y=>∃ e J t,v=.ref e/\Y.heap.get? C=Aa (Jw nm q C N bs bm hdct sn sub ab col dd k0 k1 k2 k3 k5 gu)/\Y.heap.get? e=Aa J/\J.cls=.ref C/\J.data=.fields #[.ref t,.none,.none,.none,.bool Yp,.none]/\E (.ref e) Y) E s) :
  Ap (As prog w) A (raiseStmt ac (Aa x) Zt) Q E s:=by
 have U:(Ca C::bm).contains (.type "BaseException")=true:=by rw[List.contains_cons,I,Bool.or_true]
 unfold raiseStmt;refine Ad (Fm k (λv Y z=>?_) λ_ _ x=>x);obtain⟨e,⟨l,o,H,y⟩,t,rfl,G,M,O,L,j⟩:=z;dsimp only at O L;subst O L;obtain⟨p,g,d,u,os⟩:=Y
 repeat (first|with_reducible refine Lg M ?_|with_reducible refine Lg G ?_|(with_reducible refine Wl G ?_;rw[U])|wp_step)
 exact wpAny_raiseNew_none T j
def YF (F:Tp B gu mn wa){x:Ah}{M L i:Eb}{Y:Ab Bl}{Q:Flow->Ai->Prop}(l:bm.contains (.type "BaseException")=Vq)(u:A.handled=Zt)(O:(Eu L (Bc Y ac)).any (·.1)=Yp)(hi:mN "__init__" = Aa (.ref fI))(I:oI.cls=.type "function")
  (k:Ap (As prog w) A (eval (.Name x M) ac) (λf H=>f=.ref C/\Ap (As prog w) A (evalArgs (.ref C) Vq (Eu L (Bc Y ac)) [])
   (λa J=>a.kw=[]/\a.pos.length<=sizeLine/\J.heap.get? C=Aa (Jw nm q C N bs bm hdct sn sub ab col dd k0 k1 k2 k3 k5 gu)/\J.heap.Ns N mN/\Ua J.heap wa bm/\J.heap.get? fI=Aa oI /\
    ∀ h' e,Qf J.heap h' e (.ref C) a.pos->Ap (As prog w) (A.under (.builtin "type.__call__" ⟨.ref C::a.pos,[]⟩)) (call (.ref fI) (.ref e::a.pos))
     (λr s'=>r=.none/\∃ G t,s'.heap.get? C=Aa (Jw nm q C N bs bm hdct sn sub ab col dd k0 k1 k2 k3 k5 gu)/\s'.heap.get? e=Aa G/\G.cls=.ref C/\G.data=.fields #[.ref t,.none,.none,.none,.bool Yp,.none]/\E (.ref e) s') E { J with heap:=h' }) E H) E s) :
  Ap (As prog w) A (exec (.Raise (Aa (.Call (.Name x M) Y [] L)) Zt i) ac) Q E s:=by
 rw[arm_exec_Raise];refine Ad (Hk (BN (C:=C) (nm:=nm) (q:=q) (N:=N) (bs:=bs) (bm:=bm) (hdct:=hdct) (sn:=sn) (sub:=sub) (ab:=ab) (col:=col) (dd:=dd) (k0:=k0) (k1:=k1) (k2:=k2) (k3:=k3) (k5:=k5) (gu:=gu) l u (Ad (Fm (Yo (Fm k (λf H z=>?_) λ_ _ x=>x)) (λv s3 z=>Ad (Hk (An z))) λ_ _ x=>x))));obtain⟨rfl,z⟩:=z;unfold Uk;refine Ad (Dc (Fm z (λa J y=>Ad (Hk ?_)) λ_ _ x=>x));obtain⟨ap,c⟩:=a;obtain⟨n,U,j,b,T,o,y⟩:=y;obtain rfl:c=[]:=n;obtain⟨hp,g,d,tk,os⟩:=J;simp only[O];refine Ad (WP j ?_);refine Ad (rP F T j b hi o I (λh' e m=>Fm (y h' e m) (λr s' ⟨p,G,t,z⟩=>⟨p,Ad (Dc (wpAny_point (An ⟨e,G,t,rfl,z⟩)))⟩) λ_ _ x=>x) U)
end
set_option tactic.hygienic true in
def qAa (X:K.In h)(G:h.Ns N m)(e:Bp K N n=Aa (Aa v)):m n=Aa v:=by
 obtain⟨o,O,C,Y,U,_,Q⟩:=G;unfold Bp at e;split at e
 .rename_i q;cases Y.symm.trans (X _ _ q);cases U;split at e
  .rename_i J;cases e;rw[<- Q];unfold nsFind findBy;rw[<- Wu,J];rfl
  .split at e <;> cases e
 .cases e
def CG (K:Ag)(N Q:Af):Ar:=cN K N&&(decide (Bp K N "__init__" = Aa (Aa (.ref Q)))&&(match Ev Q K with|some o=>decide (o.cls=.type "function")|none=>Yp))
def a0 (K:Ag)(C A U:Af):Ar:=mU K C λG Q Y=>mU K A λ_ J _=>decide (G=.type "type")&&(decide (Q.mro=.ref C::.ref A::gC)&&(!Q.hasDel&&(CG K Q.ns U&&(jL K J.ns&&(decide (Y.toList.length=6)&&decide (Y.toList[4]? = Aa (Aa (.builtin "ValueError.__new__"))))))))
inductive L_ (h:Bb)(C fI:Af):Prop
 |mk (nm q:Ah) (N:Af) (bs bm:Y8) (hdct:Ar) (sn:Y0) (sub:Y8) (ab:Ar) (col:Al Ar) (dd:Al Af) (k0 k1 k2 k3 k5:Al Ac) (mN:J8) (hC:h.get? C=Aa (Jw nm q C N bs bm hdct sn sub ab col dd k0 k1 k2 k3 k5 "ValueError.__new__")) (hN:h.Ns N mN) (hi:mN "__init__" = Aa (.ref fI)) (T:Ua h gC bm):L_ h C fI
def QM (Q:K.In h)(z:a0 K C A J=Vq):L_ h C J/\∀ o,Ev J K=Aa o->o.cls=.type "function":=by obtain⟨f,c,O,v,e,z⟩:=bD z;obtain⟨d,r,l,g,M,z⟩:=bD z;have U:=Ct.mp z;have B:=Ct.mp U.2;have N:=Ct.mp B.2;have L:=Ct.mp N.2;have Y:=Ct.mp L.2;have I:=Ct.mp Y.2;have T:=Ct.mp L.1;have H:=Ct.mp T.2;rw[Bg U.1] at e;obtain⟨p,j,u,y,x,k,w⟩:=_P (Bg I.1);have G:h.Ns O.ns (h.nsMap O.ns):=.of_isNs (Mu Q (oP T.1));refine⟨⟨_,_,_,_,_,_,_,_,_,_,_,p,j,u,y,k,_,(Q _ _ e).trans (congrArg Aa (zy (Bg B.1) (Lc _▸N.1) w (Bg I.2))),G,qAa Q G (Bg H.1),.own (Q _ _ M) (.of_isNs (Mu Q (xV Y.1).1)) (Mr Q (xV Y.1).1 (xV Y.1).2) .base⟩,λo q=>?_⟩;have E:=H.2;rw[q] at E;exact Bg E
structure FcOk (K:Ag)(mg:J8)(x:Ah)(C:Af)(ns:Y0):Prop where
 hm:mg x=Aa (.ref C)
 ex:∃ B fI fd qual st,uj K "__init__" qual st fI fd/\yC K fd (("self" : Ah)::ns) [] /\ cz (("self" : Ah)::ns) (("self" : Ah)::ns) (qF st)/\nk ns (zG st)/\qu K C B/\a0 K C B fI=Vq
 fld:∀ f∈ns,rj K C f
 ne:ns≠[]
 ln:ns.length<1000
section
variable {X:Cx}{aa:J0}{Y: _L.St}{H:Hp}{s:Ai}
def Inv.drop {H':Hp}(I:Inv X aa Y H s)(G:H e=Aa (.ext φ))(h0:H' e=Zt)(J:∀ b,b≠e->H' b=H b):Inv X aa Y H' s:=by
 have k:∀ b u,H b=Aa u->(∀ φ,u≠.ext φ) -> H' b=Aa u:=λb u q n=>by
  rw[J b λz=>?_];· exact q
  rw[z,G] at q;cases q;exact n _ rfl
 have Q:∀ b,H b=Zt->H' b=none:=λb q=>by rw[J b λz=>by rw[z,G] at q;cases q];exact q
 refine⟨I.ok,I.os,I.bare,⟨I.base.keep,I.base.slot,λb o q n N=>Q b (I.base.free b o q n N),I.base.there,λb U q=>k b _ (I.base.tups b U q) (λ_ z=>nomatch z),λb o u q=>k b _ (I.base.frzs b o u q) (λ_ z=>nomatch z),λb M q=>?_⟩,I.loc,I.cell,Q _ I.free,λx c q=>Q _ (I.freeC x c q),λp A=>?_,λb u q=>?_,I.len⟩
 .obtain⟨m,z⟩:=I.base.tbls b M q;exact⟨m,k b _ z (λ_ z=>nomatch z)⟩
 .obtain⟨C,L,B,E,O⟩:=I.pin p A;exact⟨C,Q _ L,B,E,O⟩
 .have T:b≠e:=λz=>by rw[z,h0] at q;cases q
  rw[J b T] at q;exact(I.hok b u q).stay (λ_ _ _ z=>z) (λc z=>k c _ z (λ_ z=>nomatch z)) λc U z=>k c _ z (λ_ z=>nomatch z)
def pG (c:Ac)(ns:Y0)(G:DA):DS:=λQ S=>(G Q S).toS Q λJ U=>if J.length=ns.length then .ex c (.exl c ns J) Q U else .bad
def VF {U:Bl}{j:Ab Bl}{np g ai:Eb}(hc:X.calm=Vq)(d:RoomC cm 2 X.A)(hF:Fn1 X)(hg:Gl X x)(G:FcOk X.K X.mg x C ns)(ha:PA X (U::j) (kh X fa))
  (zl:(x == ("__debug__" : Ah))=false:=by decide) (he:Bc (U::j) X.env=(Yp,eval U X.env)::Bc j X.env:=by rfl) (f:(Eu g (Bc j X.env)).any (·.1)=false:=by rfl) :
  PS X (.Raise (Aa (.Call (.Name x np) (U::j) [] g)) Zt ai) (jb X (pG (.ref C) ns fa)):=by
 intro aa s Y H D I h;obtain⟨P,J,ac,S,r,re,af⟩:=h;obtain⟨B,fI,fd,au,st,F,hb,hS,i,zc,hx⟩:=G.ex;obtain⟨⟨nm,qn,N,bs,tl,hdct,sn,sub,ab,col,dd,k0,k1,k2,k3,k5,mN,hC,hN,hi,T⟩,n⟩:=QM I.mod.kin hx;obtain⟨oc,od,zn,lk⟩:=kQ F;refine YF (C:=C) (nm:=nm) (q:=qn) (N:=N) (bs:=bs) (bm:=tl) (hdct:=hdct) (sn:=sn) (sub:=sub) (ab:=ab) (col:=col) (dd:=dd) (k0:=k0) (k1:=k1) (k2:=k2) (k3:=k3) (k5:=k5)
  Hd (mN:=mN) (T.hasType Hd.hasBase) (I.ok.hd hc) (by rw[he];show (Yp||(Eu g (Bc j X.env)).any (·.1))=Yp;rw[f];rfl) hi (n _ lk) (wA I hg G.hm ⟨rfl,?_⟩ zl)
 have run:=dM ha I r re af g;rw[he] at run ⊢;refine Jl (bi run λA c ⟨E,O,P1,J1,ds,S1,L,rv,r1,zo,rp,e1,e2,q⟩=>?_);by_cases hz:ds.length=ns.length
 .rw[Au hz] at q;have hv:E.length=ns.length:=by rw[<- rp.length];exact hz
  have hl:A.length=ns.length:=by rw[<- rv.length];exact hv
  refine⟨Z,by rw[hl,Dv];have:=G.ln;fin2,L.bk _ _ hC,hN.keeps L.bk,T.keeps L.bk,L.kIn _ _ lk,λh' e l=>?_⟩;obtain⟨t,m,_,_⟩:=l.there;have n0:O e=none:=none_of L l.new;have no:¬ pe X aa O e:=λM=>by obtain⟨o1,y⟩:=pe.there L hF M;rw[l.new] at y;cases y
  have nf:e ∉ gv X.stack:=λz=>by obtain⟨_,o,y,_⟩:=L.stack.mem z;rw[l.new] at y;cases y
  have I2:Inv X aa Y (bx O e (ol e C t Zt)) { c with heap:=h' }:=Inv.track (L.kept (t':=c.toks) l.keeps) hF no nf λ_=>aS m Z Z Z;have rm:RoomC Vq 1 (X.A.under (.builtin "type.__call__" ⟨.ref C::A,[]⟩)):=.of (nj.make (k:=1) ⟨I.ok.hd hc,d.dp,d.un,d.gd⟩ C A []);have bd:=hb { c with heap:=h' } (.ref e::A) I2.kIn (by simp[hl]);rw[Gg] at bd;refine Kz (Ka ((QY (w:=X.w) (mg:=X.mg) (base:=X.base) (cm:=Vq) F hS zc i G.fld G.ne G.ln).run _ X.stack { c with heap:=h' } _ ⟨.ref e::A,[]⟩ (.ref e::A) (.ref e::E) (λv H'=>v=.non/\∃ Q,O Q=Zt/\Q≠e/\H'=bx (bx O e (ol e C t (Aa Q))) Q (oq Q (ns.zip E))) (λ_ _ _=>Fv) rm (I2.env0.make C A []) bd (.cons Z rv) ⟨e,t,O,E,Z,hv,n0,Z,λQ d1 d2=>⟨Z,Q,d1,d2,Z⟩⟩) λr s' p=>?_);cases r with
  |error u =>
   obtain⟨_,_,_,_,_,_,_,_,_,_,_,_,z⟩:=(show pf X.prog X.w X.stack _ _ _ u s' from p)
   exact Am z
  |ok fl =>
   cases fl with
   |ret u =>
    obtain⟨v,H',I3,ru,rfl,Q,d1,d2,rfl⟩:=I2.after p;have hE:bx (bx O e (ol e C t (Aa Q))) Q (oq Q (ns.zip E)) e=Aa (ol e C t (Aa Q)):=by rw[qN (Di d2),qT]
    obtain⟨ob,b1,b2,b3,b4⟩:=vW I3 hE;have I4:Inv X aa Y (bx O Q (oq Q (ns.zip E))) s':=Inv.drop I3 hE (by rw[qN (Di d2)];exact n0) λb hb=>by
     by_cases w:b=Q
     .rw[w,qT,qT]
     .rw[qN w,qN w,qN hb]
    obtain⟨r4,sP⟩:=r1.pure (o:=oq Q (ns.zip E)) d1;refine⟨ru,ob,t,I3.bk _ _ hC,b1,b2,b4,q _ _ ⟨e,aa,Y,_,_,J1,rfl,I4,r4,sP,Bt _,Aa Q,.new ob t b1 b2 b3 b4 (λM=>no ?_) nf,⟨rfl,Q,E,rfl,qT,hv.symm,qJ.mono sP (Bt _) _ _ rp⟩⟩⟩;rcases M with z|z|z|z
    .exact .inl z
    .exact absurd (by rw[qN (Di d2)];exact n0) z
    .exact .inr (.inr (.inl z))
    .exact .inr (.inr (.inr z))
   |next=>exact Am p
   |brk=>exact Am p
   |cont=>exact Am p
 .rw[AT hz] at q;exact Am q
end
end _D
namespace _D
open _L PySem.W
variable {cl:J9}
section
variable {prog:Ba}{w:Bu}{A:Bn}{E:J7}{s:Ai}{K:Ag}{x C:Af}{ox:Cd}{od:Al Cd}{name:Ah}{v:Ac}
def HU {Q:Ms}{R:Qs->Ai->Prop}(X:K.In s.heap)(J:og K C)(I:InstAt s.heap x ox C od)(U:findObj K C od name=Aa (.value v))(h:R (.ok (.ret v)) s) :
  Gn (As prog w) A (.call (.builtin "BaseException.__getattribute__") ⟨[.ref x,.str name Q],[]⟩) R s:=by
 have LT:=I.type (M:=As prog w);have G:=Ut (M:=As prog w) X J.mb;have N:=looks_find (M:=As prog w) X I U;have O:builtinKind "BaseException.__getattribute__" = Aa .slot:=by decide +kernel
 have Y:splitId "BaseException.__getattribute__" = Aa ("BaseException","__getattribute__"):=by decide +kernel
 refine Jm Ke.ga.plain Uu (@check_slot (As prog w) _ _ s "BaseException.__getattribute__" "BaseException" "__getattribute__" (.ref x) [.str name Q] [] _ O Y (LT.andThen G) (Vl (.ref x) (.str name Q)) ?_);cases s;unfold Ih.«object.__getattribute__»;refine Ad (Jx (show slotArgs "__getattribute__" 1 ⟨[.ref x,.str name Q],[]⟩=pure (.ref x,[.str name Q]) from by kernel_rfl) ?_);exact Ad (An (Ad (LT.at (Ad (N.at (An h))))))
def NJ {Q:J7}(X:K.In s.heap)(Y:og K C)(I:InstAt s.heap x ox C od)(B:findObj K C od name=Aa (.value v))(O:handedIn v=Vq)(h:Q v { s with toks:=s.toks+1 }) : Ap (As prog w) A (Yy (.ref x) name J) Q E s:=by
 have LT:=I.type (M:=As prog w);have N:=Mz (M:=As prog w) X Y.ga;have G:=Mz (M:=As prog w) X Y.hk;unfold Yy getAttrBy;cases s;refine Ad (wpAny_mkText (Dc (Ad (LT.at (Ad (N.at ?_))))));dsimp only;have U:(L2 "BaseException.__getattribute__" == L2 "object.__getattribute__")=false:=by decide +kernel
 rw[U,Hu,AT Fc];unfold Zz hookBefore;rw[Au (show onTheHeap (.ref C)=Vq from Z)];refine Ad (G.at (Ad (Kn (Dc ?_))));unfold Ze;rw[show onTheHeap (L2 "BaseException.__getattribute__")=Yp from Z,Hu,AT Fc];unfold boundAndCalled;refine Ad (Jx (Ke.ga.bind (.ref x)) ?_);refine Kz (HU X Y I B ?_);show Ap _ _ (handedOut v) _ _ _;rw[handedOut_of O];exact An h
end
structure wk (K:Ag)(C:Af)(f:Ah):Prop where
 ex:og K C
 hd:hasDictIn K C=Vq
 at_:findIn K (.ref C) f=Aa Zt
def vD (cl:J9)(f:Ah)(J:DE):DE:=d1 (λd S=>match d with
 |.exl (.ref C) Q Y=>if cl.contains C then (match (Q.zip Y).lookup f with
   |some x=>.ok x S
   |none=>.bad) else .bad
 |_=>.bad) J
section
variable {X:Cx}{e:Bl}{f:Ah}{ai:Eb}{fa:DE}
theorem XQ {K:Ag}{P:Hp}:∀ {ns:Y0} {ds:Ab D} {vs:Ab V},qJ K P J ds vs->(ns.zip ds).lookup f=Aa x->∃ v,(ns.zip vs).lookup f=Aa v/\am K P J x v
 |[],ds,vs,_,h=>by cases ds <;> cases h
 |n::ns,[],_,_,h=>by cases h
 |n::ns,d::ds,vs,r,h=>by
  obtain⟨w,U,rfl,Y,Q⟩:=r.cons_inv;rw[Kg,Eo] at h ⊢;cases q:f == n with
  |true=>rw[q] at h;cases h;exact⟨w,rfl,Y⟩
  |false=>rw[q] at h;exact XQ Q h
def EG (hK:∀ C∈cl,wk X.K C f)(B:PE X e (tD X fa))(hb:Fz e f X.env (eval e X.env)=eval e X.env:=by rfl):PE X (.Attribute e f ai) (tD X (vD cl f fa)):=by
 intro aa s Y H Q I h;obtain⟨P,J,ac,S,r,re,b⟩:=h;refine Q4 hb (bi (zK B I r re b) λu z ⟨v,E,i,J1,d,g,G,q⟩=>?_);cases d with
 |exl c M w =>
  cases c with
  |ref C =>
   have q:qK X P J (if cl.contains C=Vq then (match (M.zip w).lookup f with|some x=>ax.ok x g|none=>.bad) else .bad) (gy X P J Q):=q;by_cases U:cl.contains C=Vq
   .rw[Au U] at q;cases O:(M.zip w).lookup f with
    |none=>rw[O] at q;exact Am q
    |some x =>
     rw[O] at q;have k:=hK C (Ew.mp U);have p:=G.rep;simp only[am] at p;obtain⟨a,dx,vs,rfl,p1,p2,_,rp⟩:=p;obtain rfl:u=Ca a:=G.val;obtain⟨A,B,U,hd,ws,L⟩:=vW G.inv (G.rel.sub _ _ p1);obtain⟨m,n,t,_⟩:=vW G.inv (G.rel.sub _ _ p2);obtain⟨y,hy,ry⟩:=XQ rp O;obtain⟨yv,l,T⟩:=uH.some_of (v:=y) (o:=m f) (by rw[<- hy];exact t f);obtain⟨j,ho,N⟩:=fS n;have ci:InstAt z.heap a A C (Aa j):=⟨B,U,by obtain⟨_,_,zc,_⟩:=A;cases L;rfl,by rw[hd];exact ho⟩
     refine NJ G.inv.kIn k.ex ci (findObj_own k.hd k.at_ Z (by rw[N,l])) (eB T) ⟨y,E,G.inv.tok _,T,?_⟩;exact q y E i J1 G.rel G.same G.pre ry
   .rw[AT U] at q;exact Am q
  |_=>exact Am q
 |_=>exact Am q
def xQ (cl:J9):DF:=λQ S=>match Q with
 |.exl c _ _::Q=>v8 cl (.exn c::Q) S
 |_=>v8 cl Q S
def T6 (G:ul X.K cl):wI X (.builtin "isinstance") (xQ cl):=by
 intro i Y H s P J S A m L Q I r E T U;cases L with
 |nil=>exact Q6 G i Y H s P J S A m _ Q I r E T U
 |cons d L =>
  cases d with
  |exl c ns xs =>
   replace U:qU X P J (v8 cl (.exn c::L) S) Q:=U;cases CJ cl (.exn c::L) S with
   |bad e=>rw[e] at U;exact Am U
   |old e =>
    rw[e] at U;cases L with
    |nil=>exact Am U
    |cons b t =>
     cases t with
     |cons _ _=>cases b <;> exact Am U
     |nil =>
      cases b with
      |ty n =>
       have U:qU X P J (if bC n then .bad else .bad) Q:=U;by_cases z:bC n=Vq
       .rw[Au z] at U;exact Am U
       .rw[AT z] at U;exact Am U
      |_=>exact Am U
   |obj C B l N h e =>
    rw[e] at U;cases l;obtain⟨v,w,u,x,rfl,rfl,p,O,q,g⟩:=kX T E;simp only[am] at p O;obtain⟨rfl,_⟩:=O;cases (show x=Ca B from g);obtain⟨a,dx,A,rfl,o,_⟩:=p;obtain rfl:u=Ca a:=q;obtain⟨k,j,y,_⟩:=vW I (r.sub _ _ o);exact Ea (b7 (G.ex C N)) I.kIn ⟨k,j,y⟩ (G.one C N B h) (λz=>nomatch z) λM=>⟨.bl _,H,I.tok M,rfl,xr U r (by simp only[am])⟩
   |ve C l N e =>
    rw[e] at U;cases l;obtain⟨v,w,u,x,rfl,rfl,p,O,q,g⟩:=kX T E;simp only[am] at p O;subst O;cases (show x=Ht "ValueError" from g);obtain⟨a,dx,A,rfl,o,_⟩:=p;obtain rfl:u=Ca a:=q;obtain⟨k,j,y,_⟩:=vW I (r.sub _ _ o);exact Ea (b7 (G.ex C N)) I.kIn ⟨k,j,y⟩ (G.ve C N) (λz=>nomatch z) λM=>⟨.bl _,H,I.tok M,rfl,xr U r (by simp only[am])⟩
  |_=>exact Q6 G i Y H s P J S A m _ Q I r E T U
end
end _D
namespace _D
open _L
variable {cl:J9}{K:Ag}{mg:J8}
def U1 (s:Du):Du:=match s with
 |.ClassDef _ _ _ (b::_) _ _ _ _ _ _ _=>b
 |_=>s
def E1 (K:Ag)(C B Y:Af)(ns:Y0):Ar:=a0 K C B Y&&(tR K C&&(KT K C&&(decide (Dd K (.ref C) "__setattr__" = Aa (Aa (.builtin "object.__setattr__")))&&((match Rw K C with|some Q=>decide (Q.mro=.ref C::.ref B::gC)&&Q.hasDict|none=>Yp)
 && (ns.all (λf=>decide (Dd K (.ref C) f=Aa Zt)&&(!(f == ("__debug__" : Ah))&&!(f == ("__classdict__" : Ah))))&&(!ns.isEmpty&&decide (ns.length<1000)))))))
inductive K_ (K:Ag)(st:Du)(C B:Af)(ns:Y0):Prop
 |mk {fI:Af} {oc:Ac} {od an:Al Af} {osl:Br (Al Ac)} {kV doc pm cdv ct:Ac} {qual:Ah} (b:Bp K Bi "FarError" = Aa (Aa (.ref B))) (i:Dd K (.ref C) "__init__" = Aa (Aa (.ref fI)))
  (l:K.lookup fI=Aa ⟨oc,od,.func (Fp "__init__" qual (xW st) (zG st) (qF st) .none kV doc pm an cdv ct),osl⟩) (c:Jp K cdv qual=Vq) (k:Da K (.ref fI)=Vq) (e:E1 K C B fI ns=Vq):K_ K st C B ns
structure _b (st:Du)(ns:Y0):Prop where
 bd:∀ (q:Ah) (kV doc pm:Ac) (an:Al Af) (cdv ct:Ac) (us:Y8),us.length=(("self" : Ah)::ns).length->Tw (Fp "__init__" q (xW st) (zG st) (qF st) .none kV doc pm an cdv ct) ⟨us,[]⟩=pure ((("self" : Ah)::ns).zip us)
 sc:xc (("self" : Ah)::ns) (("self" : Ah)::ns) (qF st)=Vq
 ib:nk ns (zG st)
structure FcK (K:Ag)(mg:J8)(x:Ah)(C:Af)(ns:Y0):Prop extends FcOk K mg x C ns where
 fk:∀ f∈ns,wk K C f
def HX {st:Du}(hm:mg x=Aa (.ref C))(g:dI K=Vq)(T:_b st ns)(F:K_ K st C B ns):FcK K mg x C ns:=by
 obtain⟨_,i,l,c,k,e⟩:=F;unfold E1 at e;simp only[Av,Az] at e;obtain⟨E,G,w,H,U,p,N,L⟩:=e;have I:og K C:=by unfold tR at G;unfold dI at g;simp only[Av,Az] at G g;obtain⟨⟨⟨⟨⟨⟨j,u⟩,y⟩,o⟩,M⟩,A⟩,d⟩:=G;exact⟨j,u,y,g.1,g.2,o,M,A⟩
 have O:=nY (st:=st) l c k;have Y:∃ Y,Rw K C=Aa Y/\Y.mro=.ref C::.ref B::gC/\Y.hasDict=true:=by
  cases q:Rw K C with
  |none=>rw[q] at U;cases U
  |some Y =>
   rw[q] at U;have z:=Ct.mp U;exact⟨Y,Z,Bg z.1,z.2⟩
 have J:∀ f∈ns,Dd K (.ref C) f=Aa Zt/\(f == ("__debug__" : Ah))=Yp/\(f == ("__classdict__" : Ah))=false:=λf Q=>by have z:=Bk.mp p f Q;simp only[Av,Az,Lc] at z;exact z
 refine⟨⟨hm,⟨B,_,_,_,st,O,O.binds (T.bd _),fH T.sc,T.ib,⟨Y,H⟩,E⟩,λf Q=>⟨(J f Q).1,(J f Q).2.1,(J f Q).2.2⟩,λz=>?_,L⟩,λf Q=>⟨I,w,(J f Q).1⟩⟩;rw[z] at N;cases N
abbrev uy (K:Ag)(mg:J8)(l:Ab (Ah × Af × Ab Ah)):Prop:=∀ e∈l,FcK K mg e.1 e.2.1 e.2.2
def NM:uy K mg []:=λ_ z=>nomatch z
def aX {st:Du}{l:Ab (Ah × Af × Ab Ah)}(T:_b st ns)(Q:K.In h)(G:h.Ns Bi mg)(q:Bp K Bi x=Aa (Aa (.ref C)))(g:dI K=Vq)(F:K_ K st C B ns)(t:uy K mg l):uy K mg ((x,C,ns)::l):=List.forall_mem_cons.mpr ⟨HX (Kw Q G q) g T F,t⟩
section
variable {X:Cx}{e:Bl}{f:Ah}{p ai bq:Eb}{fa:DE}{fA:DA}{x:Ah}{C:Af}{aq:Ab Bl}{ns:Y0}{cm:Ar}
def qDY {l:Ab (Ah × Af × Ab Ah)}{y:Ah × Af × Ab Ah}(U:uy K mg l)(h:y∈l)(Y:Ck (y.2.2.contains f)):∀ C∈[y.2.1],wk K C f:=λC Q=>by rw[Cc.mp Q];exact(U y h).fk f (Ew.mp Y)
def qCx (Y:∀ C∈cl,wk X.K C f)(Q:QE X e fa)(J:Fz e f X.env (eval e X.env)=eval e X.env):QE X (.Attribute e f ai) (vD cl f fa):=⟨EG Y Q.1 J⟩
def qDS (h:ul X.K cl):gn X (.builtin "isinstance") (xQ cl):=⟨T6 h⟩
def aRf (G:FcOk X.K X.mg x C ns)(Q:RoomC cm 2 X.A)(U:X.calm=Vq)(Y:Fn1 X)(h:Ck (oj X x))(J:QA X (e::aq) fA)(s:St1 X e aq bq):QS X (.Raise (Aa (.Call (.Name x p) (e::aq) [] bq)) Zt ai) (pG (.ref C) ns fA):=
 have h:=xB h
 ⟨VF U Q Y h.1 G J.1 h.2.1 s.1 s.2⟩
end
end _D
section
end
namespace _D
open _L _H
variable {J:J9}{E:J7}{K:Ag}{x y z:Ah}{s s':Ai}{j1 j2:Aj}{lo hi:Al Bl}{tg:Bl}{p q1 q2 cy bq:Eb}{P:Hp}{t:Kk Fin}{Γ:Aac}
section
variable {X:Cx}
noncomputable def jC:DF:=λQ S=>match Q with
 |[.int i]=>if i.natAbs.log2<1920 then .ok (.str (toString i)) S else .bad
 |_=>.bad
def TB:wI X (.type "str") jC:=by
 intro C Y H s P J S L B T Q I r G N U;unfold jC at U;split at U
 .obtain⟨O,U⟩:=x3 (X:=X) U;obtain⟨v,u,rfl,rfl,p,q⟩:=wK N G;exact cX C s Y H _ _ Q I G ⟨_,by rw[xR p],O,xr U r (by simp only[am])⟩
 .exact Am U
noncomputable def pQ:DF:=λQ S=>match Q with
 |[.str x]=>if x.length<=640 then match PySem.intText? x with
  |some n=>.ok (.int n) S
  |none=>.bad
  else .bad
 |_=>.bad
set_option tactic.hygienic true in
def T4:wI X (.type "int") pQ:=by
 intro A Y H s P J S L B T Q I r N G U;unfold pQ at U;split at U
 .obtain⟨O,U⟩:=x3 (X:=X) U;split at U
  .rename_i n C;obtain⟨v,u,rfl,rfl,p,q⟩:=wK G N;simp only[am] at p;subst p;obtain⟨t,rfl⟩:=q;exact PySem.W.KIN.call_text C O ⟨.int n,H,I.tok _,⟨_,rfl⟩,xr U r (by simp only[am])⟩
  .exact Am U
 .exact Am U
def tV:D->Ab D->ag->ax D:=λa Q S=>match a,Q with
 |.str x,[.str y]=>if x.length<=bb then .ok (.str (Txt.removeprefix x y)) S else .bad
 |_,_=>.bad
def CZ:t_ X "str.removeprefix" tV:=by
 intro o Y H s P J S v M j T a q Q I r C p N G U;unfold tV at U;split at U
 .obtain⟨B,U⟩:=x3 (X:=X) U;simp only[am] at p;subst p;obtain⟨t,rfl⟩:=C;obtain⟨w,u,rfl,rfl,O,q2⟩:=wK G N;simp only[am] at O;subst O;obtain⟨A,rfl⟩:=q2;exact SC.removeprefix (λL k=>⟨.str _,H,I.tok _,⟨_,rfl⟩,xr U r (by simp only[am])⟩) (by rw[<- zM];exact B)
 .exact Am U
def i0:D->Ab D->ag->ax D:=λa Q S=>match a,Q with
 |.str x,[]=>.ok (.bl (Txt.isdecimal x)) S
 |_,_=>.bad
def CY:t_ X "str.isdecimal" i0:=by
 intro A Y H s P J S v B L C a T Q I r O p N G U;unfold i0 at U;split at U
 .simp only[am] at p;subst p;obtain⟨t,rfl⟩:=O;cases G.nil_inv;cases N;exact SC.isdecimal ⟨.bl _,H,I,rfl,xr U r (by simp only[am])⟩
 .exact Am U
theorem hW:∀ l:Ab (Ah × Ms),qQ (l.map λp=>V.str p.1) (strValues l)
 |[]=>.nil
 |(x,t)::l=>.cons ⟨t,rfl⟩ (hW l)
theorem eP:∀ l:Ab Ah,qJ K P J (l.map .str) (l.map .str)
 |[]=>.nil
 |x::l=>.cons (by simp only[am]) (eP l)
def wQ:D->Ab D->ag->ax D:=λa Q S=>match a,Q with
 |.str x,[.str y]=>if x.length+2<=bb/\(y.length == 0)=Yp then .ok (.lst ((Txt.split x y).map .str)) S else .bad
 |_,_=>.bad
def JT {prog:Ba}{w:Bu}{A:Bn}{E:J7}{t u:Ms}{Q:J7}(G:(y.length == 0)=Yp)
  (h:∀ l k,l.map (·.1)=Txt.split x y->Q (.ref s.heap.objs.size) { s with heap:=s.heap.push { cls:=.type "list",data:=.seq (strValues l).toArray },toks:=k })
  (N:x.length+2<=sizeLine) :
  Ap (As prog w) A (call (.builtin "str.split") [.str x t,.str y u]) Q E s:=by
 have O:(Sk x (Go x y 0 x.length (x.length+1)) y.length).length<=sizeLine:=by have C:=StrLaws.occ_length_le x y 0 x.length (x.length+1);rw[length_partsBetween];fin2
 cases Y:(decide (x.length<y.length)||decide (Wm x<Wm y))
 .cases U:(Go x y 0 x.length (x.length+1)).isEmpty
  .refine Jv Te (Lw _ _ _) Rx (Qo _ _) (meets_str_split_sep x y t u Y G U om O) ?_;show wants Q E _ { s with toks:=_,heap:=s.heap.push { cls:=.type "list",data:=.seq (strsFrom s.toks (Sk x (Go x y 0 x.length (x.length+1)) y.length)).toArray } };rw[strsFrom_eq];exact h (numbered s.toks _) _ ((numbered_texts _ _).trans ((AT (Pu Y)).trans (AT (Pu U))).symm)
  .exact Jv Te (Lw _ _ _) Rx (Qo _ _) (meets_str_split_not_found x y t u Y G U)
    (h [(x,t)] s.toks ((AT (Pu Y)).trans (Au U)).symm)
 .exact Jv Te (Lw _ _ _) Rx (Qo _ _) (meets_str_split_cannot_occur x y t u Y)
   (h [(x,t)] s.toks (Au Y).symm)
set_option tactic.hygienic true in
def B2:t_ X "str.split" wQ:=by
 intro m Y H s P J S v c d A a f Q I r T p N G U;unfold wQ at U;split at U
 .rename_i x y;obtain⟨⟨C,O⟩,U⟩:=x3 (X:=X) U;simp only[am] at p;subst p;obtain⟨t,rfl⟩:=T;obtain⟨w,u,rfl,rfl,B,q2⟩:=wK G N;simp only[am] at B;subst B;obtain⟨M,rfl⟩:=q2;rw[zM] at C;have g:=split_weight x y (by have:=O;simp at this;fin2);refine JT O (λl k e=>?_) C;have t':qJ X.K P J ((Txt.split x y).map .str) (l.map λp=>V.str p.1):=by
   rw[<- e,Dk];have:=eP (K:=X.K) (P:=P) (J:=J) (l.map (·.1));rw[Dk,Dk] at this;exact this
  refine⟨.ref s.heap.objs.size,_,I.laid (t':=k) (o:=.lst (l.map λp=>V.str p.1)) (λb j q=>Ak _ q) (Ax _) ⟨?_,strValues l,0,hW l,Be _ Z⟩,Z,wH r (I.hok.fresh (Ax _)) t' U⟩;have L:=congrArg Gh e;rw[Ao] at L ⊢;fin2
 .exact Am U
noncomputable def kZ:Ab D->Al (Ab Ah)
 |[]=>Aa []
 |.str x::Q=>(kZ Q).map (x::·)
 |_=>Zt
theorem d9:∀ {ds:Ab D} {ys:Y0},kZ ds=Aa ys->ds=ys.map .str
 |[],ys,h=>by cases h;rfl
 |.str x::ds,ys,h=>by
  simp only[kZ,Ep] at h;obtain⟨Y,Q,rfl⟩:=h;rw[Ee,<- d9 Q]
 |.non::_,_,h|.bl _::_,_,h|.int _::_,_,h|.ty _::_,_,h|.obj _::_,_,h|.tup _::_,_,h|.lst _::_,_,h|.dct0::_,_,h|.loc _::_,_,h|.exn _::_,_,h|.fd _ _::_,_,h|.clo _ _ _::_,_,h|.exl _ _ _::_,_,h=>by cases h
def JW (ys:Y0):kZ (ys.map .str)=Aa ys:=by
 induction ys with
 |nil=>rfl
 |cons y ys Q=>rw[Ee,kZ,Q];rfl
theorem eY:∀ {ys:Y0} {vs:Ab V} {us:Y8},qJ K P J (ys.map .str) vs->qQ vs us->StrsAre us ys
 |[],vs,us,r,q=>by cases r.nil_inv;cases q;exact .nil
 |y::ys,vs,us,r,q=>by
  obtain⟨w,Y,rfl,p,t⟩:=r.cons_inv;simp only[am] at p;subst p;cases q with
  |cons q1 q2 =>
   obtain⟨Q,rfl⟩:=q1;exact .cons y Q (eY t q2)
def jD:D->Ab D->ag->ax D:=λa Y S=>match a,Y with
 |.str x,[d]=>match (lstM d S).bind kZ with
  |some Q=>if (Q.map (·.length)).sum+Q.length*x.length<=bb then .ok (.str (Txt.join x Q)) S else .bad
  |none=>.bad
 |_,_=>.bad
set_option tactic.hygienic true in
def LN:t_ X "str.join" jD:=by
 intro aa Y H s P J S v m e c a h Q I r q p N G U;unfold jD at U;split at U
 .rename_i x d;cases C:(lstM d S).bind kZ with
  |none=>rw[C] at U;exact Am U
  |some ys =>
   rw[C] at U;obtain⟨i,U⟩:=x3 (X:=X) U;obtain⟨g,B,j⟩:=Ej.mp C;have L:=d9 j;subst L;simp only[am] at p;subst p;obtain⟨t,rfl⟩:=q;obtain⟨w,u,rfl,rfl,o,q2⟩:=wK G N;obtain⟨b,f,M,n,rfl,A,O,T,l2⟩:=pA I r B o;cases q2;exact PyProof.Rows.join_list (D:=b) (items:=M.toArray) (ys:=ys) ⟨_,T,rfl,n,rfl⟩ (by simpa using eY A O) (by have:=zM;unfold PySem.sizeLine at this;fin2)
    λl k=>⟨.str _,H,I.tok _,⟨_,Z⟩,xr U r (by simp only[am])⟩
 .exact Am U
def tU:G2:=λa b S=>match a,b with
 |.str x,.int k=>if x.length<=bb then match ji x.cps.toList k with
  |some c=>.ok (.str ⟨#[c]⟩) S
  |none=>.bad
  else .bad
 |_,_=>.bad
set_option tactic.hygienic true in
def qAT:Z_ X tU:=by
 intro j G k Y H s P J S v u O L a b Q I r C w N M U B;unfold tU at U;split at U
 .obtain⟨A,U⟩:=x3 (X:=X) U;split at U
  .rename_i c T;simp only[am] at N;subst N;exact CK j G k s Y H _ u O L Q I C w ⟨_,_,c,rfl,xR M,by rw[<- zM];exact A,T,xr U r (by simp only[am])⟩ B
  .exact Am U
 .exact Am U
noncomputable def xq (x y:Ah):Ar:=!(Go y x 0 y.length 1).isEmpty
def tS (Q:Ar):G2:=λa b S=>match a,b with
 |.str x,.str y=>.ok (.bl (if Q then !xq x y else xq x y)) S
 |_,_=>.bad
def JB:gz X (Cs .NotIn) (tS Vq):=gz.of iV λH P J S x y a b Q r G U Y=>by
 unfold tS at Y;split at Y
 .simp only[am] at G U;exact⟨_,_,G,U,xr Y r (by simp only[am] <;> rfl)⟩
 .exact Am Y
def fL (d:D)(lo hi:Al Aq)(S:ag):ax D:=match d with
 |.str x=>if x.length<=bb then .ok (.str (Txt.slice x lo hi)) S else .bad
 |_=>.bad
def qCF (X:Cx):V->Al Aq->Al Aq->Hp->VK->Prop:=λx lo hi H Q=>∃ P J S d,bf X.K H P J S/\am X.K P J d x/\qU X P J (fL d lo hi S) Q
def ZW {lo:Al Aq}(p:Pg v lo):∃ l:Al (Aq × Ms),v=partValue l/\l.map (·.1)=lo:=by
 cases p with
 |none=>exact⟨Zt,rfl,rfl⟩
 |int i t=>exact⟨Aa (i,t),rfl,rfl⟩
def qBA:zr X (qCF X):=by
 intro q s Y H x v j w lo hi M Q I G O pl N h;obtain⟨P,J,S,d,r,p,U⟩:=h;cases d with
 |str z =>
  obtain⟨L,U⟩:=x3 (X:=X) U;simp only[am] at p;subst p;obtain⟨t,rfl⟩:=G;obtain⟨l,rfl,rfl⟩:=ZW pl;obtain⟨u,rfl,rfl⟩:=ZW N;obtain⟨o,C,B,T⟩:=O;refine⟨"str",_,F.slot_str_getitem.lookup,Lw _ _ _,Tq (l:=l) (u:=u) (st:=Zt) ⟨o,C,B,T⟩ rfl
   (wS ⟨By (Txt.slice_le z _ _) (by rw[<- zM];exact L),λA k=>⟨.str _,H,I.tok _,⟨_,Z⟩,xr U r (by simp only[am];rfl)⟩⟩)⟩
 |_=>exact Am U
def vE (fe:DE)(G O:DO):DE:=λQ S=>(fe Q S).bind λd N=>(G Q N).bind λlo Y=>(O Q Y).bind λhi U=>fL d lo hi U
def VE (he:PE X e (tD X fe))(hl:PO X lo (xl X I))(hu:PO X hi (xl X L)):PE X (.Subscript e (.Slice lo hi Zt p2) ai) (tD X (vE fe I L)):=
 se (iY qBA he hl hu) λY H Q ⟨P,J,O,S,r,o,af⟩=>by
  refine⟨P,J,O,S,r,o,?_⟩;have N:qK X P J ((fe O S).bind λd T=>(I O T).bind λlo B=>(L O B).bind λhi C=>fL d lo hi C) (gy X P J Q):=af;cases q:fe O S with
  |bad=>rw[q] at N;exact N
  |ex c x i=>rw[q] at N;exact N
  |ok d T =>
   rw[q] at N;intro v H1 f n r1 M w rp;refine⟨f,n,O,T,r1,o.mono M w,?_⟩;have G:qK X f n ((I O T).bind λlo B=>(L O B).bind λhi C=>fL d lo hi C) (gy X f n Q):=qU.base M w N;cases q2:I O T with
   |bad=>rw[q2] at G;exact G
   |ex c x i=>rw[q2] at G;exact G
   |ok l B =>
    rw[q2] at G;intro H2 j m r2 g k;refine⟨j,m,O,B,r2,(o.mono M w).mono g k,?_⟩;have U:qK X j m ((L O B).bind λhi C=>fL d l hi C) (gy X j m Q):=qU.base g k G;cases A:L O B with
    |bad=>rw[A] at U;exact U
    |ex c x i=>rw[A] at U;exact U
    |ok u C =>
     rw[A] at U;intro H3 P3 h r3 b a;exact⟨P3,h,C,d,r3,am.mono (g.trans b) (k.trans a) _ _ rp,qU.base b a U⟩
def Its (x:Ah):It:=⟨λi _=>i<x.cps.size,λi H v Q=>Q=H/\∃ c,x.cps[i]? = Aa c/\v=.str ⟨#[c]⟩,λi _=>x.cps.size<=i⟩
theorem FD {P:Ba}(it:Af)(x:Ah)(t:Ms):n_ P w K tg (Its x) [it] it (λi h=>h.IsStrIter it "str_ascii_iterator" x t i) where
 mem:=by simp
 obj:=λi h st b Q=>by
  have e:b=it:=by simpa using Q
  subst e;obtain⟨o,e,c,d⟩:=st;exact⟨o,e,λv z=>by rw[d] at z;cases z⟩
 keep:=λi h N st k=>let ⟨o,e,r⟩:=st;⟨o,k it aA o e,r⟩
 item:=by intro X T C M B i g s Y H E I G st j;subst T C M;obtain⟨L,l,a,q,O,A⟩:=G it aA;have W:=Walks.strAscii (prog:=X.prog) (w:=X.w) (I.ok.hd B) it x t;refine W.item i s _ _ j st λv N f hv U kk=>?_;obtain⟨c,u,m,rfl⟩:=hv;have I1:Inv X g Y H { s with heap:=N,toks:=f }:=I.turned (λb o Q e=>kk b o (by simpa using Q) e) L l q O A;obtain⟨o,e,c',d⟩:=id U;exact⟨_,rfl,cB (s:={ s with heap:=N,toks:=f }) (n:="str_ascii_iterator") e c' d aC ⟨.str ⟨#[c]⟩,H,I1,⟨u,rfl⟩,⟨rfl,c,m,rfl⟩,U,λb Q=>(G b Q).1⟩⟩
 done:=by intro X T C M B i g s Y H E I G st j;subst T C M;obtain⟨L,l,a,q,O,A⟩:=G it aA;exact wpAny_pyNext_ascii_end (I.ok.hd B) st (Kv j) λN eb=>⟨Z,I.turned (t':=s.toks) (λb o Q e=>eb b o Q e) L l q O A⟩
 self:=λ_ _ _ _ _ st h=>wpAny_pyIter_striter_ascii st h
def wU (x:Ah):Ab D:=x.cps.toList.map λc=>.str ⟨#[c]⟩
def L6:wj K (Its x) P J (wU x) where
 go:=λi H Q Y S hi r e _=>by show i<x.cps.size;simpa [wU] using hi
 yld:=λi H v N Q Y S hi r e G y=>by obtain⟨rfl,c,U,rfl⟩:=y;exact⟨Q,.str ⟨#[c]⟩,by simp only[wU,Es,Bw,U];rfl,r,qP.refl _,by simp only[am]⟩
 stop:=λi H Q Y S hi r e _=>by show x.cps.size<=i;simpa [wU] using hi
def JP:D->Al (Ab D)
 |.str x=>if x.cps.all (· < 128) then Aa (wU x) else Zt
 |_=>Zt
def jT (f:DE):DI:=λQ S=>(f Q S).bind λd Y=>vJ (JP d) Y
set_option tactic.hygienic true in
def GI (N:PE X e (tD X O)):PI X tg e (u_ X (jT O)):=by
 intro l s Y H R I h;obtain⟨P,J,j,S,r,B,A⟩:=h;refine bi (zK N I r B A) λk U ⟨v,C,L,M,d,w,G1,G⟩=>?_;obtain⟨u,Q,q⟩:=vN G;have q:=q.base G1.same G1.pre;cases d with
 |str x =>
  simp only[JP] at Q;split at Q
  .rename_i N;cases Q;have p:=G1.rep;simp only[am] at p;subst p;obtain⟨t,rfl⟩:=G1.val;have I:=G1.inv;refine Xa N ?_;refine⟨U.heap.objs.size,[U.heap.objs.size],_,_,C,rfl,I.kept (t':=U.toks) λb o e=>Ak _ e,FD _ x t,⟨_,Be _ rfl,rfl,rfl⟩,λb T=>?_,q _ _ L M G1.rel (qP.refl _) (Bt _) L6⟩;have e:b=U.heap.objs.size:=by simpa using T
   subst e;exact I.fpOk (Ax _) (I.hok.fresh (Ax _))
  .cases Q
 |_=>cases Q
end
section
variable {M:Nk}
def eR {fs:Ab Frame}(h:Runs M Γ p t fs s e s'):s.toks<=s'.toks:=by
 induction h with
 |done=>exact Ax _
 |raise=>exact Ax _
 |yield=>exact Ax _
 |fresh _ Y=>exact Nat.le_of_succ_le Y
 |call _ _ Q i2=>exact By Q i2
 |resumeFresh _ _ _ _ Q i2=>exact By Q i2
 |resumeSuspended _ _ _ _ Q i2=>exact By Q i2
 |segRet _ _ Q i2=>exact By Q i2
 |segGen _ _ Q i2=>exact By Q i2
 |segSuspGen _ _ _ _ Q i2=>exact By Q i2
 |_=>assumption
def lU {fs:Ab Frame}{x y:Qy}(h:Runs M Γ p t fs (s.setGen g x) e s'):s.toks<=(s'.setGen Q y).toks:=eR (s:=s.setGen g x) (s':=s') h
def YV (h:Wakes M Γ p g r s G s'):s.toks<=s'.toks:=by
 unfold Wakes at h;split at h
 .exact h.elim
 .split at h
  .obtain⟨Y,Q,U,_,_,rfl⟩:=h;exact lU U
  .obtain⟨_,rfl⟩:=h;exact Ax _
  .obtain⟨_,rfl⟩:=h;exact Ax _
 .obtain⟨Y,Q,U,_,_,rfl⟩:=h;exact lU U
 .obtain⟨_,rfl⟩:=h;exact Ax _
 .obtain⟨_,rfl⟩:=h;exact Ax _
def XO {J:Type}{n:Aj}:∀ (t:Kk J) {Q:J->Eb->Ai->Prop} {E:Ac->Eb->Ai->Prop} {p:Eb} {s:Ai},n<=s.toks->Sem.wp M Γ t Q E p s->Sem.wp M Γ t (λa L s'=>Q a L s'/\n<=s'.toks) E p s:=by
 intro t
 induction t with
 |pure a=>intro Q E p s Y h;exact⟨h,Y⟩
 |raise e=>intro Q E p s Y h;exact h
 |unsupported w=>intro Q E p s Y h;exact h
 |finish e=>intro Q E p s Y h;exact h
 |rule C k U=>intro Q E p s Y h;exact U () Y h
 |«at» q k U=>intro Q E p s Y h;exact U () Y h
 |load a T k U=>intro Q E p s Y h;obtain⟨o,G,N⟩:=h;exact⟨o,G,U o Y N⟩
 |update a T f k U=>intro Q E p s Y h;exact⟨h.1,U () Y h.2⟩
 |alloc o k U=>intro Q E p s Y h;exact U _ Y h
 |loadIfAlive a k U=>intro Q E p s Y h;exact U _ Y h
 |point l k U=>intro Q E p s Y h;exact U _ Y h
 |register a k U=>intro Q E p s Y h;exact h
 |fresh k U=>intro Q E p s Y h;exact U _ (Nat.le_succ_of_le Y) h
 |ask k U=>intro Q E p s Y h;exact U _ Y h
 |choose I m k U=>intro Q E p s Y h;exact⟨h.1,U _ Y h.2⟩
 |os q l k U=>intro Q E p s Y h;exact U _ Y h
 |call c H g l k U=>intro Q E p s Y h;obtain⟨r,s',G,N⟩:=h;exact⟨r,s',G,U r (By Y (eR G)) N⟩
 |handled B k U=>intro Q E p s Y h;exact U _ Y h
 |newGen c k U=>intro Q E p s Y h;exact U _ Y h
 |genState g k U=>intro Q E p s Y h;obtain⟨st,G,N⟩:=h;exact⟨st,G,U _ Y N⟩
 |resume g r l k U=>intro Q E p s Y h;obtain⟨O,s',G,N⟩:=h;exact⟨O,s',G,U O (By Y (YV G)) N⟩
 |yield v g l k U=>intro Q E p s Y h;exact h
 |stack k U=>intro Q E p s Y h;exact U _ Y h
 |fork c k U=>intro Q E p s Y h;exact h
 |thread k U=>intro Q E p s Y h;exact U _ Y h
 |_=>intro Q E p s Y h;exact h
def YX {J:Type}{t:Kk J}{Q:J->Ai->Prop}{n:Aj}(U:n<=s.toks)(h:Ap M A t Q E s):Ap M A t (λa s'=>Q a s'/\n<=s'.toks) E s:=λΓ p Y=>XO t U (h Γ p Y)
end
section
variable {X:Cx}{b e:Bl}{ai p1:Eb}{fa:DE}{g:DA}
def RF (X:Cx)(e:Bl):Prop:=∀ (A:Bn) (Q:J7) (E:J7) (s:Ai),Ap (As X.prog X.w) A (eval e X.env) Q E s->Ap (As X.prog X.w) A (eval e X.env) (λu s'=>Q u s'/\1<=s'.toks) E s
def KQ {op:Zy}:RF X (.BinOp (.Constant (.str x) j p1) op b ai):=by intro A Q E s h Γ p Y;have U:=h Γ p Y;rw[arm_eval_BinOp,Sem.wp_bind'] at U ⊢;exact XO (n:=1) _ (s:={ s with toks:=s.toks+1 }) (Nat.le_add_left 1 _) U
def fF (y z:Ah)(Q:DE):DE:=λY S=>(Q Y S).bind λd U=>match d with
 |.str x=>if x.length+(x.length+1)*z.length<=bb then .ok (.str (Txt.replace x y z)) U else .bad
 |_=>.bad
def ES (w:PE X o (tD X L))(C:(y == z)=Yp)
  (G:Fz o "replace" X.env (eval o X.env)=eval o X.env) (N:(cy.endLine == bq.line)=Vq)
  {aa:J0} {s:Ai} {Y : _L.St} {H:Hp} {Q:VK} (q:1<=s.toks) (I:Inv X aa Y H s) (h:tD X (fF y z L) Y H Q) :
  a8 X (eval (.Call (.Attribute o "replace" cy) [.Constant (.str y) j1 q1,.Constant (.str z) j2 q2] [] bq) X.env) (EP X aa Y Q) X.xe s:=by
 obtain⟨P,J,f,S,r,M,j⟩:=h;refine Ud G rfl N rfl (bi (YX q (zK w I r M j)) λm B ⟨⟨v,A,n,i,d,c,G1,U⟩,O⟩=>?_);cases d with
 |str x =>
  obtain⟨T,U⟩:=x3 (X:=X) U;have p:=G1.rep;simp only[am] at p;subst p;obtain⟨t,rfl⟩:=G1.val;refine⟨"str",_,F.plainAttrs_str,F.slot_str_replace,F.type_str_replace,Lw _ _ _,(λ_ e=>nomatch e),?_⟩;refine Nu rfl (Jl ?_);show Ap _ _ (spliced [(Yp,eval (.Constant (.str y) j1 q1) X.env),(Yp,eval (.Constant (.str z) j2 q2) X.env)]) _ _ _;refine Hq (Qk (Hq (Qk (Lb ?_))));exact SC.replace (u:=B.toks) (v:=B.toks+1) (Hj O) (Nat.succ_ne_zero _) (Cn (Hl _)) C (by have:=zM;unfold bb at T;exact T) λl k=>⟨.str _,A,G1.inv.tok _,⟨_,rfl⟩,xr (qU.base G1.same G1.pre U) G1.rel (by simp only[am])⟩
 |_=>exact Am U
def E8 {γ:Type}{f:DE}{g:D->ag->ax γ}{Ok:γ->ag->Prop}{aa:J0}{Y:_L.St}{H:Hp}{ac:qG}{S:ag}{m:Kk Ac}
  (he:∀ Q:VK,tD X f Y H Q->a8 X m (EP X aa Y Q) X.xe s) (r:bf X.K H P J S) (I:zH X.K P J Y ac) (G:qK X P J ((f ac S).bind g) Ok) :
  a8 X m (λu B=>yg X aa Y ac P J u B g Ok) X.xe s:=by
 refine bi (he (λv C=>∃ U N d O,bf X.K C U N O/\zH X.K U N Y ac/\am X.K U N d v/\qP P U/\J<+:N/\qK X P J (g d O) Ok) ⟨P,J,ac,S,r,I,?_⟩) λu B ⟨v,C,k,l,U,N,d,O,q1,q2,M,i,j,h⟩=>⟨v,C,U,N,d,O,⟨k,l,q1,q2,M,i,j⟩,h⟩;cases q:f ac S with
 |bad=>rw[q] at G;exact G
 |ex c x A=>rw[q] at G;exact G
 |ok d A =>
  rw[q] at G;exact λv H' P' n w L T o=>⟨P',n,d,A,w,I.mono L T,o,L,T,G⟩
def EB (n:RF X e)(he:PE X e (tD X fa))(m:PE X o (tD X C))(j:(y == z)=Yp)
  (G:Fz o "replace" X.env (eval o X.env)=eval o X.env) (N:(cy.endLine == bq.line)=Vq)
  (hs:Bc [e,.Call (.Attribute o "replace" cy) [.Constant (.str y) j1 q1,.Constant (.str z) j2 q2] [] bq] X.env=(Yp,eval e X.env)::Bc [.Call (.Attribute o "replace" cy) [.Constant (.str y) j1 q1,.Constant (.str z) j2 q2] [] bq] X.env:=by rfl) :
  PA X [e,.Call (.Attribute o "replace" cy) [.Constant (.str y) j1 q1,.Constant (.str z) j2 q2] [] bq] (kh X (qA fa (qA (fF y z C) qC))):=by
 intro ai aa s Y H Q I h;obtain⟨P,J,M,S,r,v,i⟩:=h;rw[hs];show Ap _ _ (spliced ((Yp,eval e X.env)::(Yp,eval _ X.env)::[])) _ _ s;refine Hq (bi (n _ _ _ _ (zK he I r v i)) λu s1 ⟨⟨x,H1,L,T,d,O,G1,U⟩,hn⟩=>?_);have U:qK X L T (((fF y z C M O).bind λx O=>ax.ok [x] O).bind λk B=>.ok (d::k) B) (Z8 X L T Q):=gH.base G1.same G1.pre U;have w:qK X L T ((fF y z C M O).bind λx B=>ax.ok [d,x] B) (Z8 X L T Q):=by
  cases q:fF y z C M O with
  |bad=>rw[q] at U;exact U
  |ex c x S'=>rw[q] at U;exact U
  |ok d' B=>rw[q] at U;exact U
 refine Hq (bi (E8 (λQ' q=>ES m j G N hn G1.inv q) G1.rel G1.env w) λu2 s2 ⟨f,l,P2,J2,d2,B,G2,A⟩=>Lb ?_);exact⟨[x,f],l,G2.inv,.cons G1.val (.cons G2.val .nil),A _ _ _ _ G2.rel G2.same G2.pre (.cons (am.mono G2.same G2.pre _ _ G1.rep) (.cons G2.rep .nil))⟩
end
def l0:G2:=λd k S=>match d,k with
 |.str x,.int k=>if k≠0/\x.length<=bb then .ok (.str (Txt.sliceBy x Zt Zt (k,0))) S else .bad
 |_,_=>.bad
def fG (fe Q:DE):DE:=d2 l0 fe Q
section
variable {X:Cx}{b e ek o:Bl}{fa fe fk fo:DE}{p2 ai p1:Eb}
def GF (m:PE X e (tD X fe))(n:PE X ek (tD X fk)):PE X (.Subscript e (.Slice Zt Zt (Aa ek) p2) ai) (tD X (fG fe fk)):=by
 intro i s Y H Q I h;obtain⟨P,J,M,S,r,j,f⟩:=h;have B:qK X P J ((fe M S).bind λd L=>(fk M L).bind λk w=>l0 d k w) (gy X P J Q):=f;refine Vy (bi (zK m I r j B) λv s1 ⟨x,H1,P1,J1,d,L,G1,C⟩=>?_);refine wpAny_Slice ?_;rw[Vx];refine An (An ?_);rw[evalPart_some];refine bi (zK n G1.inv G1.rel G1.env (qU.base G1.same G1.pre C)) λvk N ⟨y,A,P2,J2,k,w,G2,U⟩=>?_;have U:=qU.base G2.same G2.pre U;cases d with
 |str x =>
  cases k with
  |int k =>
   obtain⟨G,U⟩:=x3 (X:=X) U;have p:=G1.rep;simp only[am] at p;subst p;obtain⟨t,rfl⟩:=G1.val;have T:=G2.rep;simp only[am] at T;subst T;obtain⟨O,rfl⟩:=G2.val;have g:Inv X i Y A { N with heap:=N.heap.push { cls:=.type "slice",data:=.fields #[.none,.none,.int k O] } }:=G2.inv.kept (t':=N.toks) λb ob q=>Ak _ q;refine tail_any (ops:=[.ref N.heap.objs.size,.str x t]) (s:={ N with heap:=N.heap.push { cls:=.type "slice",data:=.fields #[.none,.none,.int k O] } }) (Lw _ _ _) PySem.F.slot_str_getitem.lookup ?_ (by with_unfolding_all rfl);exact Tq (l:=Zt) (u:=Zt) (st:=Aa (k,O)) ⟨_,Be _ Z,Z,Z⟩ (by simpa using G.1)
    (wS ⟨By (Txt.sliceBy_le x Zt Zt (k,O) G.1) (by rw[<- zM];exact G.2),λt' c=>⟨.str _,A,g.tok _,⟨_,Z⟩,xr U G2.rel (by simp only[am];rfl)⟩⟩)
  |_=>exact Am U
 |_=>exact Am U
def qDX:gn X (.type "str") jC:=⟨TB⟩
def qDR:gn X (.type "int") pQ:=⟨T4⟩
def qEA:uf X "str.removeprefix" tV:=⟨CZ⟩
def qDz:uf X "str.isdecimal" i0:=⟨CY⟩
def qCi:uf X "str.split" wQ:=⟨B2⟩
def qDT:uf X "str.join" jD:=⟨LN⟩
def qD3:_q X tU:=⟨qAT⟩
def qCO:ZOp X (Cs .NotIn) (tS Vq):=⟨JB⟩
def qBO (G:QE X e fe)(N:QO X lo Q)(U:QO X hi Y):QE X (.Subscript e (.Slice lo hi Zt p2) ai) (vE fe Q Y):=⟨VE G.1 N.1 U.1⟩
def qB2 (Q:QE X e fe)(Y:QE X ek fk):QE X (.Subscript e (.Slice Zt Zt (Aa ek) p2) ai) (fG fe fk):=⟨GF Q.1 Y.1⟩
def qB5 (Q:QE X e fa):QI X tg e (jT fa):=⟨GI Q.1⟩
def qCr {j j1 j2:Aj}{op:Zy}{q1 q2:Eb}(G:QE X (.BinOp (.Constant (.str x) j p1) op b ai) fa)(N:QE X o fo)(U:(y == z)=Yp)
  (Y:Fz o "replace" X.env (eval o X.env)=eval o X.env:=by rfl) (Q:(cy.endLine == bq.line)=true:=by rfl)
  (hs:Bc [.BinOp (.Constant (.str x) j p1) op b ai,.Call (.Attribute o "replace" cy) [.Constant (.str y) j1 q1,.Constant (.str z) j2 q2] [] bq] X.env=(Yp,eval (.BinOp (.Constant (.str x) j p1) op b ai) X.env)::Bc [.Call (.Attribute o "replace" cy) [.Constant (.str y) j1 q1,.Constant (.str z) j2 q2] [] bq] X.env:=by rfl) :
  QA X [.BinOp (.Constant (.str x) j p1) op b ai,.Call (.Attribute o "replace" cy) [.Constant (.str y) j1 q1,.Constant (.str z) j2 q2] [] bq] (qA fa (qA (fF y z fo) qC)):=
 ⟨EB KQ G.1 N.1 U Y Q hs⟩
end
end _D
namespace _D
open _L
variable {x:Ah}{d:D}{t:Ms}
noncomputable def yR (d:D)(S:ag):Al (Af × Ab (Ah × D)):=match d with
 |.loc i=>match S[i]? with
  |some (.ins C Q)=>Aa (C,Q)
  |_=>Zt
 |_=>Zt
noncomputable def mV (f:Ah)(d:D):Ab (Ah × D)->Ab (Ah × D)
 |[]=>[(f,d)]
 |(g,x)::r=>if g=f then (g,d)::r else (g,x)::mV f d r
section
variable {K:Ag}{H P:Hp}{J: Ab Af}{S:ag}
def p8 {C:Af}{fs:Ab (Ah × D)}(r:bf K H P J S)(p:am K P J d v)(h:yR d S=Aa (C,fs)):∃ i a Q vs,d=.loc i/\v=.ref a/\J[i]? = Aa a/\S[i]? = Aa (.ins C fs)/\H a=Aa (.ins C Q vs)/\uv K P J fs vs:=by
 cases d with
 |loc i =>
  simp only[yR] at h;cases q:S[i]? with
  |none=>rw[q] at h;cases h
  |some m =>
   rw[q] at h;cases m with
   |ins U _U =>
    cases h;simp only[am] at p;obtain⟨a,rfl,Y⟩:=p;obtain⟨Q,vs,e,t⟩:=r.at' i a _ Y q;exact⟨i,a,Q,vs,rfl,rfl,Y,q,e,t⟩
   |_=>cases h
 |_=>cases h
set_option tactic.hygienic true in
theorem i9 {x:D}:∀ {fs:Ab (Ah × D)} {vs:Ab (Ah × V)},uv K P J fs vs->fs.lookup f=Aa x->∃ v,vs.lookup f=Aa v/\am K P J x v
 |[],_,_,h=>by cases h
 |(g,y)::fs,vs,t,h=>by
  cases t with
  |cons G N =>
   rename_i q O;obtain⟨C,w⟩:=q;obtain⟨Q,Y⟩:=G;simp only at Q Y;subst Q;rw[Eo] at h ⊢;cases U:f == g with
   |true=>rw[U] at h;cases h;exact⟨w,rfl,Y⟩
   |false=>rw[U] at h;exact i9 N h
set_option tactic.hygienic true in
theorem n8:∀ {fs:Ab (Ah × D)} {vs:Ab (Ah × V)},uv K P J fs vs->fs.lookup f=Zt->vs.lookup f=Zt
 |[],vs,t,_=>by cases t;rfl
 |(g,y)::fs,vs,t,h=>by
  cases t with
  |cons G N =>
   rename_i q O;obtain⟨C,w⟩:=q;obtain⟨Q,U⟩:=G;simp only at Q U;subst Q;rw[Eo] at h ⊢;cases Y:f == g with
   |true=>rw[Y] at h;cases h
   |false=>rw[Y] at h;exact n8 N h
end
def y8 (C:Af)(f:Ah):D->ag->ax D:=λd S=>match yR d S with
 |some (Y,Q)=>if Y=C then match Q.lookup f with
  |some x=>.ok x S
  |none=>.bad
  else .bad
 |none=>.bad
def NT {X:Cx}{S:ag}{P:Hp}(h:qU X P J (y8 C f d S) Q):∃ fs x,yR d S=Aa (C,fs)/\fs.lookup f=Aa x/\gy X P J Q x S:=by
 unfold y8 at h;cases q:yR d S with
 |none=>rw[q] at h;exact Am h
 |some p =>
  obtain⟨G,fs⟩:=p;rw[q] at h;obtain⟨e,Y⟩:=x3 (X:=X) h;subst e;clear h;cases U:fs.lookup f with
  |none=>rw[U] at Y;exact Am Y
  |some x=>rw[U] at Y;exact⟨fs,x,rfl,U,Y⟩
section
variable {X:Cx}{e o:Bl}{fe fo:DE}{fa:DA}{C:Af}{f m:Ah}{ai cy:Eb}{es:Ab Bl}{F:DF}{cm:Ar}{k n:Aj}
def EI (c:ub X.K C)(nf:vS X.K C f)(j:PE X e (tD X fe))(M:Fz e f X.env (eval e X.env)=eval e X.env):PE X (.Attribute e f ai) (tD X (d1 (y8 C f) fe)):=by intro aa s Y H Q I h;obtain⟨P,J,ac,S,r,E,z⟩:=h;refine Q4 M (bi (zK j I r E z) λu p ⟨v,B,P1,J1,d,g,G1,U⟩=>?_);obtain⟨l,x,N,L,q⟩:=NT (qU.base G1.same G1.pre U);obtain⟨i,a,dx,vs,rfl,rfl,b,_,T,t⟩:=p8 G1.rel G1.rep N;obtain⟨w,A,G⟩:=i9 t L;obtain rfl:u=Ca a:=G1.val;exact WJ G1.inv T c nf A λu' s2 O y=>⟨w,B,O,y,xr q G1.rel G⟩
def XW (P:Ba)(w:Bu)(K:Ag)(mg:J8)(base:Bb)(cm:Ar)(k:Aj)(C:Af)(m:Ah)(n:Aj)(F:DF):Prop:=
 ∃ g Y Q,Q.length=n/\ye K C m g/\yC K Y Q [] /\ rh P w K mg base cm k g Y Q (wu K n F)
def xF (C:Af)(m:Ah)(n:Aj)(F:DF)(fo:DE)(fa:DA):DE:=λQ S=>(fo Q S).bind λd Y=>match yR d Y with
 |some (N,G)=>if N=C/\G.lookup m=Zt then (fa Q Y).bind λJ U=>if (d::J).length=n then F (d::J) U else .bad else .bad
 |none=>.bad
def aM {γ:Type}{S:ag}{r:ax γ}{P:Hp}{Ok:γ->ag->Prop}(h:qK X P J (match yR d S with|some (Q,fs)=>(if Q=C/\fs.lookup m=Zt then r else .bad)|none=>.bad) Ok):∃ fs,yR d S=Aa (C,fs)/\fs.lookup m=Zt/\qK X P J r Ok:=by
 cases q:yR d S with
 |none=>rw[q] at h;exact Am h
 |some p =>
  obtain⟨Q,fs⟩:=p;rw[q] at h;by_cases z:Q=C/\fs.lookup m=Zt
  .obtain⟨rfl,Y⟩:=z;have h:qK X P J (if Q=Q/\fs.lookup m=Zt then r else .bad) Ok:=h;rw[Au ⟨Z,Y⟩] at h;exact⟨fs,Z,Y,h⟩
  .have h:qK X P J (if Q=C/\fs.lookup m=Zt then r else .bad) Ok:=h;rw[AT z] at h;exact Am h
def TU {pl:Kk Ar}(c:ub X.K C)(M:XW X.prog X.w X.K X.mg X.base cm k C m n F)(l:RoomC cm k X.A)(hF:Fn1 X)(ho:PE X o (tD X fo))(ha:PA X (e::es) (kh X fa))
  (B:Bc (e::es) X.env=(Yp,eval e X.env)::Bc es X.env:=by rfl) (O:(Eu ai (Bc es X.env)).any (·.1)=false:=by rfl)
  (b:eval (.Call (.Attribute o m cy) (e::es) [] ai) X.env=(do
   let ov <- eval o X.env
   Lx cy.atName
   let (f,first) <- holding [ov] (Rc ov m pl)
   Uk ai f first (Eu ai (Bc (e::es) X.env)) (Uc ai (Od [] X.env))):=by rfl) :
  PE X (.Call (.Attribute o m cy) (e::es) [] ai) (tD X (xF C m n F fo fa)):=by
 obtain⟨g,fd,ps,hn,q,hb,G⟩:=M;intro aa s Y H Q I h;obtain⟨P,J,ac,S,r,re,af⟩:=h;refine Vd (pl:=pl) (bi (zK ho I r re af) λu s1 ⟨v,H1,P1,J1,d,S1,G1,N⟩=>?_) b;obtain⟨fs,p,h2,A⟩:=aM (qU.base G1.same G1.pre N);have rd:=G1.rep;obtain⟨i,a,dx,vs,rfl,rfl,qa,_,ea,t⟩:=p8 G1.rel rd p;obtain rfl:u=Ca a:=G1.val;refine l5 G1.inv ea c q (n8 t h2) ?_;refine Mt (first:=[.ref a]) (h₀:=X.base) G1.inv.ok.mod.kin q.kp (bi (wN ha G1.inv G1.rel G1.env A ai) λus s2 ⟨E,H2,P2,J2,ds,S2,z,rv,r2,zc,T,j,y,L⟩=>⟨z.kIn,?_⟩) B O;have U:=qU.base j y L;by_cases w:(D.loc i::ds).length=n
 .rw[Au w] at U;exact pE G l hb (us:=.ref a::us) (vs:=.ref a::E) z r2 (.cons Z rv) (.cons (am.mono j y _ _ rd) T) w U
 .rw[AT w] at U;exact Am U
def GD {pl:Kk Ar}(c:ub X.K C)(M:XW X.prog X.w X.K X.mg X.base cm k C m n F)(w:RoomC cm k X.A)(hF:Fn1 X)(b:PE X o (tD X fo))
  (z:eval (.Call (.Attribute o m cy) [] [] ai) X.env=(do
   let ov <- eval o X.env
   Lx cy.atName
   let (f,first) <- holding [ov] (Rc ov m pl)
   Uk ai f first (Eu ai (Bc [] X.env)) (Uc ai (Od [] X.env))):=by rfl) :
  PE X (.Call (.Attribute o m cy) [] [] ai) (tD X (xF C m n F fo qC)):=by
 obtain⟨g,fd,ps,hn,E,hb,G⟩:=M;intro aa s Y H Q I h;obtain⟨P,J,ac,S,r,l,p⟩:=h;refine Vd (pl:=pl) (bi (zK b I r l p) λu s1 ⟨v,H1,L,T,d,j,G1,B⟩=>?_) z;obtain⟨fs,A,y,N⟩:=aM (qU.base G1.same G1.pre B);have rd:=G1.rep;obtain⟨i,a,dx,vs,rfl,rfl,qa,_,q,t⟩:=p8 G1.rel rd A;obtain rfl:u=Ca a:=G1.val;refine l5 G1.inv q c E (n8 t y) ?_;have U:qK X L T (if ([D.loc i]).length=n then F [.loc i] j else .bad) (gy X L T Q):=N;by_cases O:([D.loc i]).length=n
 .rw[Au O] at U;exact Wn (first:=[.ref a]) G1.inv.kIn E.kp (pE G w hb (us:=[.ref a]) (vs:=[.ref a]) G1.inv G1.rel (.cons Z .nil) (.cons rd .nil) O U)
 .rw[AT O] at U;exact Am U
noncomputable def kN (C:Af)(F:DF):DE:=λ_ S=>match F [.loc S.length] (S++[.ins C []]) with
 |.ok .non Q=>.ok (.loc S.length) Q
 |_=>.bad
def GJ {S:ag}{P:Hp}(h:qU X P J (kN C F ac S) Q):∃ S1,F [.loc S.length] (S++[.ins C []]) = .ok .non S1/\gy X P J Q (.loc S.length) S1:=by
 unfold kN at h;cases q:F [.loc S.length] (S++[.ins C []]) with
 |bad=>rw[q] at h;exact Am h
 |ex c x Y=>rw[q] at h;exact Am h
 |ok d S1 =>
  rw[q] at h;cases d with
  |non=>exact⟨S1,rfl,h⟩
  |_=>exact Am h
def KH (P:Ba)(w:Bu)(K:Ag)(mg:J8)(base:Bb)(k:Aj)(C:Af)(F:DF):Prop:=
 ∃ g Y Q,Q.length=1/\Mk K C g/\yC K Y Q [] /\ rh P w K mg base Vq k g Y Q (wu K 1 F)
def GC {p:Eb}(M:KH X.prog X.w X.K X.mg X.base k C F)(N:RoomC Vq (k+1) X.A)(a:Gl X x)(hm:X.mg x=Aa (.ref C))(L:(x == ("__debug__" : Ah))=false:=by decide) :
  PE X (.Call (.Name x p) [] [] ai) (tD X (kN C F)):=by
 obtain⟨g,fd,ps,hn,mk,hb,G⟩:=M;intro c s Y H Q I h;obtain⟨P,J,ac,S,r,re,l⟩:=h;obtain⟨S1,e,ok⟩:=GJ l;refine Hr (wA I a hm ?_ L);refine Wn I.kIn mk.kp (BS (us:=[]) (vs:=[]) (Y_:=[]) (ds:=[]) (E:=λ_ _ _=>Fv) mk G.ok ⟨N.hd rfl,N.dp,N.un,N.gd⟩ hb .nil ?_ I .nil λx B w O b=>?_)
 .intro c Y H s u s' _ q;obtain⟨_,_,_,_,_,_,_,_,_,_,_,_,q⟩:=q;exact Am q
 .have r1:=r.grow (bI (o:=.own x) O);have y:bf X.K (bx (bx H B (.own x)) x (.ins C B [])) P (J ++ [x]) (S++[.ins C []]):=r1.new (by rw[qN (Di b)];exact w) ⟨B,[],qT,.nil⟩;have U:(J++[x])[S.length]? = Aa x:=by rw[<- r.len];simp
  refine⟨Z,P,J++[x],[.loc S.length],S++[.ins C []],y,.cons (by simp only[am];exact⟨x,Z,U⟩) .nil,?_⟩;rw[e];intro v H' i J' j z T A;simp only[am] at A;exact⟨A,ok _ H' i J' j z ((Kh _ _).trans T) (by simp only[am];exact⟨x,rfl,pD T U⟩)⟩
set_option tactic.hygienic true in
theorem i8 {K:Ag}{P:Hp}(p:am K P J d v):∀ {fs:Ab (Ah × D)} {vs:Ab (Ah × V)},uv K P J fs vs->uv K P J (mV f d fs) (yA f v vs)
 |[],vs,t=>by cases t;exact .cons ⟨rfl,p⟩ .nil
 |(g,y)::fs,vs,t=>by
  cases t with
  |cons N G =>
   rename_i q O;obtain⟨B,w⟩:=q;obtain⟨Y,U⟩:=N;simp only at Y U;subst Y;unfold mV yA;by_cases Q:g=f
   .rw[Au Q,Au Q];exact .cons ⟨Z,p⟩ G
   .rw[AT Q,AT Q];exact .cons ⟨Z,U⟩ (i8 p G)
def lV (C:Af)(f:Ah)(fo G:DE):DS:=λQ S=>(G Q S).toS Q λd N=>(fo Q N).toS Q λo Y=>match o with
 |.loc i=>match Y[i]? with
  |some (.ins U J)=>if U=C/\J.length<1000 then .nx Q (Y.set i (.ins C (mV f d J))) else .bad
  |_=>.bad
 |_=>.bad
def HD (c:ub X.K C)(nf:vS X.K C f)(ho:PE X o (tD X fo))(hv:PE X N (tD X O))(hs:Ly N (Aa (.Attribute o f E)) ai.line X.env=pure false:=by rfl):PS X (.Assign [.Attribute o f E] N ai) (jb X (lV C f fo O)):=by
 intro aa s Y H D I h;obtain⟨P,J,ac,S,r,re,l⟩:=h;refine Oh (bi (gX hv I r re l) λu s1 ⟨y,H1,P1,J1,d,S1,G1,j⟩=>bi (gX ho G1.inv G1.rel G1.env j) λg s2 ⟨x,H2,w,J2,b,p,G2,Q⟩=>?_) hs;cases b with
 |loc i =>
  cases U:p[i]? with
  |none=>simp only[U] at Q;exact Am Q
  |some m =>
   cases m with
   |ins B G =>
    simp only[U] at Q;by_cases z:B=C/\G.length<1000
    .obtain⟨rfl,L⟩:=z;rw[Au ⟨rfl,L⟩] at Q;have A:=G2.rep;simp only[am] at A;obtain⟨a,rfl,T⟩:=A;obtain⟨dx,M,q,t⟩:=G2.rel.at' i a _ T U;obtain rfl:g=Ca a:=G2.val;have v:M.length=G.length:=(Paired.length t).symm;refine YL G2.inv q c nf (by rw[v];exact L) G1.val λs3 I3=>⟨Y,_,I3,?_⟩
     exact Q _ _ w J2 (G2.rel.put (m':=.ins B (mV f d G)) T U (by intro z;cases z) ⟨dx,yA f y M,qT,i8 (am.mono G2.same G2.pre _ _ G1.rep) t⟩) G2.env (qP.refl _) (Bt _)
    .rw[AT z] at Q;exact Am Q
   |_=>simp only[U] at Q;exact Am Q
 |_=>exact Am Q
end
def KJ (K:Ag)(C:Af)(m Y:Ah)(st:Du)(ps:Y0):Prop:=∃ g Q,ye K C m g/\uj K m Y st g Q/\yC K Q ps []
def KG (K:Ag)(C:Af)(Y:Ah)(st:Du)(ps:Y0):Prop:=∃ g Q,Mk K C g/\uj K "__init__" Y st g Q/\yC K Q ps []
section
variable {P:Ba}{w:Bu}{K:Ag}{mg:J8}{base:Bb}{cm:Ar}{C:Af}
def LP {st:Du}{k:Aj}{g:DS}(h:KJ K C m U st ps)(S:cz N ps (qF st))
  (Y:∀ (f:Af) (Q:Ac) (A:Bn) (J:Ab Hg) (s:Ai) (H:Hp) (E:XK),RoomC cm k (A.deeper (Fu U (qF st) s.heap.objs.size f Q)) ->
   kg (jt cm P w K mg base N U (qF st) f Q A J s H E) (zG st) (jb (jt cm P w K mg base N U (qF st) f Q A J s H E) g)):XW P w K mg base cm (k+1) C m ps.length (qL N.length g):=by
 obtain⟨f,O,L,F,B⟩:=h;exact⟨f,O,ps,rfl,L,B,fnX F S λQ A J s H E T G=>Y f Q A J s H E G⟩
def LQ {st:Du}{k:Aj}{g:DS}(h:KG K C U st [x])(S:cz N [x] (qF st))
  (Y:∀ (f:Af) (Q:Ac) (A:Bn) (J:Ab Hg) (s:Ai) (H:Hp) (E:XK),RoomC Vq k (A.deeper (Fu U (qF st) s.heap.objs.size f Q)) ->
   kg (jt Vq P w K mg base N U (qF st) f Q A J s H E) (zG st) (jb (jt Vq P w K mg base N U (qF st) f Q A J s H E) g)):KH P w K mg base (k+1) C (qL N.length g):=by
 obtain⟨f,B,L,F,O⟩:=h;exact⟨f,B,[x],rfl,L,O,fnX F S λQ A J s H E T G=>Y f Q A J s H E G⟩
end
abbrev uw (h:Bb)(it:Af)(x:Ah)(t:Ms)(k:Aj):Prop:=h.IsStrIter it "str_ascii_iterator" x t k
def uw.keep {h h':Bb}{it:Af}(y:uw h it x t k)(q:∀ o,h.get? it=Aa o->h'.get? it=Aa o):uw h' it x t k:=by obtain⟨o,e,r⟩:=y;exact⟨o,q o e,r⟩
def uw.there {it:Af}(y:uw h it x t k):∃ o,h.get? it=Aa o/\∀ v,o.data≠.cell v:=by obtain⟨o,e,_,d⟩:=y;exact⟨o,e,λv z=>by rw[d] at z;cases z⟩
section
variable {prog:Ba}{w:Bu}{A:Bn}{E:J7}{s:Ai}
theorem B5 {it:Af}{Q:J7}(Y:uw s.heap it x t i)(G:x.cps[i]? = Aa c)
  (N:∀ h',uw h' it x t (i+1)->Ex it s.heap h'->Q (.str ⟨#[c]⟩ s.toks) { s with heap:=h',toks:=s.toks+1 }) : Ap (As prog w) A (Cp (.ref it)) Q E s:=by
 obtain⟨o,U,O,J⟩:=id Y;unfold Cp;refine Ad (Dt (name:=Fd "__next__") Y.typeIs Hw
  (Dx Hw Y.typeIs Ol ?_ (Nw _)))
 show Ap _ _ (field (.ref it) 0 >>= _) _ _ s;refine Ad (Dr U J (x:=.str x t) Z ?_);show Ap _ _ (field (.ref it) 1 >>= _) _ _ s;refine Ad (Dr U J (x:=.int i 0) Z ?_);simp only[EQ,G];refine Ad (Ge U J aA (Ad (wpAny_mkStr (An ⟨_,Z,An (N _ ?_ (Gz ..))⟩) (by show 1<=sizeLine;decide))));exact⟨_,Dy _ U (IN (Hs J _)),(Rm ..).trans O,by
  rw[Hs J];simp[Jr]⟩
theorem iM {it:Af}{Q:J7}(G:A.handled=Zt)(Y:uw s.heap it x t i)(N:x.cps[i]? = Zt)
  (O:∀ h' e,Uw it s.heap h'->(∃ o,h'.get? e=Aa o/\o.cls=.type "StopIteration")->E (.ref e) { s with heap:=h' }) : Ap (As prog w) A (Cp (.ref it)) Q E s:=by
 obtain⟨o,J,C,U⟩:=id Y;unfold Cp;refine Ad (Dt (name:=Fd "__next__") Y.typeIs Hw
  (Dx Hw Y.typeIs Ol ?_ (Nw _)))
 show Ap _ _ (field (.ref it) 0 >>= _) _ _ s;refine Ad (Dr J U (x:=.str x t) Z ?_);show Ap _ _ (field (.ref it) 1 >>= _) _ _ s;refine Ad (Dr J U (x:=.int i 0) Z ?_);simp only[EQ,N];refine Ad (Kx (Ad (Ge J U aA (Ad (Uy ?_)))));show Ap _ _ (Zg (.type "StopIteration") [] >>= _) _ _ _;refine Ad ?_;simp only[Zg,newTuple];refine Ad (Dh ?_ (by size_fits));refine Ad (m:=Ll _ _) (Jx (a:=El) (by first|rfl|(simp only[Ll];rfl)) (Dh ?_ (by size_fits)));simp only[ZB];refine Ad (Wg ?_)
 first|rw[show A.in1.handled=Zt from G]|rw[G]
 exact Ad (An (Ux (O _ _ (((Gz ..).extBut.push _).push _) ⟨_,Be _ Z,Z⟩)))
def RQ (i:Af)(x:Ah)(t:Ms):M_ prog w i 1 (λk=>x.cps[k]?.map λc U=>.str ⟨#[c]⟩ U) (λh k=>uw h i x t k) λ_=>Jg:=
 ⟨λQ _ J Y=>by
  obtain⟨c,e,rfl⟩:=Ep.mp J;exact B5 Q e Y,λG Q _ J Y=>iM G Q (Kr.mp J) Y⟩
def qBT (x:Ah)(f:Aj->Al V)(_:Hp):Prop:=f=λk=>x.cps[k]?.map λc=>.str ⟨#[c]⟩
def KN {K:Ag}(i z:Af)(x:Ah)(t:Ms):wn prog w K i z (λh k=>uw h i x t k) (qBT x) where
 kp:=λ_ _ _ y q=>y.keep q
 there:=λy=>y.there
 inj:=λ_ _ e U=>e.trans U.symm
 arm:=λ{X G Y s H f} Q J _ _ _ e=>by
  subst Q J e;refine⟨1,_,_,RQ i x t,λ_ _=>trivial,λk v hv=>?_,λk hv=>?_⟩
  .obtain⟨c,e,rfl⟩:=Ep.mp hv;exact⟨_,by rw[e];rfl,λt=>⟨t,Z⟩⟩
  .rw[Kr.mp hv];rfl
noncomputable abbrev qAP (x:Ah)(t:Ms):Cd:={ cls:=.type "str_ascii_iterator",data:=.fields #[.str x t,.int 0 0] }
set_option maxHeartbeats 4000000 in
def FL (x:Ah)(t:Ms)(b:Af)(ys:Br Ac)(Y:x.cps.all (· < 128)=Vq):nP (.str x t) (qAP x t) Yp b λh=>h.IsList b ys:=
 .of_wp λprog w A R s h=>by obtain⟨G,g,d,J,os⟩:=s;obtain⟨U,h⟩:=h;have Q:=sub_zip;have l2:Zi (Qv ⟨G.push { cls:=.type "str_ascii_iterator",data:=.fields #[.str x t,.int 0 0] },g,d,J,os⟩) b ys:=yN.keep (tp:=Yp) U λo e=>Ak _ e;wp_walk using Xa Y,Gu l2;exact⟨_,Z,h⟩
end
def YY (ds:Ab D):Al (Ab D):=match ds with
 |[.str x,.lst Q]=>if x.cps.all (· < 128)=Vq then Aa (yB (wU x) Q) else Zt
 |_=>Zt
def nV (f:DA):DI:=λY S=>(f Y S).bind λQ J=>vJ (YY Q) J
section
variable {X:Cx}{e1 e2:Bl}{nw:Ab Bl}{x1:Aj}{nu:Eb}{f:DA}{p ai:Eb}
set_option tactic.hygienic true in
def N3 (g:Gl X "zip")(hm:X.mg "zip" = Zt)(l:PA X [e1,e2] (kh X f))(hs:Bc [e1,e2] X.env=(Yp,eval e1 X.env)::Bc [e2] X.env:=by rfl)(G:(Eu ai (Bc [e2] X.env)).any (·.1)=false:=by rfl) :
  PI X (.Tuple nw x1 nu) (.Call (.Name "zip" p) [e1,e2] [] ai) (u_ X (nV f)):=by
 intro aa s Y H R I h;obtain⟨P,J,ac,S,r,m,j⟩:=h;refine Call_ (uW I g hm boot_zip (Gq (bi (wN l I r m j ai) λus s1 ⟨vs,H1,z,J1,ds,S1,C,M,L,k,c,e1,e2,N⟩=>?_) hs G));obtain⟨ah,Q,q⟩:=vN N;have q:=q.base e1 e2;unfold YY at Q;split at Q
 .rename_i x ys;split at Q
  .rename_i T;cases Q;obtain⟨v,w,u,y,rfl,rfl,B,O,E,o⟩:=kX c M;simp only[am] at B O;subst B;obtain⟨t,rfl⟩:=E;obtain⟨b,n,rfl,U,A⟩:=O;cases (show y=Ca b from o);have U:Sq Yp X.K z b n:=U.l;obtain⟨ib,rb,a⟩:=(U.mono L.sub).at C;refine KC C L (FL x t b _ T) rfl a (KN _ _ x t) (λ_ e=>⟨_,e,rfl,rfl⟩) (za (λ_ _=>rfl) (λi h=>?_) (λi h=>?_) U A) q
   .have h:i<x.cps.size:=by simpa [wU] using h
    exact⟨.str ⟨#[x.cps[i]]⟩,by rw[Dj h];rfl,by simp[wU,am]⟩
   .rw[Kv (by simpa [wU] using h)];rfl
  .cases Q
 .cases Q
def qCX (J:Gl X "zip")(hm:X.mg "zip" = Zt)(Y:QA X [e1,e2] f)(hs:Bc [e1,e2] X.env=(Yp,eval e1 X.env)::Bc [e2] X.env:=by rfl)(Q:(Eu ai (Bc [e2] X.env)).any (·.1)=false:=by rfl):QI X (.Tuple nw x1 nu) (.Call (.Name "zip" p) [e1,e2] [] ai) (nV f):=⟨N3 J hm Y.1 hs Q⟩
end
end _D
namespace _D
open _L _H
variable {J:J9}{K:Ag}
section
variable {X:Cx}
noncomputable def p6:D->Ab D->ag->ax D:=λa Q S=>match a,Q with
 |.str x,[.str y]=>.ok (.bl (Txt.startswith x y)) S
 |_,_=>.bad
def UN:t_ X "str.startswith" p6:=by
 intro z Y H s P J S v E A L a M Q I r B p N G U;unfold p6 at U;split at U
 .simp only[am] at p;subst p;obtain⟨t,rfl⟩:=B;obtain⟨w,u,rfl,rfl,O,C⟩:=wK G N;simp only[am] at O;subst O;obtain⟨T,rfl⟩:=C;exact SC.startswith ⟨.bl _,H,I,rfl,xr U r (by simp only[am])⟩
 .exact Am U
noncomputable def nZ:D->Ab D->ag->ax D:=λa Y S=>match a,Y with
 |.loc i,[]=>match S[i]? with
  |some (.lst Q)=>match Q[Q.length-1]? with
   |some d=>.ok d (S.set i (.lst Q.dropLast))
   |none=>.bad
  |_=>.bad
 |_,_=>.bad
theorem eO {P:Hp}:∀ {ds:Ab D} {vs:Ab V},qJ K P J ds vs->qJ K P J ds.dropLast vs.dropLast
 |[],vs,r=>by rw[r.nil_inv];exact .nil
 |[d],vs,r=>by
  obtain⟨w,U,rfl,_,Q⟩:=r.cons_inv;rw[Q.nil_inv];exact .nil
 |d::e::ds,vs,r=>by obtain⟨w,U,rfl,G,Q⟩:=r.cons_inv;have N:=eO Q;obtain⟨O,Y,rfl,_,_⟩:=Q.cons_inv;exact .cons G N
def LO:t_ X "list.pop" nZ:=by
 intro j Y H s P J S v E u k a w Q I r A p C O U;cases a with
 |loc i =>
  cases w with
  |cons _ _=>exact Am U
  |nil =>
   have U:qU X P J (match S[i]? with|some (.lst G)=>(match G[G.length-1]? with|some d=>ax.ok d (S.set i (.lst G.dropLast))|none=>.bad)|_=>.bad) Q:=U;cases N:S[i]? with
   |none=>rw[N] at U;exact Am U
   |some m =>
    rw[N] at U;cases m with
    |lst G =>
     cases B:G[G.length-1]? with
     |none=>simp only[B] at U;exact Am U
     |some d =>
      simp only[B] at U;cases O.nil_inv;cases C;simp only[am] at p;obtain⟨l,rfl,q⟩:=p;obtain⟨L,z,t⟩:=r.at' i l _ q N;obtain⟨y,T,M⟩:=t.get B;refine A2 j s Y H (.ref l) [] E [] Q I A .nil ⟨l,L,y,rfl,rfl,z,by rw[<- t.length];exact T,?_⟩;exact U _ _ _ _ (r.put (m':=.lst G.dropLast) q N (by intro z;cases z) ⟨L.dropLast,qT,eO t⟩) (qP.refl _) (Bt _) M
    |_=>exact Am U
 |_=>exact Am U
noncomputable def yW (x:Ah)(n:Aj):Ah:=⟨(Cu n x.cps).foldl (· ++ ·) #[]⟩
def pU:G2:=λa b S=>match a,b with
 |.str x,.int n=>if 2<=n/\n<=1000/\x.length=1/\(yW x n.toNat).length<=1000 then .ok (.str (yW x n.toNat)) S else .bad
 |_,_=>.bad
set_option tactic.hygienic true in
def B8:gz X (Ec .Mult) pU:=by
 intro y Y H s P J S v u z j a b Q I r L T N O U;unfold pU at U;split at U
 .rename_i x n;obtain⟨⟨E,M,G,w⟩,U⟩:=x3 (X:=X) U;simp only[am] at N O;subst N O;obtain⟨t,rfl⟩:=L;obtain⟨A,rfl⟩:=T;have C:¬ n<1:=by fin2
  have B:(n == 1||x.length == 0)=false:=by rw[G];simp;fin2
  refine PySem.P.mul_str (by rw[Bq om,Bq om];rfl) (λ_ _=>?_) (λ_ _=>?_) ?_
  .rw[G];have:(2 ^ 63-1:Aq)/n>=1:=by
    refine Int.le_ediv_of_mul_le om ?_;fin2
   fin2
  .rw[G];unfold Builtin.Str.tooLong;exact Bq (by have:=Dv;fin2)
  .rw[AT C,B];exact⟨by show (yW x n.toNat).length<=sizeLine;have:=Dv;fin2,.str _,H,I.tok _,⟨_,Z⟩,xr U r (by simp only[am];rfl)⟩
 .exact Am U
def qCQ:uf X "str.startswith" p6:=⟨UN⟩
def qDW:uf X "list.pop" nZ:=⟨LO⟩
def qCg:ZOp X (Ec .Mult) pU:=⟨B8⟩
end
open PySem.Builtin PyProof.Rows.KTD
def nN (K:Ag)(d:_D.D)(v:Ac):Prop:=(∃ x t,d=.str x/\v=.str x t)\/∃ f,d=.obj f/\v=.ref f/\Da K (.ref f)=Vq
def vV (K:Ag)(a:Af)(D:Ab (Ah × _D.D)):Prop:=
 (a == Pj)=Yp/\∃ o Q Y,K.lookup a=Aa o/\o.ExactDict/\o.data=.dict Q Y/\Rows (nN K) Q.toList D
def vV.at {D:Ab (Ah × _D.D)}(T:vV K a D)(k:K.In h):TabOf (nN K) h a D:=by obtain⟨e,o,Y,U,Q,r⟩:=T;exact⟨e,o,Y,U,k _ _ Q,r⟩
section
variable {prog:Ba}{w:Bu}{A:Bn}{E:J7}{s:Ai}{a:Af}{δ: Type}{R:δ->Ac->Prop}{D:Ab (Ah × δ)}{k:Ah}{tk:Ms}
def kF (T:TabOf R s.heap a D):s.TypeIs (.ref a) "dict":=let ⟨_,o,_,_,Q,Y,_⟩:=T;⟨o,Q,Y.1⟩
def XI {Q:Al Ac->Ai->Prop}(T:TabOf R s.heap a D)(I:∀ d v,datumAt k D=Aa d->R d v->Q (Aa v) { s with toks:=s.toks+1 })(M:datumAt k D=Zt->Q Zt { s with toks:=s.toks+1 }) :
  Ap (As prog w) A (dictGet a (.str k tk)) Q E s:=by
 obtain⟨_,o,U,z,C,j,B,N⟩:=T;unfold dictGet
 try with_reducible refine Dc ?_
 refine Ad (Ys (Ad (kt_dictFind_strs (s:={ s with toks:=s.toks+1 }) C B (by obtain⟨l⟩:=U;simpa using N.exact) ?_)));have G:Q (findBy (λk v=>v.isStr k) U k) { s with toks:=s.toks+1 }:=by
  have H:findBy (λk v=>v.isStr k) U k=(U.toList.find? λe=>e.key.isStr k).map (·.val):=by obtain⟨l⟩:=U;simp[findBy]
  rw[H];cases Y:datumAt k D with
  |some d=>obtain⟨v,hv,O⟩:=N.find_some Y;rw[hv];exact I d v Y O
  |none=>rw[N.find_none Y];exact M Y
 rw[findBy_of_findIdx?] at G;cases L:U.findIdx? λe=>e.key.isStr k with
 |none=>rw[L] at G;exact An G
 |some i=>rw[L] at G;exact Ad (wpAny_dictEntries (s:={ s with toks:=s.toks+1 }) C B (An G))
def rC {Q:Ar->Ai->Prop}(T:TabOf R s.heap a D)(h:Q (inKeys k D) { s with toks:=s.toks+1 }) : Ap (As prog w) A (contains (.ref a) (.str k tk)) Q E s:=by
 unfold contains
 try with_reducible refine Dc ?_
 refine Ad (Uh (kF T) Qp.lookup ?_);show Ap _ _ (if (Aa (L2 "dict.__contains__") == Aa El)=Vq then _ else _) _ E s;rw[AT (by rw[beq_builtin_none];exact Fc)];refine Ad (wpAny_callSpecialUnlessNone?_slot (name:=Fd "__contains__") (kF T) Qp
  (Dx Qp (kF T) entry_dict_contains ?_ (args_dict_contains _ _)))
 show Ap _ _ (dictGet a (.str k tk) >>= _) _ _ s;refine Ad (XI T (λd v G _=>?_) λU=>?_)
 .have Y:inKeys k D=true:=by rw[<- isSome_datumAt,G];rfl
  rw[Y] at h;show Ap _ _ (ret (.bool Vq)) _ _ _;exact An ⟨_,Z,Nl h⟩
 .have Y:inKeys k D=false:=by rw[<- isSome_datumAt,U];rfl
  rw[Y] at h;show Ap _ _ (Builtin.Dict.pendingKey? a (.str k tk) >>= _) _ _ _;exact Ad (wpAny_pendingKey_other T.1 (An ⟨_,Z,Nl h⟩))
def F4 {O Y:Bl}{Q:J7}(T:TabOf R s.heap a D)(G:datumAt k D=Aa d)(h:∀ v,R d v->Q v { s with toks:=s.toks+1 })
  (hs:subscripted Y Yp (.ref a) (.str k tk)=operate [.ref a,.str k tk] (Oa (.ref a) (.str k tk))) (C:∀ r,letTemporaryGo O (.ref a) r=pure ()) :
  Ap (As prog w) A (Ri O Y (.ref a) (.str k tk)) Q E s:=by
 refine subscriptTail_builtin (kF T) Ry.lookup ?_ hs C;unfold Oa
 try with_reducible refine Dc ?_
 refine Ad (Rh (kF T) aC ?_);refine Ad (Dt (name:=Fd "__getitem__") (kF T) Ry
  (Dx Ry (kF T) entry_dict_getitem ?_ (args_dict_getitem _ _)))
 show Ap _ _ (dictGet a (.str k tk) >>= _) _ _ s;exact Ad (XI T (λB v U hv=>An ⟨v,rfl,An (h v (by rw[G] at U;cases U;exact hv))⟩) λN=>by rw[G] at N;cases N)
end
noncomputable def yG (Q:Ar)(T:Ab (Ah × _D.D)):_D.D->ag->ax _D.D:=λd S=>match d with
 |.str k=>.ok (.bl (if Q then !inKeys k T else inKeys k T)) S
 |_=>.bad
def yU (T:Ab (Ah × _D.D)):_D.D->ag->ax _D.D:=λd S=>match d with
 |.str k=>match datumAt k T with
  |some x=>.ok x S
  |none=>.bad
 |_=>.bad
section
variable {X:Cx}{e:Bl}{fe:DE}{x:Ah}{p ai:Eb}{a:Af}{T:Ab (Ah × _D.D)}
def EU (t:vV X.K a T)(A:Gl X x)(hm:X.mg x=Aa (.ref a))(E:PE X e (tD X fe))(G:(x == ("__debug__" : Ah))=false:=by decide):PE X (.Compare e [.In] [.Name x p] ai) (tD X (d1 (yG Yp T) fe)):=by
 intro u s Y H Q I h;obtain⟨P,J,y,S,r,M,L⟩:=h;refine wpAny_Compare1 (bi (zK E I r M L) λw C ⟨v,B,j,q,d,z,G1,U⟩=>wA G1.inv A hm ?_ G) (by with_unfolding_all rfl);cases d with
 |str k =>
  have N:=G1.rep;simp only[am] at N;subst N;obtain⟨O,rfl⟩:=G1.val;show Ap _ _ (do return Fb (<- contains (.ref a) (.str k O))) _ _ C;exact Ad (rC (t.at G1.inv.kIn) (An ⟨.bl (inKeys k T),B,G1.inv.tok _,Z,xr (qU.base G1.same G1.pre U) G1.rel (by simp only[am];rfl)⟩))
 |_=>exact Am U
def EV (t:vV X.K a T)(j:Gl X x)(hm:X.mg x=Aa (.ref a))(u:PE X e (tD X fe))(hs:gJ e:=by intro _ _;rfl)(N:(x == ("__debug__" : Ah))=false:=by decide):PE X (.Subscript (.Name x p) e ai) (tD X (d1 (yU T) fe)):=by
 intro l s Y H Q I h;obtain⟨P,J,c,S,r,y,A⟩:=h;refine Vy (wA I j hm (bi (zK u I r y A) λo q ⟨v,O,E,M,d,L,G1,U⟩=>?_) N);cases d with
 |str k =>
  have U:=qU.base G1.same G1.pre U;have C:=G1.rep;simp only[am] at C;subst C;obtain⟨g,rfl⟩:=G1.val;have U:qU X E M (match datumAt k T with|some x=>ax.ok x L|none=>.bad) Q:=U;cases G:datumAt k T with
  |none=>rw[G] at U;exact Am U
  |some d =>
   rw[G] at U;refine F4 (t.at G1.inv.kIn) G (λv hv=>?_) (hs _ _) (by intro _;with_unfolding_all rfl);rcases hv with⟨z,w,rfl,rfl⟩|⟨f,rfl,rfl,B⟩
   .exact⟨.str z,O,G1.inv.tok _,⟨w,Z⟩,xr U G1.rel (by simp only[am])⟩
   .exact⟨.ref f,O,G1.inv.tok _,Z,xr U G1.rel (by simp only[am];exact⟨trivial,B⟩)⟩
 |_=>exact Am U
def TN (Y:Gl X x)(hm:∃ t,X.mg x=Aa (.str z t))(Q:(x == ("__debug__" : Ah))=false:=by decide):PE X (.Name x ai) (tD X (dC (.str z))):=
 let ⟨t,h⟩:=hm
 mJ Y h (v:=.str z) ⟨t,Z⟩ (λP J => by simp only[am]) Q
end
def RG (K:Ag)(a:Af)(ah:Y8):Prop:=∃ (o:Cd) (n:Aj),K.lookup a=Aa o/\o.cls=.type "tuple" /\ o.data=.seq ah.toArray n/\ah.length<=1000
def o9 {P:Hp}(h:RG K a ah)(Y:qQ vs ah)(G:qJ K P J ds vs):am K P J (.tup ds) (.ref a):=by obtain⟨o,n,Q,U,N,O⟩:=h;simp only[am];exact⟨a,vs,rfl,.inr ⟨o,ah.toArray,n,Q,U,N,by rw[Bf];have:=Dv;fin2,by simpa using Y⟩,G⟩
end _D
namespace _D
open _L
variable {ns ps:Y0}{aq:Ab Bl}{au:Ah}
section
variable {prog:Ba}{w:Bu}{A:Bn}{E:J7}{s:Ai}{g:Br Qy}{d:Drawn}{os:OsState}{ac:Hg}
variable {nm q:Ah}{C N:Af}{bs bm wa:Y8}{hdct:Ar}{sn:Y0}{sub:Y8}{ab:Ar}{col:Al Ar}{dd:Al Af}{k0 k1 k2 k3 k5:Al Ac}{B gu mn:Em}{fI:Af}{oI:Cd}{mN:J8}
def UL (F:Tp B gu mn wa){x:Ah}{H O:Eb}{Y:Ab Bl}{Q:J7}(G:(Eu O (Bc Y ac)).any (·.1)=Yp)(c:mN "__init__" = Aa (.ref fI))(L:oI.cls=.type "function")
  (k:Ap (As prog w) A (eval (.Name x H) ac) (λf I=>f=.ref C/\Ap (As prog w) A (evalArgs (.ref C) Vq (Eu O (Bc Y ac)) [])
   (λa J=>a.kw=[]/\a.pos.length<=sizeLine/\J.heap.get? C=Aa (Jw nm q C N bs bm hdct sn sub ab col dd k0 k1 k2 k3 k5 gu)/\J.heap.Ns N mN/\Ua J.heap wa bm/\J.heap.get? fI=Aa oI /\
    ∀ h' e,Qf J.heap h' e (.ref C) a.pos->Ap (As prog w) (A.under (.builtin "type.__call__" ⟨.ref C::a.pos,[]⟩)) (call (.ref fI) (.ref e::a.pos))
     (λr s'=>r=.none/\Q (.ref e) s') E { J with heap:=h' }) E I) E s) :
  Ap (As prog w) A (eval (.Call (.Name x H) Y [] O) ac) Q E s:=by
 refine Yo (Fm k (λf I z=>?_) λ_ _ x=>x);obtain⟨rfl,z⟩:=z;unfold Uk;refine Ad (Dc (Fm z (λa J y=>Ad (Hk ?_)) λ_ _ x=>x));obtain⟨i,o⟩:=a;obtain⟨p,U,M,l,T,j,y⟩:=y;obtain rfl:o=[]:=p;obtain⟨n,g,d,v,os⟩:=J;simp only[G];refine Ad (WP M ?_);refine Ad (rP F T M l c j L (λh' e m=>Fm (y h' e m) (λr s' ⟨u,z⟩=>⟨u,Ad (Dc (wpAny_point (An z)))⟩) λ_ _ x=>x) U)
end
def aJ (c:Ac)(ns:Y0)(U:DA):DE:=λJ S=>(U J S).bind λQ Y=>if Q.length=ns.length then .ok (.exl c ns Q) Y else .bad
section
variable {X:Cx}{aa:J0}{Y: _L.St}{H:Hp}{s:Ai}
def EH {O:Bl}{np c:Eb}(hc:X.calm=Vq)(hr:RoomC cm 2 X.A)(hF:Fn1 X)(hg:Gl X x)(G:FcOk X.K X.mg x C ns)(ha:PA X (O::aq) (kh X fa))
  (a:(x == ("__debug__" : Ah))=false:=by decide) (he:Bc (O::aq) X.env=(Yp,eval O X.env)::Bc aq X.env:=by rfl) (zc:(Eu c (Bc aq X.env)).any (·.1)=false:=by rfl) :
  PE X (.Call (.Name x np) (O::aq) [] c) (tD X (aJ (.ref C) ns fa)):=by
 intro aa s Y H Q I h;obtain⟨P,J,ac,S,r,re,af⟩:=h;obtain⟨B,fI,fd,au,st,F,hb,hS,n,i,hx⟩:=G.ex;obtain⟨⟨nm,qn,N,bs,tl,hdct,sn,sub,ab,col,dd,k0,k1,k2,k3,k5,mN,hC,hN,hi,T⟩,m⟩:=QM I.mod.kin hx;obtain⟨oc,od,zo,lk⟩:=kQ F;refine UL (C:=C) (nm:=nm) (q:=qn) (N:=N) (bs:=bs) (bm:=tl) (hdct:=hdct) (sn:=sn) (sub:=sub) (ab:=ab) (col:=col) (dd:=dd) (k0:=k0) (k1:=k1) (k2:=k2) (k3:=k3) (k5:=k5)
  Hd (mN:=mN) (by rw[he];show (Yp||(Eu c (Bc aq X.env)).any (·.1))=Yp;rw[zc];rfl) hi (m _ lk) (wA I hg G.hm ⟨rfl,?_⟩ a)
 have run:=wN (Ok:=gy X P J Q) ha I r re (show qK X P J ((fa ac S).bind λf S1=>if f.length=ns.length then ax.ok (D.exl (.ref C) ns f) S1 else .bad) (gy X P J Q) from af) c;rw[he] at run ⊢;refine Jl (bi run λM d ⟨E,L,P1,J1,f,S1,A,rv,r1,zn,rp,e1,e2,q⟩=>?_);by_cases hz:f.length=ns.length
 .rw[Au hz] at q;have hv:E.length=ns.length:=by rw[<- rp.length];exact hz
  have hl:M.length=ns.length:=by rw[<- rv.length];exact hv
  refine⟨Z,by rw[hl,Dv];have:=G.ln;fin2,A.bk _ _ hC,hN.keeps A.bk,T.keeps A.bk,A.kIn _ _ lk,λh' e p=>?_⟩;obtain⟨t,zl,_,_⟩:=p.there;have n0:L e=none:=none_of A p.new;have no:¬ pe X aa L e:=λj=>by obtain⟨o1,l⟩:=pe.there A hF j;rw[p.new] at l;cases l
  have nf:e ∉ gv X.stack:=λz=>by obtain⟨_,o,l,_⟩:=A.stack.mem z;rw[p.new] at l;cases l
  have I2:Inv X aa Y (bx L e (ol e C t Zt)) { d with heap:=h' }:=Inv.track (A.kept (t':=d.toks) p.keeps) hF no nf λ_=>aS zl Z Z Z;have rm:RoomC Vq 1 (X.A.under (.builtin "type.__call__" ⟨.ref C::M,[]⟩)):=.of (nj.make (k:=1) ⟨I.ok.hd hc,hr.dp,hr.un,hr.gd⟩ C M []);have bd:=hb { d with heap:=h' } (.ref e::M) I2.kIn (by simp[hl]);rw[Gg] at bd;refine Kz (Ka ((QY (w:=X.w) (mg:=X.mg) (base:=X.base) (cm:=Vq) F hS i n G.fld G.ne G.ln).run _ X.stack { d with heap:=h' } _ ⟨.ref e::M,[]⟩ (.ref e::M) (.ref e::E) (λv H'=>v=.non/\∃ U,L U=Zt/\U≠e/\H'=bx (bx L e (ol e C t (Aa U))) U (oq U (ns.zip E))) (λ_ _ _=>Fv) rm (I2.env0.make C M []) bd (.cons Z rv) ⟨e,t,L,E,Z,hv,n0,Z,λU d1 d2=>⟨Z,U,d1,d2,Z⟩⟩) λr s' g=>?_);cases r with
  |error u =>
   obtain⟨_,_,_,_,_,_,_,_,_,_,_,_,z⟩:=(show pf X.prog X.w X.stack _ _ _ u s' from g)
   exact Am z
  |ok fl =>
   cases fl with
   |ret u =>
    obtain⟨v,H',I3,ru,rfl,U,d1,d2,rfl⟩:=I2.after g;have hE:bx (bx L e (ol e C t (Aa U))) U (oq U (ns.zip E)) e=Aa (ol e C t (Aa U)):=by rw[qN (Di d2),qT]
    obtain⟨ob,b1,b2,b3,b4⟩:=vW I3 hE;have I4:Inv X aa Y (bx L U (oq U (ns.zip E))) s':=Inv.drop I3 hE (by rw[qN (Di d2)];exact n0) λb hb=>by
     by_cases w:b=U
     .rw[w,qT,qT]
     .rw[qN w,qN w,qN hb]
    obtain⟨r4,sP⟩:=r1.pure (o:=oq U (ns.zip E)) d1;have ne:e≠U:=Di d2;have y:bx L U (oq U (ns.zip E)) e=none:=by rw[qN ne];exact n0
    have I5:Inv X aa Y (bx (bx L U (oq U (ns.zip E))) e (WH e (.ref C) U)) s':=Inv.track I4 hF (λj=>no ?_) nf λ_=>⟨⟨ob,b1,b2,b3,_,b4⟩,⟨ob,b1⟩,λh1 h2 ⟨o,z1,rr⟩ kk=>⟨o,kk o z1,rr⟩⟩
    .obtain⟨r5,sQ⟩:=r4.pure (o:=WH e (.ref C) U) y;refine⟨ru,V.ref e,_,I5,Z,q _ _ _ J1 r5 (e1.trans (sP.trans sQ)) e2 ?_⟩;simp only[am];exact⟨e,U,E,Z,qT,by rw[qN d2,qT],hv.symm,qJ.mono (sP.trans sQ) (Bt _) _ _ rp⟩
    rcases j with z|z|z|z
    .exact .inl z
    .exact absurd y z
    .exact .inr (.inr (.inl z))
    .exact .inr (.inr (.inr z))
   |next=>exact Am g
   |brk=>exact Am g
   |cont=>exact Am g
 .rw[AT hz] at q;exact Am q
end
def wz (s:Du)(j:Aj):Du:=match s with
 |.ClassDef _ _ _ b _ _ _ _ _ _ _=>b.getD j s
 |_=>s
noncomputable def E0 (K:Ag)(C:Af):Ar:=Lr K C Ou&&(KT K C&&(Re K C&&(decide (Dd K (.ref C) "__setattr__" = Aa (Aa (.builtin "object.__setattr__")))&&(Ot K C&&Da K (.ref C)))))
structure yj (K:Ag)(C:Af)(fs:Y0):Prop where
 cls:ub K C
 mks:Ot K C=Vq
 kp:Da K (.ref C)=Vq
 fld:∀ f∈fs,vS K C f
def qAG {K:Ag}{fs:Y0}(h:E0 K C=Vq)(k:(fs.all λf=>decide (Dd K (.ref C) f=Aa Zt))=Vq):yj K C fs:=by unfold E0 at h;simp only[Av,Az] at h;obtain⟨a,b,c,d,e,f⟩:=h;exact⟨⟨a,b,c,d⟩,e,f,λf Q=>show Dd K (.ref C) f=Aa Zt from Bg (Bk.mp k f Q)⟩
inductive ug (K:Ag)(C:Af)(m qual:Ah)(st:Du):Prop
 |mk {f:Af} {oc:Ac} {od an:Al Af} {osl:Br (Al Ac)} {kV doc pm cdv ct:Ac} (a:Dd K (.ref C) m=Aa (Aa (.ref f)))
  (l:K.lookup f=Aa ⟨oc,od,.func (Fp m qual (xW st) (zG st) (qF st) .none kV doc pm an cdv ct),osl⟩) (c:Jp K cdv qual=Vq) (n:Tg K (.ref f)=Vq) (k:Da K (.ref f)=Vq):ug K C m qual st
def yo (m:Ah)(st:Du)(ps:Y0):Prop:=∀ (q:Ah) (kV Y U:Ac) (N:Al Af) (J G:Ac) (Q:Y8),Q.length=ps.length->Tw (Fp m q (xW st) (zG st) (qF st) .none kV Y U N J G) ⟨Q,[]⟩=pure (ps.zip Q)
def sN {K:Ag}{st:Du}(h:ug K C m au st)(B:yo m st ps):KJ K C m au st ps:=by obtain⟨a,l,c,n,k⟩:=h;have F:=nY (st:=st) l c k;exact⟨_,_,⟨a,n,k⟩,F,F.binds (B _)⟩
def L4 {K:Ag}{st:Du}{fs:Y0}(h:ug K C "__init__" au st)(D:yj K C fs)(B:yo "__init__" st ps):KG K C au st ps:=by obtain⟨a,l,c,n,k⟩:=h;have F:=nY (st:=st) l c k;exact⟨_,_,⟨D.mks,a,n,D.kp⟩,F,F.binds (B _)⟩
structure MDfS (F:DF)(P:Ba)(w:Bu)(K:Ag)(mg:J8)(base:Bb)(cm:Ar)(k:Aj)(C:Af)(m:Ah)(n:Aj):Prop where
 get:XW P w K mg base cm k C m n F
structure MIfS (F:DF)(P:Ba)(w:Bu)(K:Ag)(mg:J8)(base:Bb)(k:Aj)(C:Af):Prop where
 get:KH P w K mg base k C F
structure DkK (K:Ag)(C:Af):Prop where
 get:ub K C
section
variable {P:Ba}{w:Bu}{K:Ag}{mg:J8}{base:Bb}{cm:Ar}{C:Af}
def mq {st:Du}{i:Aj}{F:DF}(k:Aj)(h:KJ K C M au st ps)(Y:Ck (xc (vI (qF st)) ps (qF st)&&decide ((vI (qF st)).length=i)))(N:F=qL i g)
  (G:∀ (f:Af) (Q:Ac) (A:Bn) (J:Ab Hg) (s:Ai) (H:Hp) (E:XK),RoomC cm k (A.deeper (Fu au (qF st) s.heap.objs.size f Q)) ->
   QB (jt cm P w K mg base (vI (qF st)) au (qF st) f Q A J s H E) (zG st) g):MDfS F P w K mg base cm (k+1) C M ps.length:=by
 unfold Ck at Y;simp only[Av,Az] at Y;obtain⟨Y,rfl⟩:=Y;exact⟨N▸LP h (fH Y) λf Q A J s H E U=>(G f Q A J s H E U).1⟩
def iq {st:Du}{x:Ah}{i:Aj}{F:DF}(k:Aj)(h:KG K C au st [x])(Y:Ck (xc (vI (qF st)) [x] (qF st)&&decide ((vI (qF st)).length=i)))(N:F=qL i g)
  (G:∀ (f:Af) (Q:Ac) (A:Bn) (J:Ab Hg) (s:Ai) (H:Hp) (E:XK),RoomC Vq k (A.deeper (Fu au (qF st) s.heap.objs.size f Q)) ->
   QB (jt Vq P w K mg base (vI (qF st)) au (qF st) f Q A J s H E) (zG st) g):MIfS F P w K mg base (k+1) C:=by
 unfold Ck at Y;simp only[Av,Az] at Y;obtain⟨Y,rfl⟩:=Y;exact⟨N▸LQ h (fH Y) λf Q A J s H E U=>(G f Q A J s H E U).1⟩
end
section
variable {X:Cx}{e o cq:Bl}{es:Ab Bl}{fe fo fv:DE}{fA:DA}{C a:Af}{f m x:Ah}{p ai jp cy:Eb}{F:DF}{cm:Ar}{k n:Aj}{T:Ab (Ah × D)}{z:Ah}
def qCy (c:DkK X.K C)(nf:vS X.K C f)(Q:QE X e fe)(Y:Fz e f X.env (eval e X.env)=eval e X.env):QE X (.Attribute e f ai) (d1 (y8 C f) fe):=⟨EI c.1 nf Q.1 Y⟩
def qDF (c:DkK X.K C)(nf:vS X.K C f)(Q:QE X o fo)(hv:QE X cq fv)(hs:Ly cq (Aa (.Attribute o f jp)) ai.line X.env=pure Yp):QS X (.Assign [.Attribute o f jp] cq ai) (lV C f fo fv):=⟨HD c.1 nf Q.1 hv.1 hs⟩
def iMt {pl:Kk Ar}(c:DkK X.K C)(M:MDfS F X.prog X.w X.K X.mg X.base cm k C m n)(Q:RoomC cm k X.A)(U:Fn1 X)(J:QE X o fo)(G:QA X (e::es) fA)(s:St1 X e es ai)
  (Y:eval (.Call (.Attribute o m cy) (e::es) [] ai) X.env=(do
   let ov <- eval o X.env
   Lx cy.atName
   let (f,first) <- holding [ov] (Rc ov m pl)
   Uk ai f first (Eu ai (Bc (e::es) X.env)) (Uc ai (Od [] X.env)))):QE X (.Call (.Attribute o m cy) (e::es) [] ai) (xF C m n F fo fA):=⟨TU c.1 M.1 Q U J.1 G.1 s.1 s.2 Y⟩
def qEG {pl:Kk Ar}(c:DkK X.K C)(M:MDfS F X.prog X.w X.K X.mg X.base cm k C m n)(Y:RoomC cm k X.A)(J:Fn1 X)(Q:QE X o fo)
  (U:eval (.Call (.Attribute o m cy) [] [] ai) X.env=(do
   let ov <- eval o X.env
   Lx cy.atName
   let (f,first) <- holding [ov] (Rc ov m pl)
   Uk ai f first (Eu ai (Bc [] X.env)) (Uc ai (Od [] X.env)))):QE X (.Call (.Attribute o m cy) [] [] ai) (xF C m n F fo qC):=⟨GD c.1 M.1 Y J Q.1 U⟩
def iMk (M:MIfS F X.prog X.w X.K X.mg X.base k C)(Q:RoomC Vq (k+1) X.A)(h:Ck (oj X x))(hm:X.mg x=Aa (.ref C)/\Da X.K (.ref C)=Vq):QE X (.Call (.Name x p) [] [] ai) (kN C F):=
 have h:=xB h
 ⟨GC M.1 Q h.1 hm.1 h.2.1⟩
def iTi (h:Ck (oj X x))(t:∃ a,X.mg x=Aa (.ref a)/\vV X.K a T)(Q:QE X e fe):QE X (.Compare e [.In] [.Name x p] ai) (d1 (yG Yp T) fe):=
 have h:=xB h;let ⟨_,t⟩:=t
 ⟨EU t.2 h.1 t.1 Q.1 h.2.1⟩
def iTx (h:Ck (oj X x))(t:∃ a,X.mg x=Aa (.ref a)/\vV X.K a T)(Q:QE X e fe)(hs:gJ e):QE X (.Subscript (.Name x p) e ai) (d1 (yU T) fe):=
 have h:=xB h;let ⟨_,t⟩:=t
 ⟨EV t.2 h.1 t.1 Q.1 hs h.2.1⟩
def iGs (h:Ck (oj X x))(t:∃ t,X.mg x=Aa (.str z t)):QE X (.Name x p) (dC (.str z)):=
 have h:=xB h
 ⟨TN h.1 t h.2.1⟩
def iGt (h:Ck (oj X x))(t:∃ a,X.mg x=Aa (.ref a)/\∀ P J,am X.K P J (.tup ds) (.ref a)):QE X (.Name x p) (dC (.tup ds)):=
 have h:=xB h;let ⟨a,t⟩:=t
 ⟨mJ h.1 t.1 (v:=.ref a) Z t.2 h.2.1⟩
def iXv {Q:Bl}(O:X.calm=Vq)(J:RoomC cm 2 X.A)(U:Fn1 X)(h:Ck (oj X x))(G:FcOk X.K X.mg x C ns)(N:QA X (Q::aq) fA)(s:St1 X Q aq Y):QE X (.Call (.Name x p) (Q::aq) [] Y) (aJ (.ref C) ns fA):=
 have h:=xB h
 ⟨EH O J U h.1 G N.1 h.2.1 s.1 s.2⟩
end
end _D
namespace _D
open _L _H
open PySem.Builtin PyProof.Rows.KTD
section
variable {X:Cx}{e:Bl}{fe:DE}{x:Ah}{p ai:Eb}{a:Af}{T:Ab (Ah × _D.D)}
def HN (t:vV X.K a T)(y:Gl X x)(hm:X.mg x=Aa (.ref a))(j:PE X e (tD X fe))(O:(x == ("__debug__" : Ah))=false:=by decide):PT X (.Compare e [.In] [.Name x p] ai) (oi X (bh (d1 (yG Yp T) fe))):=by
 intro g s Y H Q I h;obtain⟨P,J,B,S,r,u,z⟩:=h;have C:qK X P J ((fe B S).bind λd U=>(yG Yp T d U).bind λd U=>uE (xP d U) U) (xh X P J Q):=by have N:qK X P J (((fe B S).bind λd U=>yG Yp T d U).bind λd U=>uE (xP d U) U) (xh X P J Q):=z;cases q:fe B S <;> rw[q] at N <;> exact N
 refine Ob (bi (zK j I r u C) λl A ⟨v,w,M,o,d,U,G1,G⟩=>wA G1.inv y hm ?_ O) (by with_unfolding_all rfl);cases d with
 |str k =>
  have L:=G1.rep;simp only[am] at L;subst L;obtain⟨E,rfl⟩:=G1.val;show Ap _ _ (do return Fb (<- contains (.ref a) (.str k E))) _ _ A;exact Ad (rC (t.at G1.inv.kIn) (An (cL (d:=.bl (inKeys k T)) (v:=.bl (inKeys k T)) (G1.inv.tok _) G1.rel Z (by simp only[am]) Z (G w M o G1.rel G1.same G1.pre))))
 |_=>exact Am G
def N9 (t:vV X.K a T)(y:Gl X x)(hm:X.mg x=Aa (.ref a))(j:PE X e (tD X fe))(O:(x == ("__debug__" : Ah))=false:=by decide):PT X (.Compare e [.NotIn] [.Name x p] ai) (oi X (bh (d1 (yG Vq T) fe))):=by
 intro g s Y H Q I h;obtain⟨P,J,B,S,r,u,z⟩:=h;have C:qK X P J ((fe B S).bind λd U=>(yG Vq T d U).bind λd U=>uE (xP d U) U) (xh X P J Q):=by have N:qK X P J (((fe B S).bind λd U=>yG Vq T d U).bind λd U=>uE (xP d U) U) (xh X P J Q):=z;cases q:fe B S <;> rw[q] at N <;> exact N
 refine Ob (bi (zK j I r u C) λl A ⟨v,w,M,o,d,U,G1,G⟩=>wA G1.inv y hm ?_ O) (by with_unfolding_all rfl);cases d with
 |str k =>
  have L:=G1.rep;simp only[am] at L;subst L;obtain⟨E,rfl⟩:=G1.val;show Ap _ _ (do return Fb (!(<- contains (.ref a) (.str k E)))) _ _ A;exact Ad (rC (t.at G1.inv.kIn) (An (cL (d:=.bl (!inKeys k T)) (v:=.bl (!inKeys k T)) (G1.inv.tok _) G1.rel Z (by simp only[am]) Z (G w M o G1.rel G1.same G1.pre))))
 |_=>exact Am G
end
section
variable {X:Cx}{e:Bl}{fe:DE}{x:Ah}{p ai:Eb}{T:Ab (Ah × _D.D)}
def jTi (h:Ck (oj X x))(t:∃ a,X.mg x=Aa (.ref a)/\vV X.K a T)(Q:QE X e fe):QT X (.Compare e [.In] [.Name x p] ai) (bh (d1 (yG Yp T) fe)):=
 have h:=xB h;let ⟨_,t⟩:=t
 ⟨HN t.2 h.1 t.1 Q.1 h.2.1⟩
def jTn (h:Ck (oj X x))(t:∃ a,X.mg x=Aa (.ref a)/\vV X.K a T)(Q:QE X e fe):QT X (.Compare e [.NotIn] [.Name x p] ai) (bh (d1 (yG Vq T) fe)):=
 have h:=xB h;let ⟨_,t⟩:=t
 ⟨N9 t.2 h.1 t.1 Q.1 h.2.1⟩
end
end _D
namespace _D
open _L _H
open PySem.Builtin PyProof.Rows.KTD
variable {K:Ag}{x:Ah}{mg:J8}{h:Bb}
noncomputable def KY (K:Ag):_D.D->Ac->Ar
 |.str z,.str y _=>decide (y=z)
 |.obj f,.ref g=>decide (g=f)&&Da K (.ref f)
 |_,_=>Yp
noncomputable def mF (K:Ag):Ab Yl->Ab (Ah × _D.D)->Ar
 |[],[]=>Vq
 |e::Q,(x,d)::T=>(match e.key with|.str y _=>decide (y=x)|_=>Yp)&&(KY K d e.val&&mF K Q T)
 |_,_=>Yp
def TF (h:KY K d v=Vq):nN K d v:=by
 unfold KY at h;split at h
 .exact .inl ⟨_,_,Z,by rw[Bg h]⟩
 .rw[Av] at h;have e:=Bg h.1;exact .inr ⟨_,Z,by rw[e],h.2⟩
 .cases h
theorem nU:∀ (es:Ab Yl) (T:Ab (Ah × _D.D)),mF K es T=Vq->Rows (nN K) es T
 |[],[],_=>.nil
 |e::es,(x,d)::T,h=>by
  unfold mF at h;rw[Av,Av] at h;obtain⟨Q,J,G⟩:=h;cases Y:e.key with
  |str y t =>
   rw[Y] at Q;have U:=Bg Q;exact .cons (t:=t) (by rw[Y,U]) (TF J) (nU es T G)
  |_=>rw[Y] at Q;cases Q
 |[],_::_,h=>by cases h
 |_::_,[],h=>by cases h
def GZ {a:Af}{es:Br Yl}{Y:Aj}{T:Ab (Ah × _D.D)}(Q:K.In h)(G:h.Ns Bi mg)
  (q:Bp K Bi x=Aa (Aa (.ref a))) (l:K.lookup a=Aa ⟨.type "dict",Zt,.dict es Y,#[]⟩) (n:(a == Pj)=Yp) (r:mF K es.toList T=Vq):∃ a,mg x=Aa (.ref a)/\vV K a T:=
 ⟨a,Kw Q G q,n,_,_,_,l,⟨Z,Z,Z⟩,Z,nU _ _ r⟩
def qBi (Q:K.In h)(G:h.Ns Bi mg)(q:Bp K Bi x=Aa (Aa (.str z t))):∃ t,mg x=Aa (.str z t):=⟨t,Kw Q G q⟩
def qBj {a b:Af}{i j:Aq}{s t:Ms}{N U:Al Af}{n B:Aj}{Y Q:Br (Al Ac)}(O:K.In h)(G:h.Ns Bi mg)
  (q:Bp K Bi x=Aa (Aa (.ref a))) (l:K.lookup a=Aa ⟨.type "tuple",N,.seq #[.ref b] n,Y⟩) (C:K.lookup b=Aa ⟨.type "tuple",U,.seq #[.int i s,.int j t] B,Q⟩) :
  ∃ a,mg x=Aa (.ref a)/\∀ P J,am K P J (.tup [.tup [.int i,.int j]]) (.ref a):=
 ⟨a,Kw O G q,λP J => by
  refine o9 (ah:=[.ref b]) (vs:=[.ref b]) ⟨_,_,l,Z,Z,(by show 1<=1000;fin2)⟩ (.cons Z .nil) ?_;have r:am K P J (.tup [.int i,.int j]) (.ref b):=o9 (ah:=[.int i s,.int j t]) (vs:=[.int i,.int j]) ⟨_,_,C,Z,Z,(by show 2<=1000;fin2)⟩ (.cons ⟨_,Z⟩ (.cons ⟨_,Z⟩ .nil)) ⟨_,_,Z,(by simp only[am]),_,_,Z,(by simp only[am]),Z⟩;exact⟨_,_,Z,r,Z⟩⟩
end _D
namespace _D
open _L
variable {J:J9}{ao:Ab D}{c u:Ac}{E:J7}{s:Ai}{o o':Al (Aj × MO)}{H P:Hp}{R RR:ax (qG × Ab D)}{S:ag}{ac:qG}
def io (o:Al (Aj × MO))(g:DG)(t:DT)(k:DK):Ab D->DK
 |[],ac,S,ao=>if nG o S then .ok (ac,ao) S else .bad
 |d::U,ac,S,ao=>if nG o S then (match g d ac S with
   |.ok Q N=>(match t Q N with
    |.ok b Y=>if b then (k Q Y ao).bind λp G=>io o g t k U p.1 G p.2 else io o g t k U Q Y ao
    |_=>.bad)
   |_=>.bad) else .bad
inductive _a (o:Al (Aj × MO))(g:DG)(t:DT)(k:DK)(d:D)(ds acc:Ab D)(env:qG)(S:ag)(R:ax (qG × Ab D)):Prop
 |no (env1:qG) (S1 S2:ag) (z:ou o S) (q1:g d env S=.ok env1 S1) (q2:t env1 S1=.ok Yp S2) (r:io o g t k ds env1 S2 acc=R):_a o g t k d ds acc env S R
 |yes (env1:qG) (S1 S2:ag) (env5:qG) (ds5:Ab D) (S5:ag) (z:ou o S) (q1:g d env S=.ok env1 S1) (q2:t env1 S1=.ok Vq S2) (q3:k env1 S2 acc=.ok (env5,ds5) S5) (r:io o g t k ds env5 S5 ds5=R):_a o g t k d ds acc env S R
 |fl (env1:qG) (S1 S2:ag) (c:Ac) (x:D) (S5:ag) (z:ou o S) (q1:g d env S=.ok env1 S1) (q2:t env1 S1=.ok Vq S2) (q3:k env1 S2 acc=.ex c x S5) (r:R=.ex c x S5):_a o g t k d ds acc env S R
set_option tactic.hygienic true in
def GY {d:D}{ds:Ab D}(G:R≠.bad)(h:io o g t k (d::ds) ac S ao=R):_a o g t k d ds ao ac S R:=by
 simp only[io] at h;split at h
 .rename_i z;have z:=yK.mp z;cases U:g d ac S with
  |bad=>rw[U] at h;exact absurd h.symm G
  |ex c x T=>rw[U] at h;exact absurd h.symm G
  |ok Q B =>
   rw[U] at h;dsimp only at h;cases Y:t Q B with
   |bad=>rw[Y] at h;exact absurd h.symm G
   |ex c x T=>rw[Y] at h;exact absurd h.symm G
   |ok b C =>
    rw[Y] at h;cases b with
    |false=>exact .no Q B C z U Y h
    |true =>
     dsimp only at h;rw[Au rfl] at h;cases O:k Q C ao with
     |bad=>rw[O] at h;exact absurd h.symm G
     |ex c x T=>rw[O] at h;exact .fl Q B C c x T z U Y O h.symm
     |ok p I =>
      obtain⟨N,L⟩:=p;rw[O] at h;exact .yes Q B C N L I z U Y O h
 .exact absurd h.symm G
set_option tactic.hygienic true in
def NU (Q:R≠.bad)(h:io o g t k [] ac S ao=R):ou o S/\R=.ok (ac,ao) S:=by
 simp only[io] at h;split at h
 .rename_i z;exact⟨yK.mp z,h.symm⟩
 .exact absurd h.symm Q
def xz (az:Cx)(P1:Hp)(J1:J9){β : Type}(R:ax β) : Prop:=∀ c x S,R=.ex c x S->∀ u Q,p_ az P1 J1 c x S u Q->az.xe u Q
def yb (B:Acc)(az:Cx)(step:Ac->Kk Nq)(k:DK):Prop:=
 ∀ (N:J0) (G:Hp) (O:J9) (ao:Af) (ac:qG) (S:ag) (U:Ab D) (s:Ai),(∀ H:Hp,H ao=Zt->xJ az N H ao)->FP B az N G O ao ac S U s->k ac S U≠.bad->xz az G O (k ac S U) ->
  Ap (As az.prog az.w) az.A (step (.ref ao)) (λ_ L=>∃ Q Y C,k ac S U=.ok (Q,Y) C/\FP B az N G O ao Q C Y L) az.xe s
inductive _y (B:Acc)(Yww:Cx)(pins:J0)(P1:Hp)(J1:J9)(fp:J9)(acc:Af)(tn:Aj->Bb->Prop)(G:Ab D->DK)(items:Ab D)(R:ax (qG × Ab D))(n:Aj)(s:Ai):Prop
 |mk (i:Aj) (Y : _L.St) (H P:Hp) (J : Ab Af) (o:Cd) (env:qG) (S:ag) (ds:Ab D) (hn:n=items.length-i) (hi:i<=items.length) (st:gb B Yww pins P1 J1 fp acc env S ds s Y H P J o) (st1:tn i s.heap) (run:G (items.drop i) env S ds=R):_y B Yww pins P1 J1 fp acc tn G items R n s
section
variable {B:Acc}{az:Cx}{dn tg iter:Bl}{e_:Ab Bl}{bp:Ab Dz}{ae:Ez}{ai:Eb}{k:Aj}{g:DG}{t:DT}{fe:DE}{it ao:Af}{fp:J9}{ci:It}{tn:Aj->Bb->Prop}{items:Ab D}{P1:Hp}{J1:J9}{aa:J0}
def W8 {kk:DK}{Qa Qd:Ai->Prop}{Y:_L.St}{ds:Ab D}{o:Cd}{i:Aj}(hc:az.calm=Vq)(hb:RR≠.bad)(hx:xz az P1 J1 RR)
  (T:n_ az.prog az.w az.K tg ci fp it tn) (zc:pc az.K ci P1 J1 o' items) (hg:PG az tg (rq az g)) (ht:ut az e_ t) (he:yb B az (λao=>w4 B.m dn bp ae ai k ao az.env) kk) (e:∀ H:Hp,H ao=Zt->xJ az aa H ao) (yn:∀ H:Hp,(∀ b∈fp,H b=Zt)->∀ b∈fp,xJ az aa H b) (z2:ao ∉ fp)
  (hi:i<=items.length) (st:gb B az aa P1 J1 fp ao ac S ds s Y H P J o) (zs:tn i s.heap) (run:io o' g t kk (items.drop i) ac S ds=RR)
  (hA:∀ s' Y' H' P' J' o1 Q S' z3,i<items.length->gb B az aa P1 J1 fp ao Q S' z3 s' Y' H' P' J' o1->tn (i+1) s'.heap->io o' g t kk (items.drop (i+1)) Q S' z3=RR->Qa s')
  (hD:∀ s' Y' H' P' J' o' n z1 SF,RR=.ok (n,z1) SF->gb B az aa P1 J1 fp ao n SF z1 s' Y' H' P' J' o'->Qd s') :
  Ap (As az.prog az.w) az.A (Pd (.ref it)) (λr s1=>(r=Zt->Qd s1)/\∀ v,r=Aa v->Ap (As az.prog az.w) az.A (Kl tg (.ref it) v) (λ_ s2=>Ap (As az.prog az.w) az.A (assign tg az.env v) (λ_ s3=>Ap (As az.prog az.w) az.A (kG e_ az.env) (λb s4=>(b=Yp->Qa s4)/\(b=Vq->Ap (As az.prog az.w) az.A (w4 B.m dn bp ae ai k (.ref ao) az.env) (λ_ w=>Qa w) az.xe s4)) az.xe s3) az.xe s2) az.xe s1) az.xe s:=by
 have I1:=_D.Inv.pin1 st.inv (e H st.acn) st.at' (B.cell st.acc);have zn:=NR yn z2 o;by_cases I:i<items.length
 .have z8:items.drop i=items[i]::items.drop (i+1):=Rl I;rw[z8] at run;have run:=GY hb run;have z4:ou o' S:=by cases run with|no _ _ _ z=>exact z|yes _ _ _ _ _ _ z=>exact z|fl _ _ _ _ _ _ z=>exact z
  refine FA (T.item az rfl rfl rfl hc i _ s Y H (λ_ _=>Fv) I1 (zn H st.fpn) zs (zc.go i H P J S I st.rel z4 st.same st.pre)) λr s1 ⟨u,hr,h1⟩=>⟨λz=>(by rw[hr] at z;cases z),λv hv=>?_⟩
  obtain rfl:v=u:=Cw (hv.symm.trans hr);refine FA h1 λ_ s2 ⟨x,H2,I2,rx,y,j,ys⟩=>?_;obtain⟨P2,d,hd,r2,e2,rp⟩:=zc.yld i H x H2 P J S I st.rel z4 st.same st.pre y;cases (Bd I).symm.trans hd;have pl:=T.obj _ _ j;have yv:=I2.pinned (zn _ ys) pl;have zl:∀ Q f b G,g items[i] ac S=.ok Q f->t Q f=.ok b G->(∀ s4 C O L A (M:Inv az (aa++v7 fp s2.heap) C O s4),gb B az aa P1 J1 fp ao Q G ds s4 C O L A o->tn (i+1) s4.heap->(b=Yp->Qa s4)/\(b=Vq->Ap (As az.prog az.w) az.A (w4 B.m dn bp ae ai k (.ref ao) az.env) (λ_ w=>Qa w) az.xe s4))->Ap (As az.prog az.w) az.A (assign tg az.env v) (λ_ s3=>Ap (As az.prog az.w) az.A (kG e_ az.env) (λb s4=>(b=Yp->Qa s4)/\(b=Vq->Ap (As az.prog az.w) az.A (w4 B.m dn bp ae ai k (.ref ao) az.env) (λ_ w=>Qa w) az.xe s4)) az.xe s3) az.xe s2:=by intro Q f b G q1 q2 next;refine bi (qBw hg yv r2 (st.env.mono e2 (Bt _)) rx rp q1) λ_ s3 ⟨C,H3,P3,J3,I3,r3,z7,e3,z6⟩=>?_;refine bi (qA3 ht I3 r3 z7 q2) λb' s4 ⟨hb,O,L,A,M,r4,y1,e4,z5⟩=>?_;have m:Inv az (aa++v7 fp s2.heap) C O s4:=M.pins_of λp hp=>M.pin p (Ce _ ((Cg.mp hp).elim (λz=>Ds _ (Ds _ z)) λz=>Ce _ z));have a4:=M.pin (ao,o) (Ce _ (Ds _ (Ce _ (Cc.mpr rfl))));rw[hb];exact next s4 C O L A m ⟨m.unpinned,r4,y1,((st.same.trans e2).trans e3).trans e4,(st.pre.trans z6).trans z5,(g9 T j pl m).2,a4.2.1,a4.1,B.mono ((e2.trans e3).trans e4) (z6.trans z5) st.acc⟩ (g9 T j pl m).1
  have step:∀ Q G s4 C O L A (M:Inv az (aa++v7 fp s2.heap) C O s4),gb B az aa P1 J1 fp ao Q G ds s4 C O L A o->kk Q G ds≠.bad->xz az P1 J1 (kk Q G ds)->(∀ N q S5,kk Q G ds=.ok (N,q) S5->io o' g t kk (items.drop (i+1)) N S5 q=RR)->Ap (As az.prog az.w) az.A (w4 B.m dn bp ae ai k (.ref ao) az.env) (λ_ w=>Qa w) az.xe s4:=by intro Q G s4 C O L A M U n1 n2 n3;refine bi (he (aa++v7 fp s2.heap) P1 J1 ao Q G ds s4 (λH hn=>VX (e H hn) z2) ⟨C,O,L,A,o,M,U.rel,U.env,U.same,U.pre,λb hb=>(by cases hb),U.acn,U.at',U.acc⟩ n1 n2) λ_ w ⟨N,q,S5,q5,Y5,H5,P5,J5,o5,l⟩=>?_;exact hA w Y5 H5 P5 J5 o5 N S5 q I ⟨l.inv.unpinned,l.rel,l.env,l.same,l.pre,(g9 T j pl l.inv).2,l.acn,l.at',l.acc⟩ (g9 T j pl l.inv).1 (n3 _ _ _ q5)
  cases run with
  |no Q f G _ q1 q2 run=>exact zl Q f Yp G q1 q2 λs4 C O L A M U zo=>⟨λ_=>hA s4 C O L A o Q G ds I U zo run,λz=>(by cases z)⟩
  |yes Q f G N q S5 _ q1 q2 h run =>
   refine zl Q f Vq G q1 q2 λs4 C O L A M U zo=>⟨λz=>(by cases z),λ_=>step Q G s4 C O L A M U (by rw[h];intro z;cases z) (λc x S z=>by rw[h] at z;cases z) λe5 d5 w z=>?_⟩
   rw[h] at z;cases z;exact run
  |fl Q f G c x S5 _ q1 q2 h run =>
   refine zl Q f Vq G q1 q2 λs4 C O L A M U zo=>⟨λz=>(by cases z),λ_=>step Q G s4 C O L A M U (by rw[h];intro z;cases z) (by rw[h,<- run];exact hx) λe5 d5 w z=>?_⟩
   rw[h] at z;cases z
 .rw[TD li] at run;obtain⟨z,hR⟩:=NU hb run;refine FA (T.done az rfl rfl rfl hc i _ s Y H (λ_ _=>Fv) I1 (zn H st.fpn) zs (zc.stop i H P J _ li st.rel z st.same st.pre)) λr s1 ⟨hr,I2⟩=>⟨λ_=>?_,λv hv=>(by rw[hr] at hv;cases hv)⟩
  have a:=_D.Inv.pinned1 I2;exact hD s1 Y H P J o _ _ _ hR ⟨I2.unpinned,st.rel,st.env,st.same,st.pre,st.fpn,a.2,a.1,st.acc⟩
def W7 {kk:DK}{R:Qs->Ai->Prop}{Y:_L.St}{G:Ab D}{o:Cd}(hc:az.calm=Vq)(hb:RR≠.bad)(a:xz az P1 J1 RR)(v:bp[k]? = Aa ⟨tg,iter,e_,0⟩)(has:∀ g',bp[k+1]? = Aa g'->g'.is_async=0)
  (T:n_ az.prog az.w az.K tg ci fp it tn) (f:pc az.K ci P1 J1 o' items) (hg:PG az tg (rq az g)) (ht:ut az e_ t) (he:yb B az (λao=>w4 B.m dn bp ae ai k ao az.env) kk) (L:∀ H:Hp,H ao=Zt->xJ az aa H ao) (p:∀ H:Hp,(∀ b∈fp,H b=Zt)->∀ b∈fp,xJ az aa H b) (j:ao ∉ fp)
  (st:gb B az aa P1 J1 fp ao ac S G s Y H P J o) (A:tn 0 s.heap) (run:io o' g t kk items ac S G=RR)
  (hR:∀ s' w H' r z o' Q O e,RR=.ok (Q,O) e->gb B az aa P1 J1 fp ao Q e O s' w H' r z o'->R (.ok .next) s')
  (hE:∀ u s',az.xe u s'->Ap (As az.prog az.w) az.A (Kb u az.env) (λ_ U=>R (.error u) U) (λx U=>R (.error x) U) s') :
  Gn (As az.prog az.w) az.A (.compLoop (wF B.m dn bp ae ai) k (.ref it) (.ref ao) az.env) R s:=by
 refine codeAny_loop rfl (_y B az aa P1 J1 fp ao tn (io o' g t kk) items RR) (λn s hI=>?_) items.length ⟨0,Y,H,P,J,o,ac,S,G,rfl,Fi _,st,A,run⟩;obtain⟨i,Y,H,P,J,o,ac,S,ds,hn,hi,st,M,run⟩:=hI;subst hn;rw[PV,PX];refine wpAny_noted (Fm (R4 (m:=B.m) (E:=az.xe) v has (Qa:=λs'=>∃ m,m<items.length-i/\_y B az aa P1 J1 fp ao tn (io o' g t kk) items RR m s') (Qd:=R (.ok .next)) (λ_ h=>⟨rfl,h⟩) (λ_ h=>h) ?_) (λ_ _ q=>q) λu s' q=>hE u s' q);exact W8 hc hb a T f hg ht he L p j hi st M run (λs' w H' r z o1 I S' l C d y N=>⟨_,Nat.sub_succ_lt_self _ _ C,i+1,w,H',r,z,o1,I,S',l,rfl,C,d,y,N⟩) hR
def BE (I:bp[k+1]? = Zt)(he:PE az dn (tD az fe)):yb nz az (λao=>w4 Yp dn bp ae ai k ao az.env) (qX fe):=by
 intro aa P1 J1 ao ac S Q s T ⟨Y,H,P,J,o,st⟩ M hx;show Ap _ _ (w4 Yp dn bp ae ai k (.ref ao) az.env) _ _ s;unfold w4;rw[I];dsimp only[_o];have fA:=T H st.acn;have I1:=_D.Inv.pin1 st.inv fA st.at' (nz.cell st.acc);have af:qK az P J ((fe ac S).bind λx y=>if Q.length<bb then ax.ok (ac,Q++[x]) y else .bad) λp N=>qX fe ac S Q=.ok p N:=by
  have d:∀ c x N,qX fe ac S Q=.ex c x N->∀ u r,p_ az P J c x N u r->az.xe u r:=λc x N z u r q=>hx c x N z u r (q.base st.same st.pre);unfold qX at M d ⊢;cases q:(fe ac S).bind λx y=>if Q.length<bb then ax.ok (ac,Q++[x]) y else .bad with
  |bad=>exact absurd q M
  |ex c x N=>exact d c x N q
  |ok p N=>rfl
 refine Ad (bi (zK (g:=λx y=>if Q.length<bb then ax.ok (ac,Q++[x]) y else .bad) (Ok:=λp N=>qX fe ac S Q=.ok p N) he I1 st.rel st.env af) λm f ⟨v5,a,P5,J5,d5,S5,O,A⟩=>?_);by_cases L:Q.length<bb
 .rw[Au L] at A;have A:qX fe ac S Q=.ok (ac,Q++[d5]) S5:=A;have ci:=_D.Inv.pinned1 O.inv;have w:=O.inv.unpinned;obtain⟨G,U⟩:=ci;obtain⟨i,n5,h,ho,l,j,hz⟩:=st.acc;subst ho;have n:h.length=Q.length:=j.length.symm;have zc:=l.length;refine Ad (Jv Wx ⟨_,G,rfl⟩ Vz (Vk _ _) (Xw ao i.toArray n5 m (by rw[Bf];rw[<- zM];lia)) ⟨G,?_⟩);have q:=Zc G (·.push m);have C:=T a U;have v:∀ b o,b≠ao->f.heap.get? b=Aa o->(f.heap.update ao (Ey (·.push m))).get? b=Aa o:=λb o M e=>(Ci f.heap _ (Di M)).trans e;have I6:=w.turned (t':=f.toks) v U C.2.1 C.2.2.2.1 C.2.2.2.2.1 C.2.2.2.2.2;refine An ⟨_,_,_,A,Y,a,P5,J5,_,I6,O.rel,O.env,st.same.trans O.same,st.pre.trans O.pre,λb M=>(by simp at M),U,q,?_⟩;refine⟨i++[m],_,h++[v5],by simp <;> rfl,l.append (.cons O.val .nil),?_,by simp;lia⟩;exact(qJ.mono O.same O.pre _ _ j).append (.cons O.rep .nil)
 .rw[AT L] at A;exact Am A
end
abbrev zS (X:Cx)(U:Y0)(ae:Ez)(N:Ab (Ah × Af))(C:Af)(G:J9)(Y:Ai)(Q:Hp)(E:J7):Cx:={ yY X U ae N C G Y Q with xe:=E }
def Inv.xeTo {X:Cx}{E:J7}(I:Inv X aa Y H s):Inv { X with xe:=E } aa Y H s:=Inv.re I X.A X.calm E I.ok.frames I.ok.hd
def Inv.xeOf {X:Cx}{E:J7}{aa:J0}{H:Hp}{s:Ai}(I:Inv { X with xe:=E } aa Y H s):Inv X aa Y H s:=Inv.unre (A:=X.A) (cm:=X.calm) (E:=E) I I.ok.frames I.ok.hd
theorem p_.xeOf {X:Cx}{E:J7}{P:Hp}{J:J9}{c:Ac}{S:ag}{u:Ac}{s:Ai}(h:p_ { X with xe:=E } P J c x S u s):p_ X P J c x S u s:=by
 obtain⟨e,q,Y,H,p,M,N,I,r,O,G,w,Q,T⟩:=h;refine⟨e,q,Y,H,p,M,N,Inv.xeOf I,r,O,G,w,?_,T⟩;cases Q with
 |new L t y z U k A j=>exact .new L t y z U k A j
 |fly B v Q C=>exact .fly B v Q C
theorem UU {en Q:Hg}(h:Q.frame=en.frame):Kb e Q=Kb e en:=by unfold Kb PySem.frameOf;rw[h]
section
variable {X:Cx}{ae:Ez}{N':Y0}{aa:J0}{Y: _L.St}{H2 P1:Hp}{J1:J9}{s2:Ai}{fp:J9}{C:Af}{cl:Ab (Ah × Af)}
def DB (T:Inv X aa Y H2 s2)(F:Fn1 X)(L:∀ b∈fp,xJ X aa H2 b)(h:p_ (yY X N' ae cl C fp s2 H2) P1 J1 c x d u s') :
  ∃ e H' O G dd,u=.ref e/\Inv X aa Y H' s'/\bf X.K H' O G d/\qP P1 O/\J1<+:G/\kx X aa H' c dd e s'.heap/\yf X.K O G c x dd/\H' C=Zt/\∃ m,s'.heap.Ns C m:=by
 obtain⟨e,Q,Y',H',O,G,rfl,I,r,q1,a,dd,M,ln⟩:=h;have un:Un (gv X.stack) fp H2 H' s2.heap s'.heap:=I.base;have ci:Inv X aa Y H' s':=T.call' (ch:=fp) I.os un I.hok I.bare λb hb=>by obtain⟨_,i,h2,h3,w,j⟩:=L b hb;exact⟨h3,i,w,j⟩
 have N:∀ b,pe X aa H' b->pe (yY X N' ae cl C fp s2 H2) Q H' b:=λb o=>by
  rcases o with⟨o,z,g⟩|z|⟨p,f,rfl⟩|⟨y,z⟩
  .have l:b ∉ fp:=λU=>by
    obtain⟨_,_,_,h3,_⟩:=L b U;rcases h3 with h3|h3
    .exact g h3
    .exact absurd (Bh z) (Lz.mpr h3)
   obtain⟨o',z'⟩:=T.base.there b o z g;exact .inl ⟨o',z',l⟩
  .exact .inr (.inl z)
  .refine .inl ⟨_,(T.pin p f).1,λU=>?_⟩;obtain⟨_,_,_,_,_,j⟩:=L _ U;exact j p f rfl
  .obtain⟨v,A,ho,_⟩:=T.cell y b z;refine .inl ⟨A,ho,λU=>?_⟩;obtain⟨_,_,_,_,w,_⟩:=L _ U;exact w y b z rfl
 obtain⟨m,U,_⟩:=I.loc;refine⟨e,H',O,G,dd,rfl,ci,r,q1,a,?_,ln,I.free,m,U⟩;cases M with
 |new A t he hc k hd no l=>exact .new A t he hc k hd (λz=>no (N e z)) l
 |fly B v M cv=>exact .fly B v M λb o z q n=>cv b o z (N b q) n
def NV {en:Hg}(I2:Inv X aa Y H2 s2)(F:Fn1 X)(hf:∀ b∈fp,xJ X aa H2 b)(hC:s2.heap.objs.size<=C)(he:en.frame=X.env.frame)(h:p_ (yY X N' ae cl C fp s2 H2) P1 J1 c x SF u s')
  (hX:∀ u s,p_ X P1 J1 c x SF u s->X.xe u s) {E:J7} :
  a8 X (Kb u en) (λ_ N=>∃ m,N.heap.Ns C m/\∀ h',Ex C N.heap h'->∀ Q:Hg,Q.locals=C->a8 X (Xn "comprehension.variables-let-go" u Q:Kk Ac) (λ_ _=>Fv) X.xe { N with heap:=h' }) E s':=by
 obtain⟨e,H',P',J',dd,rfl,I,r,q1,q2,fl,ln,l,m,hm⟩:=DB I2 F hf h;rw[UU he];have d:=I2.fpOk hC l;refine xy I F I.ok.frames fl λh1 B k cv up=>?_;obtain⟨I1,O⟩:=Inv.fly I F cv k.1 up;refine⟨m,up.ns hm,λh' sb Q _=>?_⟩;have I3:Inv X aa Y H' { s' with heap:=h' }:=I1.turned (t':=s'.toks) (λb o hb z=>(sb.2 b hb).trans z) l d.2.1 d.2.2.2.1 d.2.2.2.2.1 d.2.2.2.2.2;obtain⟨no,nf,_⟩:=dU I1 k O;obtain⟨k1,k2,k3,oe,vs,T,i,ts,A,zl,y,j,z6,nT,ne,t,G,h3⟩:=k;have nC:∀ b o ws,h1.get? b=Aa o->o.data=.fields ws->b≠C:=λb o ws z hd w=>by subst w;obtain⟨o',es,ep,zo,U,_⟩:=up.ns hm;rw[z] at zo;cases zo;rw[hd] at U;cases U
 have z3:h'.get? e=Aa oe:=(sb.2 e (nC e oe vs A j)).trans A;have z5:h'.get? T=Aa i:=(sb.2 T (nC T i ts t G)).trans t;have z4:¬ pe X aa H' T:=λo=>by
  have zc:T ∉ gv X.stack:=λz=>by obtain⟨_,o,ho,hn⟩:=I1.stack.mem z;rw[t] at ho;cases ho;exact hn ts G
  have:=O T i t o zc;rw[nT] at this;cases this
 have b1:=TW (as:=e::T::gv X.stack) I3.stack λac he a ha=>Bm _ (Bm _ (Iu.mpr ⟨ac,he,ha⟩));have b2:Cv X aa H' (Gf h' (e::T::gv X.stack)) h':=λb o q p n=>Pk _ q λw=>(Ay.mp w).elim (λw=>no (w▸p)) λw=>(Ay.mp w).elim (λw=>z4 (w▸p)) n;have b3:(Gf h' (e::T::gv X.stack)).get? e=none:=Lp _ Cr;have b4:(Gf h' (e::T::gv X.stack)).StaysIn h':=λb o q=>Qj _ q;have b5:(Gf h' (e::T::gv X.stack)).get? T=none:=Lp _ (Bm _ Cr);generalize Gf h' (e::T::gv X.stack)=B' at b1 b2 b3 b4 b5;have K:ua B' X.stack e c dd (Jr X.env.locals) h':=⟨b4,b3,b1,.mk oe vs T i ts z3 zl y j z6 b5 ne z5 G h3⟩;obtain⟨z8,ys,T',yn,z7,M,_,_,U,g,z2,L,z1,K',zn⟩:=aZ (v:=Q.frame.elim .none λf=>Jr f) K;obtain⟨I4,zs⟩:=Inv.fly I3 F b2 K'.1 zn;unfold Xn;refine Ad (Dr M U g ?_);rw[AT (show ¬((Ca T' == El)=Vq) from by simp)];unfold Rn;refine Ad (Ad (Dr M U g ?_));rw[Au (show (Ca T' != El)=Vq from by simp)];refine Ge z2 L (Cq.mp z1).1 ?_;exact Ux (hX _ _ ⟨e,aa,Y,H',P',J',Z,I4,r,q1,q2,dd,.fly B' _ K' zs,ln⟩)
end
noncomputable def xn (m:Ar)(r:ax (qG × Ab D)):ax D:=match r with
 |.ok p Q=>if m then .ok (.loc Q.length) (Q++[.lst p.2]) else .ok (.lst p.2) Q
 |.ex c x S=>.ex c x S
 |.bad=>.bad
def z0 (m:Ar)(cr:Ab (Al Aj))(fi:qh)(g:DG)(t:DT)(k:DK):DE:=λac S=>(fi ac S).bind λp Q=>xn m (io p.1 g t k p.2 (zZ cr ac) Q [])
section
variable {X:Cx}{dn tg iter:Bl}{e_:Ab Bl}{ae:Ez}{ai:Eb}{N':Y0}{cr:Ab (Al Aj)}{fi:qh}{g:DG}{t:DT}{kk:DK}{aq:Ab Dz}{mm:Ar}
def t8 {B:Acc}{o0:Cd}{aa:J0}{Y:_L.St}{f P1:Hp}{J1:J9}{Q:Ai}{S1:ag}{RV:ax (qG × Ab D)}{items:Ab D}{it:Af}{fp:J9}{tn:Aj->Bb->Prop}{ci:It}{RR:Ac->Af->Qs->Ai->Prop}
  (hc:X.calm=Vq) (F:Fn1 X) (A:RV≠.bad) (hX:xz X P1 J1 RV) (S:gh X.env.scope X.N ae N' cr) (has:∀ g',(⟨tg,iter,e_,0⟩::aq:Ab Dz)[0+1]? = Aa g'->g'.is_async=0)
  (hg:∀ d C ex U G E,PG (zS X N' ae d C ex U G E) tg (rq (zS X N' ae d C ex U G E) g))
  (ht:∀ d C ex U G E,ut (zS X N' ae d C ex U G E) e_ t) (he:∀ d C ex U G E,yb B (zS X N' ae d C ex U G E) (λao=>w4 B.m dn (⟨tg,iter,e_,0⟩::aq) ae ai 0 ao (zS X N' ae d C ex U G E).env) kk)
  (i:Inv X aa Y f Q) (r:bf X.K f P1 J1 S1) (re:zH X.K P1 J1 Y ac) (T:n_ X.prog X.w X.K tg ci fp it tn) (zc:tn 0 Q.heap) (hf:∀ b∈fp,xJ X aa f b) (z4:pc X.K ci P1 J1 o' items) (run:io o' g t kk items (zZ cr ac) S1 [] = RV)
  (h0:B.O X.K P1 J1 [] o0) (z5:o0.isFreed=Yp) (z6:∀ ao C s',Q.heap.objs.size<=ao->(∃ m,s'.heap.Ns C m)->Q.heap.objs.size<=C->ao≠C->(∃ d Y' H' P' J' o' j ds SF,RV=.ok (j,ds) SF/\gb B (yY X N' ae d C fp Q f) [] P1 J1 fp ao j SF ds s' Y' H' P' J' o')->RR (.ref ao) C (.ok .next) s')
  (z3:∀ ao C u M,(∃ m,M.heap.Ns C m/\∀ h',Ex C M.heap h'->∀ L:Hg,L.locals=C->a8 X (Xn "comprehension.variables-let-go" u L:Kk Ac) (λ_ _=>Fv) X.xe { M with heap:=h' }) -> RR ao C (.error u) M) :
  a8 X (Vg ae X.env.globals (vY X.env.cells ae.names []) [] X.env.qual Zt .none (Aa X.env)) (λL z1 =>
   Gn (As X.prog X.w) X.A (.compStart (wF B.m dn (⟨tg,iter,e_,0⟩::aq) ae ai) 0 (.ref it) (.ref Q.heap.objs.size) { L with scope:=relabel ae X.env }) (RR (.ref Q.heap.objs.size) L.locals) z1) E { Q with heap:=Q.heap.push o0 }:=by
 have l:∀ b∈fp,b<Q.heap.objs.size:=λb A=>by obtain⟨o,e,_⟩:=T.obj 0 _ zc b A;exact Bh e
 refine VJ ?_;dsimp only;generalize a:Q.heap.push o0=N;have zl:N.objs.size=Q.heap.objs.size+1:=by rw[<- a,Er]
 have hC:Q.heap.objs.size<=N.objs.size:=by rw[zl];exact Jt _
 have zn:Q.heap.objs.size≠N.objs.size:=by rw[zl];exact Cn (Hl _)
 have kp:∀ b o,N.get? b=Aa o->(XV (N.push { cls:=.type "dict",data:=.dict #[] }) ae.names).get? b=Aa o:=λb o e=>wT _ _ b o (Ak _ e);have I:(XV (N.push { cls:=.type "dict",data:=.dict #[] }) ae.names).Ns N.objs.size (λ_=>Zt):=(Heap.Ns.new N (.type "dict")).keeps (wT _ _);have co:=cellsFrom_ok ae.names (N.push { cls:=.type "dict",data:=.dict #[] }) (N.objs.size+1) [] ⟨λ_ _ y=>(nomatch y),Nm⟩ (by rw[Er];exact Ax _);rw[Er] at co;generalize z2:XV (N.push { cls:=.type "dict",data:=.dict #[] }) ae.names=O at kp I co ⊢;have w:∀ b o,Q.heap.get? b=Aa o->O.get? b=Aa o:=λb o e=>kp b o (a▸Ak _ e);have zs:O.get? Q.heap.objs.size=Aa o0:=kp _ _ (a▸Be _ z5);have I4:∀ tk,Inv (yY X N' ae (jR X ae N.objs.size) N.objs.size fp Q f) [] (uF cr Y) f { Q with heap:=O,toks:=tk }:=λtk =>
  KZ (s4:={ Q with heap:=O,toks:=tk }) S i hf l hC I Z Z w co
 have n:∀ tk,Gn (As X.prog X.w) X.A (.compLoop (wF B.m dn (⟨tg,iter,e_,0⟩::aq) ae ai) 0 (.ref it) (.ref Q.heap.objs.size) (compEnvC ae (jR X ae N.objs.size) N.objs.size X.env)) (RR (.ref Q.heap.objs.size) N.objs.size) { Q with heap:=O,toks:=tk }:=λtk=>by
  refine W7 (B:=B) (kk:=kk) (o':=o') (RR:=RV) (az:=zS X N' ae (jR X ae N.objs.size) N.objs.size fp Q f (λu s'=>∃ c x S,RV=.ex c x S/\p_ (yY X N' ae (jR X ae N.objs.size) N.objs.size fp Q f) P1 J1 c x S u s')) (aa:=[]) (fp:=fp) (ao:=Q.heap.objs.size) (P1:=P1) (J1:=J1) (Y:=uF cr Y) (H:=f) (P:=P1) (J:=J1) (o:=o0) hc A (λc x S z u s' q=>⟨c,x,S,z,p_.xeOf q⟩) Z has T z4
   (hg _ _ _ _ _ _) (ht _ _ _ _ _ _) (he _ _ _ _ _ _) (λH hn=>?_) (λH hn b A=>?_) (λy=>Fh _ (l _ y)) ⟨Inv.xeTo (I4 tk),r,JJ re cr,qP.refl _,Bt _,λb A=>(hf b A).1,i.hok.fresh (Ax _),zs,h0⟩ (T.keep _ _ _ zc λb A o e=>w b o e) run (λs' Y' H' P' J' o' j ds SF hR st=>?_) λu s' ⟨c,x,S',hR,q⟩=>Fm (NV i F hf hC (en:=compEnvC ae (jR X ae N.objs.size) N.objs.size X.env) Z q (hX c x S' hR)) (λ_ M q=>z3 _ _ _ _ q) λ_ _ q=>q
  .refine⟨hn,zn,λy=>?_,.inr (Ax _),λx c h z=>?_,λp hp=>absurd (show p∈([]:J0) from hp) aA⟩
   .obtain⟨_,o,ho,_⟩:=i.stack.mem y;exact Fh _ (Bh ho)
   .rcases xU S i.ok h with⟨m,_⟩|⟨m,_⟩
    .exact Fh _ (Qm hC (z▸(co.empty x c m).2))
    .obtain⟨v,ob,zo,_⟩:=i.cell x c m;rw[z] at zo;exact Fh _ (Bh zo)
  .obtain⟨_,h1,h2,h3,h4,h5⟩:=hf b A;refine⟨hn b A,Cn (Bo (l b A) hC),λy=>?_,.inl A,λx c h=>(by
    rcases xU S i.ok h with⟨m,_⟩|⟨m,_⟩
    .exact Di (Cn (Pi (Bo (l b A) hC) (co.empty x c m).2))
    .exact h4 x c m),λp hp=>absurd (show p∈([]:J0) from hp) aA⟩
   rcases Ay.mp (i.stkSub b y) with z|z
   .exact h1 z
   .exact h2 z
  .obtain⟨m,y,_⟩:=st.inv.loc;exact z6 _ _ s' (Ax _) ⟨m,y⟩ hC zn ⟨_,_,_,_,_,_,_,_,_,hR,⟨Inv.xeOf st.inv,st.rel,st.env,st.same,st.pre,st.fpn,st.acn,st.at',st.acc⟩⟩
 exact aE (k:=0) Z Z (n _) (T.self X.A 0 _ _ _ (T.keep _ _ _ zc λb A o e=>w b o e) (n _))
def GB (hc:X.calm=Vq)(F:Fn1 X)(S:gh X.env.scope X.N ae N' cr)(hi:PI X tg iter (rn X fi))
  (hg:∀ w C ex U G E,PG (zS X N' ae w C ex U G E) tg (rq (zS X N' ae w C ex U G E) g))
  (ht:∀ w C ex U G E,ut (zS X N' ae w C ex U G E) e_ t) (has:∀ g',(⟨tg,iter,e_,0⟩::aq:Ab Dz)[0+1]? = Aa g'->g'.is_async=0) (he:∀ w C ex U G E,yb nz (zS X N' ae w C ex U G E) (λao=>w4 Yp dn (⟨tg,iter,e_,0⟩::aq) ae ai 0 ao (zS X N' ae w C ex U G E).env) kk)
  (hs:∀ x,Gs iter X.env x=pure x:=by intro _;rfl):PE X (.ListComp dn (⟨tg,iter,e_,0⟩::aq) ae ai) (tD X (z0 mm cr fi g t kk)):=by
 intro aa s Y H Q I h;obtain⟨P,J,ac,S0,r,re,af⟩:=h;rw[eval_ListComp];have N:qK X P J ((fi ac S0).bind λp L=>xn mm (io p.1 g t kk p.2 (zZ cr ac) L [])) (gy X P J Q):=af;refine Sl (use:=Zt) rfl hs (Q9 S I.ok) S.kind S.names ?_;refine bi (hi aa s Y H (λci H1=>∃ (A:Hp) (M:J9) (p:Al (Aj × MO) × Ab _D.D) (L:ag),bf X.K H1 A M L/\qP P A/\J<+:M/\pc X.K ci A M p.1 p.2/\qK X P J (xn mm (io p.1 g t kk p.2 (zZ cr ac) L [])) (gy X P J Q)) I ⟨P,J,ac,S0,r,re,?_⟩) λxv s1 h1=>bi h1 λz1 s2 h2=>?_
 .cases q:fi ac S0 with
  |bad=>rw[q] at N;exact N
  |ex c x S'=>rw[q] at N;exact N
  |ok p L=>rw[q] at N;exact λci H1 A M r1 j y it=>⟨A,M,p,L,r1,j,y,it,N⟩
 obtain⟨it,fp,tn,ci,H2,rfl,I2,T,zl,hf,A,M,p,L,r1,j,y,a,O⟩:=h2;generalize run:io p.1 g t kk p.2 (zZ cr ac) L [] = RV at O;have hb:RV≠.bad:=λz=>by subst z;exact O
 have hX:xz X A M RV:=λc x S z=>by subst z;exact λu l q=>O u l (q.base j y)
 refine Dh (t8 (RV:=RV) (B:=nz) (o0:={ cls:=.type "list",dict:=Zt,data:=.seq ([] : Ab Ac).toArray }) (RR:=λao C=>compPost (As X.prog X.w) X.A X.xe Zt (EP X aa Y Q) ao C) hc F hb hX S has hg ht he I2 r1 (re.mono j y) T zl hf a run ⟨[],0,[],rfl,.nil,.nil,Fi _⟩ rfl ?_ λao C u zs q=>q);intro ao C l hA ⟨m,hm⟩ hC e ⟨w,Yf,Hf,Pf,Jf,of,zo,ds,d,hR,zc⟩;subst hR;have ok:if mm then gy X P J Q (.loc d.length) (d++[.lst ds]) else gy X P J Q (.lst ds) d:=by cases mm <;> exact O
 have zn:∀ k,Ex C l.heap k->gI X aa Y A M ds d ao C { l with heap:=k }:=λk b=>aF I2 hf Z hC hA e zc b;refine⟨m,hm,λk b=>GP (mm:=mm) (zn k b) ?_⟩;cases mm with
 |false=>exact λv f P3 J3 r3 i q2 n=>ok v f P3 J3 r3 (j.trans i) (y.trans q2) n
 |true=>exact λv f P3 J3 r3 i q2 n=>ok v f P3 J3 r3 (j.trans i) (y.trans q2) n
def GL {i:Aj}{y:Ah}{py w:Eb}(hc:X.calm=Vq)(F:Fn1 X)(hN:X.N.Nodup)(S:gh X.env.scope X.N ae N' cr)(hi:PI X tg iter (rn X fi))
  (hg:∀ n C ex U G E,PG (zS X N' ae n C ex U G E) tg (rq (zS X N' ae n C ex U G E) g))
  (ht:∀ n C ex U G E,ut (zS X N' ae n C ex U G E) e_ t) (has:∀ g',(⟨tg,iter,e_,0⟩::aq:Ab Dz)[0+1]? = Aa g'->g'.is_async=0) (he:∀ n C ex U G E,yb nz (zS X N' ae n C ex U G E) (λao=>w4 Yp dn (⟨tg,iter,e_,0⟩::aq) ae ai 0 ao (zS X N' ae n C ex U G E).env) kk)
  (hy:X.N[i]? = Aa y:=by rfl) (zs:Loc X.env.scope y:=by first|exact Aa7 rfl|exact Zd rfl) (hf:X.fn y=Vq\/X.env.scope.names.lookup y=Aa .local:=by first|exact .inl rfl|exact .inr rfl|assumption)
  (hsw:Ly (.ListComp dn (⟨tg,iter,e_,0⟩::aq) ae ai) (Aa (.Name y py)) w.line X.env=pure true:=by rfl)
  (hs:∀ x,Gs iter X.env x=pure x:=by intro _;rfl):PS X (.Assign [.Name y py] (.ListComp dn (⟨tg,iter,e_,0⟩::aq) ae ai) w) (jb X (qV (z0 mm cr fi g t kk) (be i))):=by
 intro aa s Y H D I h;obtain⟨P,J,ac,S0,r,re,af⟩:=h;have zo:=yM af;have N:qK X P J ((fi ac S0).bind λp l=>xn mm (io p.1 g t kk p.2 (zZ cr ac) l [])) (λd S=>zI X P J (.nx (ac.set i (Aa d)) S) D):=zo;rw[exec_Assign_Name_used _ _ _ _ hsw];refine Ad (Hk (Ad ?_));show Ap _ X.A (do let _ <- comprehension (.ListComp dn (⟨tg,iter,e_,0⟩::aq) ae ai) ae X.env _ (newList []) Yp (eval iter X.env) (Aa (assign (.Name y py) X.env))) _ _ s;refine Ad (Fm (Sl (use:=Aa (assign (.Name y py) X.env)) (Q:=λ_ L=>SP X aa D .next L) Z hs (Q9 S I.ok) S.kind S.names ?_) (λ_ L hq=>An (An hq)) λ_ _ e=>e);refine bi (hi aa s Y H (λci H1=>∃ (v:Hp) (f:J9) (p:Al (Aj × MO) × Ab _D.D) (l:ag),bf X.K H1 v f l/\qP P v/\J<+:f/\pc X.K ci v f p.1 p.2/\qK X P J (xn mm (io p.1 g t kk p.2 (zZ cr ac) l [])) (λd S=>zI X P J (.nx (ac.set i (Aa d)) S) D)) I ⟨P,J,ac,S0,r,re,?_⟩) λxv s1 h1=>bi h1 λys s2 h2=>?_
 .cases q:fi ac S0 with
  |bad=>rw[q] at N;exact N
  |ex c x S'=>rw[q] at N;exact N
  |ok p l=>rw[q] at N;exact λci H1 v f r1 M k it=>⟨v,f,p,l,r1,M,k,it,N⟩
 obtain⟨it,fp,tn,ci,H2,rfl,I2,T,z5,zn,v,f,p,l,r1,M,k,z1,O⟩:=h2;generalize run:io p.1 g t kk p.2 (zZ cr ac) l [] = RV at O;have hb:RV≠.bad:=λz=>by subst z;exact O
 have hX:xz X v f RV:=λc x S z=>by subst z;exact λu L q=>O u L (q.base M k)
 refine Dh (t8 (RV:=RV) (B:=nz) (o0:={ cls:=.type "list",dict:=Zt,data:=.seq ([] : Ab Ac).toArray }) (RR:=λao C=>compPost (As X.prog X.w) X.A X.xe (Aa (assign (.Name y py) X.env)) (λ_ L=>SP X aa D .next L) ao C) hc F hb hX S has hg ht he I2 r1 (re.mono M k) T z5 zn z1 run ⟨[],0,[],rfl,.nil,.nil,Fi _⟩ rfl ?_ λao C u yn q=>q);intro ao C L hA ⟨m,hm⟩ hC zc ⟨n,Yf,Hf,Pf,Jf,of,z8,ds,SF,hR,z2⟩;subst hR;have z3:∀ h',Ex C L.heap h'->gI X aa Y v f ds SF ao C { L with heap:=h' }:=λh' sb=>aF I2 zn rfl hC hA zc z2 sb;show Ap _ X.A (assign (.Name y py) X.env (.ref ao)) _ _ L;obtain⟨H3,P3,J3,vs,I3,r3,zl,q1,q2,rp,z7⟩:=z3 L.heap (Ye _ _);obtain⟨r4,e4⟩:=r3.pure (o:=.lst vs) zl;have j:(bx H3 ao (.lst vs)) C=none:=by rw[qN (Di zc)];exact z7
 have fC:=I2.fpOk hC j;refine Xp (eX I3 hN hy zs (show qR (V.ref ao) (Ca ao) from Z) (λs5 I5 ⟨a,sb,ha⟩=>?_) hf);have z4:C≠a:=by
  rcases ha with rfl|ha
  .exact fC.2.1
  .exact λz=>fC.2.2.2.2.1 _ _ ha z.symm
 refine⟨m,hm.sameBut sb z4,λh' z6=>?_⟩;have I6:Inv X aa (Y.set i (Aa (V.ref ao))) (bx H3 ao (.lst vs)) { s5 with heap:=h' }:=I5.turned (t':=s5.toks) (λb o hb e=>(z6.2 b hb).trans e) j fC.2.1 fC.2.2.2.1 fC.2.2.2.2.1 fC.2.2.2.2.2;cases mm with
 |false =>
  have ok:zI X P J (.nx (ac.set i (Aa (.lst ds))) SF) D:=O;refine⟨_,_,I6,ok _ _ (bx P3 ao (.lst vs)) J3 r4 ?_ ((M.trans q1).trans e4) (k.trans q2)⟩;exact((re.mono M k).mono (q1.trans e4) q2).set i (sX (.inl (.inl qT)) (qJ.mono e4 (Bt _) _ _ rp))
 |true =>
  have A:J3<+:J3++[ao]:=Kh _ _;have r5:=r3.new (o:=.lst vs) (m:=.lst ds) zl ⟨vs,qT,qJ.mono (qP.refl _) A _ _ rp⟩;have ok:zI X P J (.nx (ac.set i (Aa (.loc SF.length))) (SF++[.lst ds])) D:=O;refine⟨_,_,I6,ok _ _ P3 (J3++[ao]) r5 ?_ (M.trans q1) ((k.trans q2).trans A)⟩;refine((re.mono M k).mono q1 (q2.trans A)).set i ?_;simp only[am];exact⟨ao,Z,by rw[<- r3.len];simp⟩
end
def kf (F:DF):DF:=F
structure _w (B:Acc)(Yww:Cx)(step:Ac->Kk Nq)(k:DK):Prop where
 get:yb B Yww step k
section
variable {X az:Cx}{e dn tg iter:Bl}{es e_:Ab Bl}{fe:DE}{fA:DA}{f2:qh}{g:DG}{t:DT}{kk:DK}{x:Ah}{p ai:Eb}{F:DF}{cm mm:Ar}{k n:Aj}{bp jr:Ab Dz}{ae:Ez}{cr:Ab (Al Aj)}
def qBy (G:DfS F X.prog X.w X.K X.mg X.base cm k x n)(C:RoomC cm k X.A)(h:Ck (oj X x))(j:QA X (e::es) fA)(s:St1 X e es ai):QE X (.Call (.Name x p) (e::es) [] ai) (qI n (kf F) fA):=by have h:=xB h;obtain⟨f,fd,ps,w,i,d,l,hl,G⟩:=G.1;refine⟨λaa s0 Y H Q I B=>?_⟩;obtain⟨P,J,ac,S,r,y,M⟩:=B;refine Hr (wA I h.1 i ?_ h.2.1);refine Mt (h₀:=X.base) I.ok.mod.kin d (bi (wN j.1 I r y M ai) λa b ⟨vs,H1,P1,J1,ds,S1,O,A,v,z,q,L,T,N⟩=>⟨O.kIn,?_⟩) s.1 s.2;obtain⟨m,U⟩:=rT (ac:=ac) (S:=S) N;exact pE G C l O v A q m (qU.base L T U)
def qB6 (Q:bp[k+1]? = Zt)(Y:QE az dn fe):_w nz az (λao=>w4 Yp dn bp ae ai k ao az.env) (qX fe):=⟨BE Q Y.1⟩
def qB0 (S:Ck (c8 X.env.scope X.N ae cr))(O:X.calm=Vq)(T:Fn1 X)(I:Z5 X tg iter f2)(L:∀ G C U Y Q E,QG (zS X (vA ae) ae G C U Y Q E) tg g)(N:∀ G C U Y Q E,zu (zS X (vA ae) ae G C U Y Q E) e_ t)
  (has:∀ g',(⟨tg,iter,e_,0⟩::jr:Ab Dz)[0+1]? = Aa g'->g'.is_async=0)
  (B:∀ G C U Y Q E,_w nz (zS X (vA ae) ae G C U Y Q E) (λao=>w4 Yp dn (⟨tg,iter,e_,0⟩::jr) ae ai 0 ao (zS X (vA ae) ae G C U Y Q E).env) kk) (hs:∀ x,Gs iter X.env x=pure x) :
  QE X (.ListComp dn (⟨tg,iter,e_,0⟩::jr) ae ai) (z0 mm cr f2 g t kk):=
 ⟨GB O T (aD S) I.1 (λG C U s H E=>(L G C U s H E).1) (λG C U s H E=>(N G C U s H E).1) has (λG C U s H E=>(B G C U s H E).1) hs⟩
def qED {O N:Eb}(hsw:Ly (.ListComp dn (⟨tg,iter,e_,0⟩::jr) ae ai) (Aa (.Name y O)) N.line X.env=pure Vq)(S:Ck (c8 X.env.scope X.N ae cr))(L:Ck (yw X m y))(T:X.calm=Vq)(M:Fn1 X)(w:Z5 X tg iter f2)(A:∀ G C U Y Q E,QG (zS X (vA ae) ae G C U Y Q E) tg g)(B:∀ G C U Y Q E,zu (zS X (vA ae) ae G C U Y Q E) e_ t)
  (has:∀ g',(⟨tg,iter,e_,0⟩::jr:Ab Dz)[0+1]? = Aa g'->g'.is_async=0)
  (I:∀ G C U Y Q E,_w nz (zS X (vA ae) ae G C U Y Q E) (λao=>w4 Yp dn (⟨tg,iter,e_,0⟩::jr) ae ai 0 ao (zS X (vA ae) ae G C U Y Q E).env) kk) (hs:∀ x,Gs iter X.env x=pure x) :
  QS X (.Assign [.Name y O] (.ListComp dn (⟨tg,iter,e_,0⟩::jr) ae ai) N) (qV (z0 mm cr f2 g t kk) (be m)):=
 have h:=iS L
 ⟨GL T M h.2.2.1 (aD S) w.1 (λG C U s H E=>(A G C U s H E).1) (λG C U s H E=>(B G C U s H E).1) has (λG C U s H E=>(I G C U s H E).1) h.1 h.2.1 h.2.2.2 hsw hs⟩
end
end _D
namespace _D
variable {ds:Ab D}{v:Ac}{n p:Aj}{lo hi:Al Aq}{a b:Aq}{f1:DE}{F:DF}{gs:uk}{S1 S':ag}
def Ok {β:Type}(r:ax β)(Q:β->ag->Prop):Prop:=∃ d S,r=.ok d S/\Q d S
def qD {β:Type}{r:ax β}{Q:β->ag->Prop}{d:β}{S:ag}(h:r=.ok d S)(q:Q d S):Ok r Q:=⟨d,S,h,q⟩
def b0 {fe:DE}{S:ag}{ao:Ab D}(h:fe ac S=.ok x S1)(Q:ao.length<bb):qX fe ac S ao=.ok (ac,ao++[x]) S1:=by unfold qX;rw[h];simp[ax.bind,Q]
def kM {fi:qh}{ac Q:qG}{S:ag}{o:Al (Aj × MO)}{items:Ab D}(h:fi ac S=.ok (o,items) S1)(e:io o g t k items (zZ cr ac) S1 [] = .ok (Q,ds) S'):z0 Yp cr fi g t k ac S=.ok (.lst ds) S':=by unfold z0;rw[h];simp only[ax.bind,e,xn];rfl
def X5 {f:DE}{S:ag}{ac:qG}(hs:wX n ds=ac)(h:f ac S=.ok d S'):qL n (qO f) ds S=.ok d S':=by subst hs;unfold qL qO;rw[h];rfl
def pF {g:DS}{S:ag}{ac:qG}(hs:wX n ds=ac)(h:g ac S=.rt d S'):qL n g ds S=.ok d S':=by subst hs;unfold qL;rw[h];rfl
def QN {J β:Type}(Q:J->Ar)(Y:J->β)(l:Ab J) : (l.flatMap λd=>if Q d then [Y d] else []) = (l.filter Q).map Y:=by
 induction l with
 |nil=>rfl
 |cons d l U =>
  rw[Gv,U];cases h:Q d <;> simp[h]
theorem yy {J:Type}{cp:J->D}{g:DG}{t:DT}{k:DK}(U:J->Ab D)(C:qG->ag->Prop)(L:∀ ac S,C ac S->ou o S) :
  ∀ (xs:Ab J) (ac:qG) (S:ag) (ao:Ab D),C ac S->ao.length+(xs.flatMap U).length<=bb ->
  (∀ x∈xs,∀ ac S ao,C ac S->ao.length+(U x).length<=bb->∃ Q S1 b O,g (cp x) ac S=.ok Q S1/\t Q S1=.ok b O/\((b=Yp/\U x=[]/\C Q O)\/(b=Vq/\∃ G B,k Q O ao=.ok (G,ao++U x) B/\C G B))) ->
  ∃ Y S',io o g t k (xs.map cp) ac S ao=.ok (Y,ao++xs.flatMap U) S'/\C Y S'
 |[],ac,S,ao,h,H,_=>⟨ac,S,by simp[io,yK.mpr (L _ _ h)],h⟩
 |x::xs,ac,S,ao,h,H,step=>by
  rw[Gv,Bj] at H;obtain⟨Q,S1,b,O,E,I,r⟩:=step x (Cr ..) ac S ao h om;have N:=yK.mpr (L _ _ h);rcases r with⟨rfl,A,M⟩|⟨rfl,G,B,w,z⟩
  .obtain⟨Y,S',e,q⟩:=yy U C L xs Q O ao M om λd T=>step d (Bm _ T);refine⟨Y,S',?_,q⟩;simp only[Ee,io,N,Dw,E,I,ax.bind,Bs,Dp,Gv,A,Kt];exact e
  .obtain⟨Y,S',e,q⟩:=yy U C L xs G B (ao++U x) z (by rw[Bj];fin2) λd T=>step d (Bm _ T);refine⟨Y,S',?_,q⟩;simp only[Ee,io,N,Dw,E,I,ax.bind,w,Gv];rw[e,Jj]
section
variable {J:Type}{cp:J->D}{cr:Ab (Al Aj)}{fi:qh}{g:DG}{t:DT}{fe:DE}{ac:qG}{S:ag}{o:Al (Aj × MO)}{xs:Ab J}
def qAN (N:ou o S)(Y:J->Ar)(G:J->D)(C:qG->Prop)(h0:C ac)(O:xs.length<=bb)
  (step:∀ x∈xs,∀ ac,C ac->∃ Q,g (cp x) ac S=.ok Q S/\C Q/\t Q S=.ok (Y x) S/\(Y x=Vq->fe Q S=.ok (G x) S)) :
  ∃ U,io o g t (qX fe) (xs.map cp) ac S [] = .ok (U,(xs.filter Y).map G) S:=by
 have T:(xs.flatMap λd=>if Y d then [G d] else []).length<=bb:=by rw[QN,Ao];exact By (Lh _ _) O
 obtain⟨U,S',e,_,q⟩:=yy (cp:=cp) (o:=o) (g:=g) (t:=t) (k:=qX fe) (λd=>if Y d then [G d] else []) (λac S'=>C ac/\S'=S) (λ_ _ h=>h.2▸N) xs ac S [] ⟨h0,rfl⟩ (by simpa using T) (λd M ac S' w H O=>by
  obtain⟨A,rfl⟩:=H;obtain⟨Q,E,L,I,k⟩:=step d M ac A;refine⟨Q,S',Y d,S',E,I,?_⟩;cases B:Y d with
  |false=>exact .inl ⟨rfl,by simp,L,rfl⟩
  |true =>
   refine .inr ⟨Z,Q,S',?_,L,Z⟩;simp only[Dw];exact b0 (k B) (by simp only[B,Dw,Df] at O;fin2))
 subst q;refine⟨U,?_⟩;rw[e,Kt,QN]
def TH (h:fi ac S=.ok (o,xs.map cp) S)(G:ou o S)(Y:J->Ar)(U:J->D)(C:qG->Prop)(h0:C (zZ cr ac))(O:xs.length<=bb)
  (step:∀ x∈xs,∀ ac,C ac->∃ Q,g (cp x) ac S=.ok Q S/\C Q/\t Q S=.ok (Y x) S/\(Y x=Vq->fe Q S=.ok (U x) S)) :
  z0 Yp cr fi g t (qX fe) ac S=.ok (.lst ((xs.filter Y).map U)) S:=by
 obtain⟨N,e⟩:=qAN G Y U C h0 O step;exact kM h e
end
def nR {S:ag}{a:D}(Q:f1 ac S=.ok a S1):qI 1 F (qA f1 qC) ac S=F [a] S1:=by simp only[qI,qA,qC,Q,ax.bind,Aw,Cy,Dw]
def EA {S:ag}{a:D}(Q:f1 ac S=.ok a S1):qA f1 qC ac S=.ok [a] S1:=by simp only[qA,qC,Q,ax.bind]
def aK {Y:DE}{S Q:ag}{a b:D}(J:f1 ac S=.ok a S1)(U:Y ac S1=.ok b Q):qA f1 (qA Y qC) ac S=.ok [a,b] Q:=by simp only[qA,qC,J,U,ax.bind]
def mB {ac:qG}{i:Aj}{S:ag}(h:ac[i]? = Aa (Aa d)):qB i ac S=.ok d S:=by simp only[qB,h]
def V2 {J:Type}(p:J->Ar)(l:Ab J) : xM (l.map λx=>D.bl (p x))=Aa (l.map p):=by
 induction l with
 |nil=>rfl
 |cons x l Q =>
  show (xM (l.map λx=>D.bl (p x))).map (p x::·)=_;rw[Q];rfl
section
variable {β γ:Type}{ac:qG}{S:ag}
def zA {k:β->ag->ax γ}{Q:γ->ag->Prop}(h:Ok r λd S1=>Ok (k d S1) Q):Ok (r.bind k) Q:=by obtain⟨d,S1,rfl,h⟩:=h;exact h
def qZ {d:β}(h:Ok r λd' S'=>d'=d/\S'=S):r=.ok d S:=by obtain⟨_,_,e,rfl,rfl⟩:=h;exact e
def zQ {Q Y:β->ag->Prop}(h:Ok r Q)(k:∀ d S,Q d S->Y d S):Ok r Y:=by obtain⟨d,S,e,q⟩:=h;exact⟨d,S,e,k d S q⟩
variable {Q:D->ag->Prop}{f g:DE}{fa:DA}{o:G2}{i j:Aj}
def o_c (h:Q d S):Ok (dC d ac S) Q:=⟨_,_,Z,h⟩
def o_v (e:ac[i]? = Aa (Aa d))(h:Q d S):Ok (qB i ac S) Q:=⟨_,_,mB e,h⟩
def o_2 (h:Ok (f ac S) λa S1=>Ok (g ac S1) λb Y=>Ok (o a b Y) Q):Ok (d2 o f g ac S) Q:=zA (zQ h λ_ _=>zA)
def o_1 {u:D->ag->ax D}(h:Ok (f ac S) λa S1=>Ok (u a S1) Q):Ok (d1 u f ac S) Q:=zA h
def bB {Q:Ab D->ag->Prop}(h:Q [] S):Ok (qC ac S) Q:=⟨_,_,Z,h⟩
def yI {Q:Ab D->ag->Prop}(h:Ok (f ac S) λa S1=>Ok (fa ac S1) λas Y=>Q (a::as) Y):Ok (qA f fa ac S) Q:=zA (zQ h λ_ _ k=>zA (zQ k λ_ _ q=>⟨_,_,Z,q⟩))
def qDj (h:Ok (fa ac S) λas S1=>as.length<=bb/\Q (.tup as) S1):Ok (zO fa ac S) Q:=zA (zQ h λ_ _ k=>⟨_,_,Au k.1,k.2⟩)
def qAf (h:Ok (fa ac S) λas S1=>as.length<=bb/\Q (.lst as) S1):Ok (zJ fa ac S) Q:=zA (zQ h λ_ _ k=>⟨_,_,Au k.1,k.2⟩)
def qCm (h:Ok (fa ac S) λas S1=>as.length<=bb/\Q (.loc S1.length) (S1++[.lst as])):Ok (mI fa ac S) Q:=zA (zQ h λ_ _ k=>⟨_,_,Au k.1,k.2⟩)
def lK (h:Ok (fa ac S) λas S1=>as.length=n/\Ok (F as S1) Q):Ok (qI n F fa ac S) Q:=zA (zQ h λ_ _ k=>by rw[Au k.1];exact k.2)
def qDc (h:Ok (F as S) Q):Ok (kf F as S) Q:=h
def VN {r:ax D}(h:F as S=r):kf F as S=r:=h
def qEH (h:Ok (fa ac S) λas S1=>Ok (F as S1) Q):Ok (qH F fa ac S) Q:=zA h
def qDa (h:Q (.int (a+b)) S):Ok (qW (.int a) (.int b) S) Q:=⟨_,_,Z,h⟩
def fW {a b:Ab D}(l:a.length+b.length<=bb)(h:Q (.tup (a++b)) S):Ok (qW (.tup a) (.tup b) S) Q:=⟨_,_,Au l,h⟩
def wC {a b:Ab D}(l:a.length+b.length<=bb)(h:Q (.lst (a++b)) S):Ok (qW (.lst a) (.lst b) S) Q:=⟨_,_,Au l,h⟩
def qDh (h:Q (.int (a-b)) S):Ok (j7 (.int a) (.int b) S) Q:=⟨_,_,Z,h⟩
def qDf (h:Q (.int (-a)) S):Ok (y9 (.int a) S) Q:=⟨_,_,Z,h⟩
def qDe (l : -(2 ^ 64)<a/\a<2 ^ 64)(h:Q (.int (a*b)) S):Ok (yQ (.int a) (.int b) S) Q:=by refine⟨_,_,?_,h⟩;unfold yQ i2;rw[cW];unfold cV;simp only[l,and_self,decide_true,Bool.true_or,Dw]
def qDd (l:0<b)(h:Q (.int (a % b)) S):Ok (uL (.int a) (.int b) S) Q:=by refine⟨_,_,?_,h⟩;unfold uL i2;simp[l]
def qDb (l:0<b/\b<1073741824)(h:Q (.int (a/b)) S):Ok (jU (.int a) (.int b) S) Q:=by refine⟨_,_,?_,h⟩;unfold jU i2 RU;simp[l]
def qEO (h:Q (.bl (decide (a<b))) S):Ok (vw (.int a) (.int b) S) Q:=⟨_,_,Z,h⟩
def qEN (h:Q (.bl (decide (b<a))) S):Ok (yl (.int a) (.int b) S) Q:=⟨_,_,Z,h⟩
def qEL (h:Q (.bl (decide (b<=a))) S):Ok (y_ (.int a) (.int b) S) Q:=⟨_,_,Z,h⟩
def qBt (h:Q (.bl (decide (a=b))) S):Ok (fq (.int a) (.int b) S) Q:=⟨_,_,by kernel_rfl!,h⟩
def qEP (h:Q (.bl (!decide (a=b))) S):Ok (jo (.int a) (.int b) S) Q:=⟨_,_,by kernel_rfl!,h⟩
def xw {a:Ab D}(e:_L.ji a k=Aa d)(h:Q d S):Ok (b_ (.tup a) (.int k) S) Q:=⟨d,S,by show _D.vJ (_L.ji a k) S=_;rw[e];rfl,h⟩
def x8 {a:Ab D}(e:_L.ji a k=Aa d)(h:Q d S):Ok (b_ (.lst a) (.int k) S) Q:=⟨d,S,by show _D.vJ (_L.ji a k) S=_;rw[e];rfl,h⟩
def jZ {a:Ab D}(h:Q (.int a.length) S):Ok (zW [.tup a] S) Q:=⟨_,_,Z,h⟩
def qCl {a:Ab D}(h:Q (.int a.length) S):Ok (zW [.lst a] S) Q:=⟨_,_,Z,h⟩
def qCp {a:Ab D}(h:Q (.tup a) S):Ok (xN [.lst a] S) Q:=⟨_,_,Z,h⟩
def qCn {a:Ab D}(h:Q (.lst a) S):Ok (cA [.tup a] S) Q:=⟨_,_,Z,h⟩
def mR (h:Ok (f ac S) λd S1=>∃ b,d=.bl b/\(b=Vq->Ok (g ac S1) Q)/\(b=Yp->Q (.bl Yp) S1)):Ok (jS f g ac S) Q:=zA (zQ h λd S1 ⟨b,e,Y,J⟩=>by
 subst e;cases b with
 |true=>exact Y rfl
 |false=>exact⟨_,_,rfl,J rfl⟩)
def AE {Y J:DO}(h:Ok (f ac S) λd S1=>Ok (Y ac S1) λlo U=>Ok (J ac U) λhi G=>Ok (xa d lo hi G) Q):Ok (nq f Y J ac S) Q:=zA (zQ h λ_ _ k=>zA (zQ k λ_ _=>zA))
def qDg {a:Ab D}(h:Q (.tup (wG a lo hi)) S):Ok (xa (.tup a) lo hi S) Q:=⟨_,_,Z,h⟩
def ME {a:Ab D}(h:Q (.lst (wG a lo hi)) S):Ok (xa (.lst a) lo hi S) Q:=⟨_,_,Z,h⟩
def qEI {Q:Al Aq->ag->Prop}(h:Q Zt S):Ok (zL ac S) Q:=⟨_,_,Z,h⟩
def qEJ {Q:Al Aq->ag->Prop}(h:Ok (f ac S) λd S1=>∃ k,d=.int k/\Q (Aa k) S1):Ok (zF f ac S) Q:=zA (zQ h λ_ _ ⟨_,e,q⟩=>by subst e;exact⟨_,_,rfl,q⟩)
def qBs {m:D->Ab D->ag->ax D}(h:Ok (f ac S) λa S1=>pi a S1=Aa T/\Ok (fa ac S1) λas Y=>Ok (m a as Y) Q):Ok (kj T m f fa ac S) Q:=zA (zQ h λ_ _ k=>by rw[k.1,Au aA];exact zA k.2)
def UW {a b:D}(e1:lstM a S=Aa xs)(e2:lstM b S=Aa ys)(l:xs.length+ys.length<=bb)(h:Q (.loc S.length) (S++[.lst (xs++ys)])):Ok (pR a b S) Q:=⟨_,_,by unfold pR;rw[e1,e2];exact Au l,h⟩
def AA {a b:D}(e1:lstM a S=Aa xs)(e2:lstM b S=Aa ys)(l:xs.length+ys.length<=bb)(h:Q (.lst (xs++ys)) S):Ok (mK a b S) Q:=⟨_,_,by unfold mK;rw[e1,e2];exact Au l,h⟩
def xx {d:D}(e:S[i]? = Aa (.lst xs))(l:xs.length<bb)(h:Q .non (S.set i (.lst (xs++[d])))):Ok (wZ (.loc i) [d] S) Q:=by refine⟨_,_,?_,h⟩;show (match S[i]? with|some (.lst xs)=>(if xs.length<bb then ax.ok D.non (S.set i (.lst (xs++[d]))) else .bad)|_=>.bad)=_;rw[e];exact Au l
def uB {t:DT}(h:Ok (t ac S) λb S1=>(b=Vq->Ok (f ac S1) Q)/\(b=Yp->Ok (g ac S1) Q)):Ok (ny t f g ac S) Q:=zA (zQ h λb S1 k=>by
 cases b with
 |true=>exact k.1 rfl
 |false=>exact k.2 rfl)
variable {Q:Ar->ag->Prop}{t u:DT}
def AH (h:Ok (f ac S) λd S1=>∃ b,xP d S1=Aa b/\Q b S1):Ok (bh f ac S) Q:=zA (zQ h λd S1 ⟨b,e,k⟩=>by
 rw[e];exact⟨_,_,Z,k⟩)
def AD (h:Ok (t ac S) λb S1=>Q (!b) S1):Ok (x5 t ac S) Q:=zA (zQ h λ_ _ k=>⟨_,_,Z,k⟩)
def qDk (h:Q Vq S):Ok (zU ac S) Q:=⟨_,_,Z,h⟩
def xZ (h:Ok (t ac S) λb S1=>(b=Vq->Q Vq S1)/\(b=Yp->Ok (u ac S1) Q)):Ok (w6 t u ac S) Q:=zA (zQ h λb S1 k=>by
 cases b with
 |true=>exact⟨_,_,rfl,k.1 rfl⟩
 |false=>exact k.2 rfl)
def iP (h:Ok (t ac S) λb S1=>(b=Vq->Ok (u ac S1) Q)/\(b=Yp->Q Yp S1)):Ok (yO t u ac S) Q:=zA (zQ h λb S1 k=>by
 cases b with
 |true=>exact k.1 rfl
 |false=>exact⟨_,_,rfl,k.2 rfl⟩)
def W2 {xs:Ab D}{a:Aj}(h:a<xs.length):_L.ji xs (a:Aq)=Aa xs[a]:=by
 have e:_L.qe xs.length (a:Aq)=Aa a:=by simp[_L.qe];lia
 simp[_L.ji,e,h]
def mD (S:ag)(m:MO):(S++[m])[S.length]? = Aa m:=by simp
def BW (S:ag)(m m':MO):(S++[m]).set S.length m'=S++[m']:=by simp
def qBI (h:S[j]? = Aa (.lst xs)):pi (.loc j) S=Aa "list":=by show (match S[j]? with|some (.lst _)=>Aa "list" | some (.dct _)=>Aa "dict" | _=>Zt)=_;rw[h]
def qAU (h:S[j]? = Aa (.lst xs)):lstM (.loc j) S=Aa xs:=by show (match S[j]? with|some (.lst xs)=>Aa xs|_=>Zt)=_;rw[h]
def bA {Q:D->ag->Prop}{a:Ab D}{k:Aj}(h:k<a.length)(q:∀ d∈a,Q d S):Ok (b_ (.lst a) (.int (k:Aq)) S) Q:=x8 (W2 h) (q _ (Il h))
def LY {Q:Ab D->ag->Prop}(h:Ok (f ac S) λd S1=>∃ ds,x9 d=Aa ds/\Q ds S1):Ok (u0 f ac S) Q:=zA (zQ h λd S1 ⟨ds,e,k⟩=>⟨ds,S1,by rw[e];rfl,k⟩)
def xu {Q:Ab D->ag->Prop}(h:Ok (fa ac S) λas S1=>∃ ds,m4 as=Aa ds/\Q ds S1):Ok (u4 fa ac S) Q:=zA (zQ h λd S1 ⟨ds,e,k⟩=>⟨ds,S1,by rw[e];rfl,k⟩)
def YH (n:Aj)(h:n<=1000000):m4 [.int (n:Aq)]=Aa ((Ch n).map λ(i:Aj)=>D.int (i:Aq)):=by
 unfold m4;have : -(2 ^ 62)<=(n:Aq)/\(n:Aq)<2 ^ 62:=⟨by lia,by lia⟩
 refine(Au this).trans ?_;unfold yJ;rw[EQ];congr 2;funext i;rw[Int.zero_add]
def qCo {Q:Ab D->ag->Prop}(h:Ok (f ac S) λd S1=>∃ k:Aq,d=.int k/\0<=k/\k<=1000000/\Q ((Ch k.toNat).map λ(i:Aj)=>D.int (i:Aq)) S1):Ok (u4 (qA f qC) ac S) Q:=xu (yI (zQ h λ_ _ ⟨k,e,Y,J,q⟩=>bB ⟨_,by
 have:=YH k.toNat li;rw[Wp Y] at this;rw[e,this],q⟩))
def jG {Q:D->ag->Prop}(e:S[i]? = Aa (.lst xs))(Y:_L.ji xs k=Aa d)(h:Q d S):Ok (b_ (.loc i) (.int k) S) Q:=by refine⟨d,S,?_,h⟩;show (match S[i]? with|some (.lst xs)=>_D.vJ (_L.ji xs k) S|_=>.bad)=_;rw[e];show _D.vJ (_L.ji xs k) S=_;rw[Y];rfl
def C_ {Q:D->ag->Prop}(e:S[i]? = Aa (.lst xs))(h:Q (.int xs.length) S):Ok (zW [.loc i] S) Q:=by
 refine⟨_,_,?_,h⟩;have Y:sF (.loc i) S=Aa xs.length:=by show (match S[i]? with|some (.lst xs)=>Aa xs.length|_=>Zt)=_;rw[e]
 show (match sF (.loc i) S with|some n=>ax.ok (D.int n) S|none=>.bad)=_;rw[Y]
def z_ {Q:Nq->ag->Prop}{n:Aq}(e:S[i]? = Aa (.lst xs))(Y:_L.qe xs.length n=Aa j)(h:Q () (S.set i (.lst (xs.set j d)))):Ok (mL (.loc i) (.int n) d S) Q:=by refine⟨_,_,?_,h⟩;simp[mL,GW,e,Y]
def vG (h:ac[i]? = Aa (Aa (.tup xs))):jc (qB i) ac S=.ok (Zt,xs) S:=by unfold jc;rw[mB h];rfl
def WQ (h:ac[i]? = Aa (Aa (.lst xs))):jc (qB i) ac S=.ok (Zt,xs) S:=by unfold jc;rw[mB h];rfl
theorem aY {J:Type}(f:J->β):∀ l:Ab J,l.flatMap (λx=>[f x])=l.map f
 |[]=>rfl
 |x::l=>by rw[Gv,aY f l];rfl
def zY {J:Type}{cp:J->D}{o:Al (Aj × MO)}{fi:qh}{tg:DG}{fe:DE}{Q:D->ag->Prop}(xs:Ab J)(G:J->D)(C:qG->ag->Prop)(hi:fi ac S=.ok (o,xs.map cp) S1)(h0:C (zZ cr ac) S1)(L:xs.length<=bb)(N:∀ ac S,C ac S->ou o S)
  (step:∀ x∈xs,∀ ac S,C ac S->Ok (tg (cp x) ac S) λY S1=>Ok (t Y S1) λb B=>b=Vq/\Ok (fe Y B) λd O=>d=G x/\C Y O) (q:∀ U S',C U S'->Q (.lst (xs.map G)) S'):Ok (z0 Yp cr fi tg t (qX fe) ac S) Q:=by
 have T:=aY G xs;obtain⟨U,S',e,c⟩:=yy (cp:=cp) (o:=o) (g:=tg) (t:=t) (k:=qX fe) (λx=>[G x]) C N xs (zZ cr ac) S1 [] h0 (by rw[T,Ao];simpa using L) (λx E ac S z w L=>by
  obtain⟨Y,S1,I,b,B,H,rfl,d,O,M,rfl,A⟩:=step x E ac S w;exact⟨Y,S1,Vq,B,I,H,.inr ⟨rfl,Y,O,b0 M (by simp at L;lia),A⟩⟩)
 rw[T,Kt] at e;exact⟨_,_,kM hi e,q U S' c⟩
theorem CC {J:Type}{cp:J->D}{o:Al (Aj × MO)}{tg:DG}{fe:DE}(R:D->Prop)(C:qG->ag->Prop)(G:∀ ac S,C ac S->ou o S) :
  ∀ (xs:Ab J) (ac:qG) (S:ag) (ao:Ab D),C ac S->ao.length+xs.length<=bb->(∀ x∈xs,∀ ac S,C ac S->Ok (tg (cp x) ac S) λY S1=>Ok (t Y S1) λb O=>b=Vq/\Ok (fe Y O) λd N=>R d/\C Y N) ->
  ∃ U S' ds,io o tg t (qX fe) (xs.map cp) ac S ao=.ok (U,ao++ds) S'/\C U S'/\ds.length=xs.length/\∀ d∈ds,R d
 |[],ac,S,ao,h,_,_=>⟨ac,S,[],by simp[io,yK.mpr (G _ _ h)],h,rfl,λ_ h=>by cases h⟩
 |x::xs,ac,S,ao,h,I,step=>by
  obtain⟨Y,S1,L,b,O,T,rfl,d,N,A,B,H⟩:=step x (Cr ..) ac S h;rw[Aw] at I;obtain⟨U,S',ds,e,c,l,E⟩:=CC R C G xs Y N (ao++[d]) H (by rw[Bj];show _+1+_<=bb;lia) λy M=>step y (Bm _ M);refine⟨U,S',d::ds,?_,c,by rw[Aw,Aw,l],λz hz=>?_⟩
  .simp only[Ee,io,yK.mpr (G _ _ h),Dw,L,T,ax.bind,b0 A (show ao.length<bb by lia)];rw[e,Jj];rfl
  .rcases Ay.mp hz with rfl|hz
   .exact B
   .exact E z hz
def LW {J:Type}{cp:J->D}{o:Al (Aj × MO)}{fi:qh}{tg:DG}{fe:DE}{Q:D->ag->Prop}(xs:Ab J)(R:D->Prop)(C:qG->ag->Prop)(hi:fi ac S=.ok (o,xs.map cp) S1)(h0:C (zZ cr ac) S1)(L:xs.length<=bb)(G:∀ ac S,C ac S->ou o S)
  (step:∀ x∈xs,∀ ac S,C ac S->Ok (tg (cp x) ac S) λY S1=>Ok (t Y S1) λb O=>b=Vq/\Ok (fe Y O) λd N=>R d/\C Y N) (q:∀ ds U S',ds.length=xs.length->(∀ d∈ds,R d)->C U S'->Q (.lst ds) S'):Ok (z0 Yp cr fi tg t (qX fe) ac S) Q:=by
 obtain⟨U,S',ds,e,c,l,B⟩:=CC (cp:=cp) (o:=o) (tg:=tg) (t:=t) (fe:=fe) R C G xs (zZ cr ac) S1 [] h0 (by simpa using L) step;exact⟨_,_,kM hi e,q ds U S' l B c⟩
def lJ {J:Type}{Q:D->ag->Prop}{l:Ab J}{p:J->Ar}(h:Q (.bl (l.all p)) S):Ok (pP Yp [.lst (l.map λx=>.bl (p x))] S) Q:=by refine⟨_,_,?_,h⟩;show (match (x9 (.lst (l.map λx=>D.bl (p x)))).bind xM with|some Y=>ax.ok (D.bl (Y.all id)) S|none=>.bad)=_;rw[show (x9 (.lst (l.map λx=>D.bl (p x)))).bind xM=Aa (l.map p) from V2 p l];simp only[Ia];rfl
def qES {Q:qG->ag->Prop}{h:G3}(k:Ok (f ac S) λa S1=>Ok (g ac S1) λb Y=>Ok (h a b d Y) λ_ J=>Q ac J):Ok (yz f g h d ac S) Q:=zA (zQ k λ_ _ k=>zA (zQ k λ_ _ k=>zA (zQ k λ_ _ q=>⟨_,_,Z,q⟩)))
variable {Q:qG->ag->Prop}
def qBu (h:Q (ac.set i (Aa d)) S):Ok (be i d ac S) Q:=⟨_,_,Z,h⟩
def qBv {xs:Ab D}(h:xs.length=n/\Ok (gs xs ac S) Q):Ok (lc n gs (.tup xs) ac S) Q:=by obtain⟨d,S1,e,q⟩:=h.2;exact⟨d,S1,by show (if xs.length=n then gs xs ac S else .bad)=_;rw[Au h.1];exact e,q⟩
def qEM (h:Q ac S):Ok (xD [] ac S) Q:=⟨_,_,Z,h⟩
def qEK {t:DG}(h:Ok (t x ac S) λY S1=>Ok (gs xs Y S1) Q):Ok (qY t gs (x::xs) ac S) Q:=zA h
def Wo (P:ja->Prop)(o:ja):Prop:=P o
def YI (g:DS)(P:ja->Prop):ja->Prop
 |.nx ac S=>P (g ac S)
 |o=>P o
def cD (b:Ar)(f g:DS):DS:=match b with
 |true=>f
 |false=>g
def WC (Q:D->ag->Prop):ja->Prop
 |.rt d S=>Q d S
 |.nx _ S=>Q .non S
 |_=>Fv
def M2 {J:Type}(I:Ab J -> qG->ag->Prop)(xs:Ab J)(P:ja->Prop):ja->Prop
 |.nx ac S=>I xs ac S
 |.ct ac S=>I xs ac S
 |.bk ac S=>P (.nx ac S)
 |o=>P o
variable {P:ja->Prop}{sf sg:DS}{fi:DI}{tg:DG}{d:D}
def MS (h:Wo (YI sg P) (sf ac S)):Wo P (qE sf sg ac S):=by unfold qE;unfold Wo at h ⊢;cases e:sf ac S <;> rw[e] at h <;> exact h
def YU (R:qG->ag->Prop)(h:∀ Y:ja->Prop,(∀ ac S,R ac S->Wo Y (.nx ac S))->Wo Y (sf ac S))(k:∀ ac S,R ac S->Wo P (sg ac S)):Wo P (qE sf sg ac S):=MS (h _ k)
def OS (h:Wo P (sg ac S)):Wo (YI sg P) (.nx ac S):=h
def qEV (h:Wo P (.rt d S)):Wo (YI sg P) (.rt d S):=h
def OR (h:Wo P (.nx ac S)):Wo P (qS ac S):=h
def gA {k:β->ag->ja}(h:Ok r λd S1=>Wo P (k d S1)):Wo P (r.toS ac k):=by obtain⟨d,S1,rfl,h⟩:=h;exact h
def qDu (h:Ok (f ac S) λd S1=>Ok (tg d ac S1) λY J=>Wo P (.nx Y J)):Wo P (qV f tg ac S):=gA (zQ h λ_ _=>gA)
def qDN (h:Ok (f ac S) λ_ S1=>Wo P (.nx ac S1)):Wo P (wD f ac S):=gA h
def qDw (h:Ok (f ac S) λd S1=>Wo P (.rt d S1)):Wo P (qO f ac S):=gA h
def qDv (h:Ok (fa ac S) λds S1=>∃ a b,ds=[a,b]/\Wo P (.nx ((ac.set i (Aa a)).set j (Aa b)) S1)):Wo P (gG i j fa ac S):=gA (zQ h λ_ _ ⟨_,_,e,q⟩=>by subst e;exact q)
def qDO (h:Ok (fa ac S) λds S1=>∃ a b c,ds=[a,b,c]/\Wo P (.nx (((ac.set i (Aa a)).set j (Aa b)).set k (Aa c)) S1)):Wo P (lW i j k fa ac S):=gA (zQ h λ_ _ ⟨_,_,_,e,q⟩=>by subst e;exact q)
def qEU (h:Ok (t ac S) λb S1=>Wo P (cD b sf sg ac S1)):Wo P (cu t sf sg ac S):=gA (zQ h λb S1 q=>by cases b <;> exact q)
def w_t (h:Wo P (sf ac S)):Wo P (cD Vq sf sg ac S):=h
def w_f (h:Wo P (sg ac S)):Wo P (cD Yp sf sg ac S):=h
def qBM {b:Ar}(h:Wo P (cD b sg sf ac S)):Wo P (cD (!b) sf sg ac S):=by cases b <;> exact h
def zV {p:Prop}[Jf p](Y:p->Wo P (sf ac S))(J:¬ p->Wo P (sg ac S)):Wo P (cD (decide p) sf sg ac S):=by
 by_cases h:p
 .rw[Cm h];exact Y h
 .rw[Bq h];exact J h
def qBL (h:Ok (fi ac S) λds S1=>Wo P (kR tg sf ds ac S1)):Wo P (gF fi tg sf ac S):=gA h
theorem j3 {J:Type}{cp:J->D}(I:Ab J -> qG->ag->Prop)(turn:∀ x xs ac S,I (x::xs) ac S->Ok (tg (cp x) ac S) λN S1=>Wo (M2 I xs P) (sf N S1))(U:∀ ac S,I [] ac S->Wo P (.nx ac S)) :
  ∀ {xs:Ab J} {ac:qG} {S:ag},I xs ac S->Wo P (kR tg sf (xs.map cp) ac S)
 |[],ac,S,h=>U ac S h
 |x::xs,ac,S,h=>by
  obtain⟨N,S1,B,Y⟩:=turn x xs ac S h;rw[Ee,kR];unfold Wo at Y ⊢;simp only[B,ax.toS];cases O:sf N S1 with
  |nx G C=>rw[O] at Y;exact j3 I turn U Y
  |ct G C=>rw[O] at Y;exact j3 I turn U Y
  |bk G C=>rw[O] at Y;exact Y
  |rt d2 C=>rw[O] at Y;exact Y
  |ex L T G C=>rw[O] at Y;exact Y
  |bad=>rw[O] at Y;exact Y
def O6 (hs:wX n ds=ac)(h:sf ac S=.ex v x Y S'):qL n sf ds S=.ex v x S':=by subst hs;unfold qL;rw[h];rfl
def HS (h:f ac S=.ex v x S'):qE (qV f tg) sg ac S=.ex v x ac S':=by simp only[qE,qV,h,ax.toS]
def BM (v:Ac)(x:Ah)(ac:qG)(S:ag):xG v (qA (dC (.str x)) qC) ac S=.ex v .non ac S:=by unfold xG;rw[EA (show dC (.str x) ac S=.ok (.str x) S from Z)];show (if ([D.str x]:Ab D).length<=bb then ja.ex v D.non ac S else ja.bad)=_;exact Au (Bz Z)
def exQ (v:Ac)(x:D)(S0:ag):ja->Prop:=λo=>∃ Y,o=.ex v x Y S0
def y0 (hs:wX n ds=ac)(h:Wo (exQ v x S') (sf ac S)):qL n sf ds S=.ex v x S':=by obtain⟨Y,e⟩:=h;exact O6 hs e
def vR (h:P (.ex v .non ac S)):Wo P (xG v (qA (dC (.str x)) qC) ac S):=by unfold Wo;rw[BM];exact h
def R7 (e:f ac S=.ex v x S')(h:P (.ex v x ac S')):Wo P (wD f ac S):=by unfold Wo wD;rw[e];exact h
def dE {J:Type}{I:Ab J -> qG->ag->Prop}{xs:Ab J}(h:I xs ac S):Wo (M2 I xs P) (.nx ac S):=h
def qBK {Q:D->ag->Prop}(h:Q d S):Wo (WC Q) (.rt d S):=h
def zB {Q:D->ag->Prop}(hs:wX n ds=ac)(h:Wo (WC Q) (sf ac S)):Ok (qL n sf ds S) Q:=by subst hs;unfold qL;unfold Wo at h;cases e:sf (wX n ds) S <;> rw[e] at h <;> first|exact⟨_,_,rfl,h⟩|exact Am h
end
abbrev Pt:=Aq × Aq
variable {ps:Ab Pt}
noncomputable def ay (p:Pt):D:=.tup [.int p.1,.int p.2]
def qM (l:Ab Pt):D:=.tup (l.map ay)
def kP (p:Pt):Ab Aq:=[p.1,p.2]
def pK (k:Ab Aq):Pt:=(k.getD 0 0,k.getD 1 0)
def uY (ps:Ab Pt):ps.map ay=(ps.map kP).map mf:=by rw[Dk];rfl
def _T (p q:Pt):Ar:=_H.lexLt [p.1,p.2] [q.1,q.2]
abbrev Up (l:Ab Pt):Prop:=l.Pairwise λp q=>_T p q=Vq
def kE (ps:Ab Pt):Ab Pt:=(_S.mi _H.lexLt (ps.map kP)).map pK
def mE {ks:Ab (Ab Aq)}(h:∀ k∈ks,k∈ps.map kP):ks.map mf=(ks.map pK).map ay/\(ks.map pK).map kP=ks:=by
 have e:∀ k∈ks,kP (pK k)=k:=λk Y=>by obtain⟨p,_,rfl⟩:=Cj.mp (h k Y);rfl
 have Q:(ks.map pK).map kP=ks:=by
  rw[Dk];conv=>rhs;rw[<- Jz ks]
  exact Md e
 exact⟨by rw[uY,Q],Q⟩
def CN {p q:Pt}(h:kP p=kP q):p=q:=by
 injection h with Y Q
 injection Q with Q _
 exact Zx Y Q
def oK (ps:Ab Pt):∀ k∈_S.mi _H.lexLt (ps.map kP),k∈ps.map kP:=λk Q=>(_S.vP _S.j8 k _).mp Q
def oJ (ps:Ab Pt)(p:Pt):p∈kE ps↔p∈ps:=by
 unfold kE;constructor
 .intro h;obtain⟨k,Q,rfl⟩:=Cj.mp h;obtain⟨q,Y,rfl⟩:=Cj.mp (oK ps k Q);exact Y
 .intro h;exact Cj.mpr ⟨kP p,(_S.vP _S.j8 _ _).mpr (Cj.mpr ⟨p,h,Z⟩),Z⟩
def XG (ps:Ab Pt):Up (kE ps):=by have h:=_S.pI _S.j8 (ps.map kP);rw[<- (mE (oK ps)).2,Eh] at h;exact h
theorem i4 {K:Type}(lt':K->K->Ar)(x:K):∀ l:Ab K,(_S.jV lt' x l).length<=l.length+1
 |[]=>by simp[_S.jV]
 |y::l=>by
  have:=i4 lt' x l;unfold _S.jV;split
  .simp
  .split <;> simp <;> fin2
theorem rB {K:Type}(lt':K->K->Ar):∀ l:Ab K,(_S.mi lt' l).length<=l.length
 |[]=>by simp[_S.mi]
 |x::l=>by have Q:=i4 lt' x (_S.mi lt' l);have Y:=rB lt' l;rw[_S.mi,Aw];fin2
def F1 (ps:Ab Pt):(kE ps).length<=ps.length:=by unfold kE;rw[Ao];exact By (rB _ _) aA
def FZ (ps:Ab Pt):((ps.map kP).all λk=>!k.isEmpty)=true:=by rw[Ia,Bk];exact λq _=>rfl
def Q1 (ps:Ab Pt)(Q:ps.length<=63):kD (ps.map ay)=Aa ((kE ps).map ay):=by unfold kD kE;rw[<- (mE (oK ps)).1,uY,vQ];exact Au (by rw[FZ,Cm (By (rB _ _) (by rw[Ao];exact Q))];rfl)
def w8 (ps:Ab Pt):Ab Pt:=(_S.m5 _H.lexLt (ps.map kP)).map pK
def XE (ps:Ab Pt):∀ k∈_S.m5 _H.lexLt (ps.map kP),k∈ps.map kP:=λk Q=>(_S.m6 _).mem_iff.mp Q
def OE (ps:Ab Pt):(w8 ps).map kP=_S.m5 _H.lexLt (ps.map kP):=(mE (XE ps)).2
def m7 (ps:Ab Pt):(w8 ps).Perm ps:=by
 have h:=(_S.m6 (lt':=_H.lexLt) (ps.map kP)).map pK;rw[Dk] at h;have e:ps.map (pK∘kP)=ps:=by
  conv=>rhs;rw[<- Jz ps]
  exact Md λq _=>rfl
 rw[e] at h;exact h
def XH (nd:ps.Nodup):Up (w8 ps):=by
 have h:=_S.XF _S.j8 (ps.map kP);unfold _S.Nf at h;rw[<- OE,Eh] at h;have Q:(w8 ps).Nodup:=(m7 ps).nodup_iff.mpr nd;refine(List.pairwise_and_iff.mpr ⟨h,Q⟩).imp λ{a b} ⟨Y,J⟩=>?_;rcases _S.j8.tri Y with z|z
 .exact absurd (CN z).symm J
 .exact z
def BZ (ps:Ab Pt)(Q:ps.length<=63):bJ (ps.map ay)=Aa ((w8 ps).map ay):=by unfold w8 bJ;rw[<- (mE (XE ps)).1,uY,vQ];exact Au (by rw[FZ,Cm (by rw[Ao];exact Q)];rfl)
def qEQ {Q:D->ag->Prop}{p:Pt}{S:ag}(h:Q (.int p.1) S):Ok (b_ (ay p) (.int 0) S) Q:=⟨_,_,Z,h⟩
def qER {Q:D->ag->Prop}{p:Pt}{S:ag}(h:Q (.int p.2) S):Ok (b_ (ay p) (.int 1) S) Q:=⟨_,_,Z,h⟩
def qDi {Q:qG->ag->Prop}{ac:qG}{S:ag}{p:Pt}(h:Ok (gs [.int p.1,.int p.2] ac S) Q):Ok (lc 2 gs (ay p) ac S) Q:=qBv ⟨Z,h⟩
def mT {Q:D->ag->Prop}{S:ag}(l:ps.length<=63)(h:Q (.lst ((w8 ps).map ay)) S):Ok (wY [.lst (ps.map ay)] S) Q:=by refine⟨_,_,?_,h⟩;show (match (Aa (ps.map ay)).bind bJ with|some Y=>ax.ok (D.lst Y) S|none=>.bad)=_;rw[Og,BZ ps l]
def lQ (ps:Ab Pt):pl zC (.lst (ps.map ay))=true:=by show ((ps.map ay).all (pl 29))=Vq;rw[Ia];exact Bk.mpr λp _=>rfl
theorem VM:∀ (a b:Ab Pt),xT (a.map ay) (b.map ay)=decide (a=b)
 |[],[]=>rfl
 |[],_::_=>by simp[xT]
 |_::_,[]=>by simp[xT]
 |x::a,y::b=>by show ((x.1 == y.1&&(x.2 == y.2&&Vq))&&xT (a.map ay) (b.map ay))=_;rw[VM a b,Ks];simp[Prod.ext_iff,and_assoc]
def qAc {Q:D->ag->Prop}{a b:Ab Pt}{S:ag}(h:Q (.bl (decide (a=b))) S):Ok (fq (.lst (a.map ay)) (.lst (b.map ay)) S) Q:=by refine⟨_,_,?_,h⟩;unfold fq;rw[lQ,lQ];show ax.ok (D.bl (xT (a.map ay) (b.map ay))) S=_;rw[VM]
def AF {Q:D->ag->Prop}{f:DE}{S:ag}(h:Ok (f ac S) λd S1=>∃ ps:Ab Pt,YJ d S1=Aa (ps.map ay)/\ps.length<=63/\Q (.lst ((kE ps).map ay)) S1):Ok (uU Yp f ac S) Q:=zA (zQ h λd S1 ⟨ps,e,l,q⟩=>⟨_,_,by rw[e,Og,Q1 ps l];rfl,q⟩)
def gp (B:Aq)(q:Pt):Prop:=-B<=q.1/\q.1<=B /\ -B<=q.2/\q.2<=B
instance (B:Aq)(q:Pt):Jf (gp B q):=by unfold gp;exact inferInstance
structure fx (M:Aj)(l:Ab Pt):Prop where
 ne:l≠[]
 len:l.length<=M
 up:Up l
 box:∀ q∈l,gp 1000 q
def dD {l:Ab Pt}(h:Up l):l.Nodup:=h.imp λ{a b} h e=>by subst e;rw[show _T a a=Yp from _S.j8.irr _] at h;cases h
def WW {M:Aj}(U:ps≠[])(J:ps.length<=M)(nd:ps.Nodup)(Y:∀ q∈ps,gp 1000 q):fx M (w8 ps):=by have p:=m7 ps;refine⟨λz=>?_,by rw[p.length_eq];exact J,XH nd,λq Q=>Y q (p.mem_iff.mp Q)⟩;rw[z] at p;exact U p.symm.eq_nil
def yD (S:ag)(p:Aj):Prop:=∃ v f:Aq,S[p]? = Aa (.lst [.int v,.int f])
def DM {S:ag}(h:yD S p)(e:S<+:S'):yD S' p:=by obtain⟨Y,J,Q⟩:=h;obtain⟨r,rfl⟩:=e;exact⟨Y,J,by rw[Co (Bv.mp Q).1];exact Q⟩
structure Kp (p:Aj)(S S':ag):Prop where
 pen:yD S' p
 len:S.length<=S'.length
 same:∀ m,m<S.length->m≠p->S'[m]? = S[m]?
def Kp.trans {S Q:ag}(a:Kp p S S1)(b:Kp p S1 Q):Kp p S Q:=⟨b.pen,By a.len b.len,λm J Y=>(b.same m (Bo J a.len) Y).trans (a.same m J Y)⟩
def JE {S:ag}(h:yD S p):p<S.length:=by obtain⟨v,f,e⟩:=h;exact(Bv.mp e).1
def Kp.pre {S:ag}(h:yD S p)(e:S<+:S'):Kp p S S':=⟨DM h e,e.length_le,λm Q _=>(List.prefix_iff_getElem?.mp e m Q).trans (Bd Q).symm⟩
def Kp.set {j:Aj}{S:ag}(h:Kp p S S')(Y:S.length<=j)(m:MO)(hp:p≠j):Kp p S (S'.set j m):=by obtain⟨v,f,e⟩:=h.pen;exact⟨⟨v,f,by rw[De (Di hp)];exact e⟩,by rw[Ov];exact h.len,λi hi Q=>by rw[De om];exact h.same i hi Q⟩
end _D
local macro_rules|`(tactic|array_get_dec)=>do
 let I (x:String):=Lean.mkIdent ("_D."++x).toName
 let F (s:String):Lean.MacroM (Lean.TSyntax `Lean.Parser.Tactic.tacticSeq):=do
  let l←(s.splitOn " ").toArray.mapM λx=>`(Lean.Parser.Tactic.tacticSeq|apply $(I x))
  `(Lean.Parser.Tactic.tacticSeq|first $[|$l]*)
 `(tactic|first | (with_reducible $(←F "MS OS qDu o_2 o_c yI bB qDa qDh qDj qAf lK qEH qDc AH AD qEU w_t w_f qBM OR qDN qDw qEV qDv qDO qBL qEO qEN qEL qBt qEP o_1 qDf jZ qCl qCp qCn qCm AE qDg ME qEI qEJ qBs qBv qEK qEM qDk qEQ qER qDi qES LY qCo")) | ((with_reducible apply _D.o_v); exact rfl) | ((with_reducible apply _D.qBu); dsimp only [List.set_cons_succ, List.set_cons_zero]) | ((with_reducible (first | $(←F "qDe qDd qDb"))); fin2) | ((with_reducible apply And.intro); (first | exact rfl | exact Nat.le_of_ble_eq_true rfl)) | ((with_reducible apply Exists.intro); (with_reducible apply And.intro); exact rfl) | ((with_reducible apply Exists.intro); (with_reducible apply Exists.intro); (with_reducible apply And.intro); exact rfl; dsimp only [List.set_cons_succ, List.set_cons_zero]) | ((with_reducible apply Exists.intro); (with_reducible apply Exists.intro); (with_reducible apply Exists.intro); (with_reducible apply And.intro); exact rfl; dsimp only [List.set_cons_succ, List.set_cons_zero]))
local macro_rules|`(tactic|rfl')=>`(tactic| repeat array_get_dec)
namespace _D
variable {xs:Ab D}{d:D}{Q:D->ag->Prop}
def Pn (d:D):Prop:=∃ p,wx d=Aa p
def pns:∀ {ps:Ab PyData},nE xs=Aa ps->∀ x∈xs,Pn x:=by
 induction xs with
 |nil=>intro ps _ x hx;cases hx
 |cons d O G =>
  intro ps h x hx;simp only[nE] at h;obtain⟨p,Y,J⟩:=Ej.mp h;obtain⟨U,N,_⟩:=Ep.mp J;rcases Ay.mp hx with rfl|hx
  .exact⟨p,Y⟩
  .exact G N x hx
def lR (h:Pn (.tup xs)):∀ x∈xs,Pn x:=by obtain⟨p,h⟩:=h;simp only[wx] at h;obtain⟨J,Y,_⟩:=Ep.mp h;exact pns Y
theorem JF:∀ {xs:Ab D},(∀ x∈xs,Pn x)->∃ l,nE xs=Aa l
 |[],_=>⟨[],rfl⟩
 |x::xs,h=>by obtain⟨l,e⟩:=JF (xs:=xs) λy J=>h y (Bm _ J);obtain⟨q,Y⟩:=h x (Cr ..);refine⟨q::l,?_⟩;show (wx x).bind (λx=>(nE xs).map (x::·))=_;rw[e,Y];rfl
def o2 (h:∀ x∈xs,Pn x):Pn (.tup xs):=by obtain⟨l,e⟩:=JF h;exact⟨.tuple l,by simp only[wx,e,Ug]⟩
def YC (q:Pt):Pn (ay q):=⟨.tuple [.int q.1,.int q.2],Z⟩
def fZ (l:Ab Pt):Pn (qM l):=o2 λx Y=>by obtain⟨q,_,rfl⟩:=Cj.mp Y;exact YC q
noncomputable def inR (a b:Aq):D->Ar
 |.int i=>decide (a<=i/\i<=b)
 |_=>Yp
def _l:D->Ar
 |.int _=>Vq
 |_=>Yp
def il:D->Ar
 |.tup _=>Vq
 |_=>Yp
def cC (h:Pn d)(S:ag):zP [d,.ty "tuple"] S=.ok (.bl (il d)) S:=by obtain⟨p,h⟩:=h;cases d <;> first|kernel_rfl!|simp[wx] at h
def mS {U J Y:DE}{S:ag}(G:U ac S=.ok (.int a) S)(O:J ac S=.ok (.int b) S)(C:Y ac S=.ok (.int c) S)(q:Q (.bl (decide (a<=b/\b<=c))) S):Ok (wM sk sk U J Y ac S) Q:=by
 refine⟨_,_,?_,q⟩;unfold wM;rw[G,ax.bind_ok,O,ax.bind_ok];show (match xP (.bl (decide (a<=b))) S with|some Vq=>(Y ac S).bind λw N=>sk (.int b) w N|some Yp=>ax.ok (.bl (decide (a<=b))) S|none=>.bad)=_;by_cases h:a<=b
 .rw[Cm h];show (Y ac S).bind _=_;rw[C];simp only[h,true_and];rfl
 .rw[Bq h,Bq λz=>h z.1];rfl
abbrev xp:D->Ar:=inR (-1000) 1000
def xE:D->Ar
 |.tup [a,b]=>xp a&&xp b
 |_=>Yp
def jK (q:Pt):xE (ay q)=decide (gp 1000 q):=by show (decide (-1000<=q.1/\q.1<=1000)&&decide (-1000<=q.2/\q.2<=1000))=_;rw[<- Bool.decide_and];exact Zs.mpr ⟨λh=>⟨h.1.1,h.1.2,h.2.1,h.2.2⟩,λh=>⟨⟨h.1,h.2.1⟩,h.2.2.1,h.2.2.2⟩⟩
def U4 (h:xs.length=2):xE (.tup xs)=xs.all xp:=by
 match xs,h with
 |[a,b],_=>simp[xE]
def U5 (h:xs.length≠2):xE (.tup xs)=false:=by
 match xs,h with
 |[],_=>rfl
 |[_],_=>rfl
 |[_,_],h=>exact absurd rfl h
 |_::_::_::_,_=>rfl
def U6 (h:il d=Yp):xE d=false:=by cases d <;> first|rfl|cases h
def ph (ks:Ab (Ab Aq)):Ar:=(ks.zip (ks.drop 1)).all λp=>_H.lexLt p.1 p.2
def xY:D->Ar
 |.tup xs=>decide (1<=xs.length/\xs.length<=40)&&xs.all xE&&(match w5 xs with|some Y=>ph Y|none=>Yp)
 |_=>Yp
def QX (h:inR a b d=Vq):∃ i,d=.int i/\a<=i/\i<=b:=by cases d <;> first|exact⟨_,rfl,Bg h⟩|cases h
def n4 (h:xE d=Vq):∃ q,d=ay q/\gp 1000 q:=by
 unfold xE at h;split at h
 .rw[Av] at h;obtain⟨x,rfl,Y⟩:=QX h.1;obtain⟨y,rfl,J⟩:=QX h.2;exact⟨(x,y),rfl,Y.1,Y.2,J.1,J.2⟩
 .cases h
theorem k9:∀ {xs:Ab D},xs.all xE=Vq->∃ Y:Ab Pt,xs=Y.map ay/\∀ q∈Y,gp 1000 q
 |[],_=>⟨[],rfl,λ_ h=>by cases h⟩
 |d::G,h=>by
  rw[Ik,Av] at h;obtain⟨Y,rfl,J⟩:=k9 h.2;obtain⟨q,rfl,U⟩:=n4 h.1;refine⟨q::Y,rfl,λz hz=>?_⟩;rcases Ay.mp hz with rfl|hz
  .exact U
  .exact J z hz
def qAX (a b:Ab Aq)(S:ag):dW (mf a) (mf b) S=.ok (.bl (_H.lexLt a b)) S:=by unfold dW mf;simp only[eE]
theorem dB:∀ (ks:Ab (Ab Aq)),ph ks=Vq↔ks.Pairwise (λa b=>_H.lexLt a b=Vq)
 |[]=>by simp[ph]
 |[a]=>by simp[ph]
 |a::b::r=>by
  have U:=dB (b::r);have e:ph (a::b::r)=(_H.lexLt a b&&ph (b::r)):=by simp[ph]
  rw[e,Av,U,Fe (a:=a)];constructor
  .rintro⟨Y,J⟩;refine⟨λx hx=>?_,J⟩;rcases Ay.mp hx with rfl|hx
   .exact Y
   .exact _S.j8.tr Y ((Fe.mp J).1 x hx)
  .rintro⟨Y,J⟩;exact⟨Y b aA,J⟩
def OU (ks Y:Ab (Ab Aq)):yB (ks.map mf) (Y.map mf)=(ks.zip Y).map λp=>D.tup [mf p.1,mf p.2]:=by
 unfold yB
 induction ks generalizing Y with
 |nil=>rfl
 |cons k ks J =>
  cases Y with
  |nil=>rfl
  |cons m Y=>exact congrArg (_::·) (J Y)
def zg (h:il d=Yp):xY d=false:=by cases d <;> first|rfl|cases h
def jW {M:Aj}(O:M<=40){l:Ab Pt}(h:fx M l):xY (qM l)=true:=by
 show (decide (1<=(l.map ay).length/\(l.map ay).length<=40)&&(l.map ay).all xE&&(match w5 (l.map ay) with|some U=>ph U|none=>Yp))=Vq;have Y:1<=(l.map ay).length/\(l.map ay).length<=40:=by rw[Ao];exact⟨Hb.mpr h.ne,by have:=h.len;lia⟩
 have J:(l.map ay).all xE=true:=by rw[Ia];exact Bk.mpr λq G=>(jK q).trans (Cm (h.box q G))
 have N:ph (l.map kP)=true:=by rw[dB,Eh];exact h.up
 rw[Cm Y,J,uY,vQ];exact N
def LJ {x:D}(Y:x∈xs)(h:xE x=Yp):xY (.tup xs)=false:=by
 show (decide (1<=xs.length/\xs.length<=40)&&xs.all xE&&(match w5 xs with|some J=>ph J|none=>Yp))=Yp;have:xs.all xE=false:=by rw[List.all_eq_false];exact⟨x,Y,by rw[h];simp⟩
 rw[this,Hu,Gp]
def WA (xs:Ab D):wG xs (Aa 1) Zt=xs.drop 1:=by
 unfold wG;have Y:_H.di xs.length 0 (Aa 1)=min 1 xs.length:=rfl;have J:_H.di xs.length xs.length Zt=xs.length:=rfl;rw[Y,J];cases xs with
 |nil=>rfl
 |cons x r=>simp
def B_ {S:ag}{a:Ab D}{k:Aj}(l:a.length*k<=bb/\k<1000)(h:Q (.lst (Cu k a).flatten) S):Ok (pT (.lst a) (.int (k:Aq)) S) Q:=by
 refine⟨_,_,?_,h⟩;unfold pT;have c:0<=(k:Aq)/\(k:Aq)<2 ^ 62/\a.length*(k:Aq).toNat<=bb:=⟨by lia,by lia,by rw[EQ];exact l.1⟩
 refine(Au c).trans ?_;rw[EQ]
end _D
namespace _K
open _L _D
noncomputable def top (i:Aj):Du:=Qg.main.body.getD i (.Pass ⟨0,0,0,0⟩)
structure Cl where
 (FarError NoPoint NoLot NoNumber NoCircle NoMarks NoFars NoText NoLine NoDeed Alike TooMany Desk put take move turn mirror tell_lot tell_fars tell_many tell_often tell_threes tell_unlike tell_round tell_square tell_fits tell_bar tell_spare:Af)
noncomputable def zN (c:Cl):Ab Af:=[c.NoPoint,c.NoLot,c.NoNumber,c.NoCircle,c.NoMarks,c.NoFars,c.NoText,c.NoLine,c.NoDeed,c.Alike,c.TooMany]
noncomputable def yF (c:Cl):Ab Ac:=[.ref c.NoPoint,.ref c.NoLot,.ref c.NoNumber,.ref c.NoCircle,.ref c.NoMarks,.ref c.NoFars,.ref c.NoText,.ref c.NoLine,.ref c.NoDeed,.ref c.Alike,.ref c.TooMany]
noncomputable abbrev qo (c:Cl):Ab (Ah × Af):=[("FarError",c.FarError),("NoPoint",c.NoPoint),("NoLot",c.NoLot),("NoNumber",c.NoNumber),("NoCircle",c.NoCircle),("NoMarks",c.NoMarks),("NoFars",c.NoFars),("NoText",c.NoText),("NoLine",c.NoLine),("NoDeed",c.NoDeed),("Alike",c.Alike),("TooMany",c.TooMany),("Desk",c.Desk),("put",c.put),("take",c.take),("move",c.move),("turn",c.turn),("mirror",c.mirror),("tell_lot",c.tell_lot),("tell_fars",c.tell_fars),("tell_many",c.tell_many),("tell_often",c.tell_often),("tell_threes",c.tell_threes),("tell_unlike",c.tell_unlike),("tell_round",c.tell_round),("tell_square",c.tell_square),("tell_fits",c.tell_fits),("tell_bar",c.tell_bar),("tell_spare",c.tell_spare)]
noncomputable abbrev sw (c:Cl):Ab (Ah × Af):=[("NoPoint",c.NoPoint),("NoLot",c.NoLot),("NoNumber",c.NoNumber),("NoCircle",c.NoCircle),("NoMarks",c.NoMarks),("NoFars",c.NoFars),("NoText",c.NoText),("NoLine",c.NoLine),("NoDeed",c.NoDeed)]
noncomputable abbrev tw:Ab (Ah × Aq):=[("LEAST_NUMBER",-1000),("MOST_NUMBER",1000),("MOST_POINTS",40),("MOST_FIGURES",30)]
noncomputable abbrev bl:Ab Ah:=["ValueError","abs","all","bool","divmod","enumerate","int","isinstance","len","list","max","range","set","sorted","str","sum","tuple","zip"]
abbrev td (x:Ah)(n:Aj)(l:Y0):Ah × Aj × Ab Ah:=(x,n,l)
noncomputable abbrev tab:Ab (Ah × Aj × Ab Ah):=[td "is_whole" 14 ["thing"],td "is_within" 15 ["thing","least","most"],td "is_rising" 16 ["some"],td "need_number" 17 ["thing"],td "need_within" 18 ["thing","least","most"],td "is_point" 23 ["thing"],td "is_lot" 24 ["thing"],td "need_point" 25 ["thing"],td "need_lot" 26 ["thing"],td "far_between" 27 ["one","other"],td "pairs_by_far" 28 ["points"],td "far_table" 29 ["lot"],td "fars" 30 ["lot"],td "many_fars" 32 ["lot"],td "often" 33 ["lot","number"],td "rings" 34 ["lot","point"],td "even_threes" 35 ["lot"],td "least_where" 37 ["holds","most"],td "many_pairs" 38 ["n"],td "by_hull" 39 ["n"],td "pairs_of_shares" 40 ["whole","n"],td "pair_bound" 41 ["n"],td "by_pairs" 42 ["n"],td "bar" 43 ["n"],td "spare" 44 ["lot"],td "greatest_common" 46 ["one","other"],td "fraction" 47 ["top","bottom"],td "slant" 48 ["point","one","other"],td "round_groups" 49 ["one","other","points"],td "is_round" 50 ["lot"],td "moved" 52 ["lot","across","up"],td "turned_about" 53 ["lot"],td "mirrored" 54 ["lot"],td "number_in" 57 ["word"],td "point_in" 58 ["word"],td "shown" 59 ["lot"],td "read" 60 ["text"],td "is_square" 62 ["lot"],td "first_like" 64 ["lot"],td "need_unlike" 65 ["lot"],td "are_unlike" 66 ["points"],td "fits" 67 ["lot","point"],td "point_of" 71 ["word"],td "number_of" 72 ["word"],td "put" 73 ["lot","values"],td "take" 74 ["lot","values"],td "move" 75 ["lot","values"],td "turn" 76 ["lot","values"],td "mirror" 77 ["lot","values"],td "yes_or_no" 78 ["truth"],td "tell_lot" 79 ["lot","values"],td "tell_fars" 80 ["lot","values"],td "tell_many" 81 ["lot","values"],td "tell_often" 82 ["lot","values"],td "tell_threes" 83 ["lot","values"],td "tell_unlike" 84 ["lot","values"],td "tell_round" 85 ["lot","values"],td "tell_square" 86 ["lot","values"],td "tell_fits" 87 ["lot","values"],td "tell_bar" 88 ["lot","values"],td "tell_spare" 89 ["lot","values"],td "words_of" 93 ["line"],td "values_of" 94 ["words"],td "_law_cell" 97 ["_law_script","_law_k"],td "_law_pen" 98 ["_law_cell_here"],td "_law_draw" 99 ["_law_pen_here","_law_many"],td "_law_whole" 100 ["_law_thing"],td "_law_same" 101 ["_law_found","_law_due"],td "_law_kind_of" 102 ["_law_e"],td "_law_point" 103 ["_law_pen_here","_law_wide"],td "_law_lot" 104 ["_law_pen_here","_law_most"],td "_law_is_point" 105 ["_law_thing"],td "_law_is_lot" 106 ["_law_thing"],td "_law_text" 107 ["_law_lot_here"],td "_law_number" 108 ["_law_word"],td "_law_point_in" 109 ["_law_word"],td "_law_read" 110 ["_law_text_here"],td "_law_bent_text" 111 ["_law_pen_here","_law_text_here"],td "_law_said" 112 ["_law_desk","_law_line"],td "_law_changed" 113 ["_law_lot_here","_law_word","_law_things"],td "_law_went" 114 ["_law_state","_law_line"],td "_law_deed" 115 ["_law_pen_here","_law_state"],td "_law_told_right" 116 ["_law_lines"],td "law" 117 ["_law_script"]]
abbrev Txt (K:Ag)(mg:J8)(c:Cl):Prop:=zk K mg top tab bl (qo c) (sw c) (yF c) (zN c) tw
abbrev sD:Ab Ah:=["by_hull","pair_bound"]
noncomputable abbrev ym (c:Cl):Ab (Ah × Af × Ab Ah):=[("Alike",c.Alike,["one","two","three","four"]),("TooMany",c.TooMany,["many","most"])]
def VR:_b (U1 (top 11)) ["one","two","three","four"]:=⟨λq kV Q J N Y G U h=>by obtain⟨_,_,_,_,_,rfl⟩:=us5 h;rfl,kd,.cons (.cons (.cons (.cons (.nil))))⟩
def oV:_b (U1 (top 12)) ["many","most"]:=⟨λq kV Q J N Y G U h=>by obtain⟨_,_,_,rfl⟩:=_f h;rfl,kd,.cons (.cons (.nil))⟩
noncomputable abbrev xC:Ab (Ah × D):=[("put",.str "P"),("take",.str "P"),("move",.str "NN"),("turn",.str ""),("mirror",.str ""),("back",.str ""),("lot",.str ""),("fars",.str ""),("many",.str ""),("often",.str "N"),("threes",.str ""),("unlike",.str ""),("round",.str ""),("square",.str ""),("fits",.str "P"),("bar",.str ""),("spare",.str "")]
noncomputable abbrev xS (c:Cl):Ab (Ah × D):=[("put",.obj c.put),("take",.obj c.take),("move",.obj c.move),("turn",.obj c.turn),("mirror",.obj c.mirror)]
noncomputable abbrev y7 (c:Cl):Ab (Ah × D):=[("lot",.obj c.tell_lot),("fars",.obj c.tell_fars),("many",.obj c.tell_many),("often",.obj c.tell_often),("threes",.obj c.tell_threes),("unlike",.obj c.tell_unlike),("round",.obj c.tell_round),("square",.obj c.tell_square),("fits",.obj c.tell_fits),("bar",.obj c.tell_bar),("spare",.obj c.tell_spare)]
structure yr (K:Ag)(mg:J8)(c:Cl):Prop where
 dk_Desk:yj K c.Desk ["lots"]
 m_Desk_init:ug K c.Desk "__init__" "Desk.__init__" (wz (top 95) 0)
 m_Desk_say:ug K c.Desk "say" "Desk.say" (wz (top 95) 1)
 m_Desk_keep:ug K c.Desk "keep" "Desk.keep" (wz (top 95) 2)
 m_Desk_undo:ug K c.Desk "undo" "Desk.undo" (wz (top 95) 3)
 tab_FORMS:∃ a,mg "FORMS" = Aa (.ref a)/\vV K a xC
 tab_DEEDS:∃ a,mg "DEEDS" = Aa (.ref a)/\vV K a (xS c)
 tab_QUESTIONS:∃ a,mg "QUESTIONS" = Aa (.ref a)/\vV K a (y7 c)
 str_LOT_AND_BLANK:∃ t,mg "LOT_AND_BLANK" = Aa (.str "lot " t)
 tup_FIRST_LOT:∃ a,mg "FIRST_LOT" = Aa (.ref a)/\∀ P J,am K P J (D.tup [D.tup [D.int 0,D.int 0]]) (.ref a)
def tj (c:Cl):Ab Af:=[c.put,c.take,c.move,c.turn,c.mirror,c.tell_lot]
def iG:yo "__init__" (wz (top 95) 0) ["self"]:=λq kV Q J N Y G U h=>by obtain⟨_,rfl⟩:=S_ h;rfl
def oX:yo "say" (wz (top 95) 1) ["self","line"]:=λq kV Q J N Y G U h=>by obtain⟨_,_,rfl⟩:=R_ h;rfl
def iH:yo "keep" (wz (top 95) 2) ["self","lot"]:=λq kV Q J N Y G U h=>by obtain⟨_,_,rfl⟩:=R_ h;rfl
def iI:yo "undo" (wz (top 95) 3) ["self"]:=λq kV Q J N Y G U h=>by obtain⟨_,rfl⟩:=S_ h;rfl
abbrev vc (a:DE):=qA a qC
abbrev vd (a b:DE):=qA a (vc b)
abbrev vf (a b c:DE):=qA a (vd b c)
abbrev vg (a b c d:DE):=qA a (vf b c d)
abbrev ic (i:Int):DE:=dC (.int i)
abbrev ig (x:Str):DE:=dC (.str x)
abbrev vh:DE:=qB 0
abbrev vi:DE:=qB 1
abbrev vj:DE:=qB 2
abbrev vm:DE:=qB 3
abbrev vn:DE:=qB 4
abbrev vo:DE:=qB 5
abbrev vp:DE:=qB 6
abbrev lx:DS:=qE (cu (bh (d2 fq (d2 b_ vh (ic 1)) (ic 1))) (qE (qV (d2 uL (d2 b_ vh (ic 0)) vi) (be 2)) (qE (qV (d2 jU (d2 b_ vh (ic 0)) vi) (yz vh (ic 0) mL)) (qO vj))) qS) (qE (qV (d2 uL (d2 qW (d2 yQ (d2 uL (d2 b_ vh (ic 0)) (ic 2147483629)) (ic 48271)) (ic 11)) (ic 2147483629)) (yz vh (ic 0) mL)) (qO (d2 uL (d2 jU (d2 uL (d2 qW (d2 yQ (d2 b_ vh (ic 0)) (d2 b_ vh (ic 0))) (d2 yQ (ic 40692) (d2 b_ vh (ic 0)))) (ic 2147483647)) (ic 8)) vi)))
@[irreducible] def av:DF:=sh (qL 3 lx)
def gO:av=qL 3 lx:=by delta av;exact zD _
abbrev gl (c:Cl):DS:=lV c.Desk "lots" vh (mI (vc (dC (D.tup [D.tup [D.int 0,D.int 0]]))))
@[irreducible] def dh (c:Cl):DF:=sh (qL 1 (gl c))
def gK (c:Cl):dh c=qL 1 (gl c):=by delta dh;exact zD _
abbrev ix (c:Cl):DS:=qE (qV (zJ (vg (qH (xQ (zN c)) (vd vh (dC (.obj c.NoPoint)))) (qH (xQ (zN c)) (vd vh (dC (.obj c.NoLot)))) (qH (xQ (zN c)) (vd vh (dC (.obj c.NoNumber)))) (qH (xQ (zN c)) (vd vh (dC (.obj c.NoCircle)))))) (be 1)) (qE (qV (d2 qW vi (zJ (vg (qH (xQ (zN c)) (vd vh (dC (.obj c.NoMarks)))) (qH (xQ (zN c)) (vd vh (dC (.obj c.NoFars)))) (qH (xQ (zN c)) (vd vh (dC (.obj c.NoText)))) (qH (xQ (zN c)) (vd vh (dC (.obj c.NoLine))))))) (be 1)) (qE (qV (d2 qW vi (zJ (vf (qH (xQ (zN c)) (vd vh (dC (.obj c.NoDeed)))) (qH (xQ (zN c)) (vd vh (dC (.obj c.Alike)))) (qH (xQ (zN c)) (vd vh (dC (.obj c.TooMany))))))) (be 1)) (qE (cu (w6 (x5 (bh (qH (xQ (zN c)) (vd vh (dC (.ty "ValueError")))))) (bh (d2 jo (kj "list" fJ vi (vc (dC (.bl Vq)))) (ic 1)))) (qO (ig "other")) qS) (qE (cu (bh (qH (xQ (zN c)) (vd vh (dC (.obj c.Alike))))) (qO (zJ (qA (ig "alike") (vg (vD [c.Alike] "one" vh) (vD [c.Alike] "two" vh) (vD [c.Alike] "three" vh) (vD [c.Alike] "four" vh))))) qS) (qE (cu (bh (qH (xQ (zN c)) (vd vh (dC (.obj c.TooMany))))) (qO (zJ (vf (ig "many") (vD [c.TooMany] "many" vh) (vD [c.TooMany] "most" vh)))) qS) (qE (qV (zJ (qA (ig "point") (qA (ig "lot") (qA (ig "number") (qA (ig "circle") (qA (ig "marks") (vg (ig "fars") (ig "text") (ig "line") (ig "deed")))))))) (be 2)) (qO (d2 b_ vj (kj "list" fK vi (vc (dC (.bl Vq))))))))))))
@[irreducible] def aw (c:Cl):DF:=sh (qL 3 (ix c))
def yT (c:Cl):aw c=qL 3 (ix c):=by delta aw;exact zD _
abbrev lh:DS:=qE (qV (kj "str" tV vh (vc (ig "-"))) (be 1)) (qE (cu (w6 (bh (d2 yl (qH zW (vc vi)) (ic 30))) (x5 (bh (aI "str" i0 vi)))) (qO (dC .non)) qS) (qE (qV (qH pQ (vc vh)) (be 2)) (qO (ny (bh (d2 fq (qH jC (vc vj)) vh)) vj (dC .non)))))
@[irreducible] def ec:DF:=sh (qL 3 lh)
def gV:ec=qL 3 lh:=by delta ec;exact zD _
abbrev m_:DS:=qO (jS (qH zP (vd vh (dC (.ty "int")))) (WB (qH zP (vd vh (dC (.ty "bool"))))))
@[irreducible] def fg:DF:=sh (qL 1 m_)
def bQ:fg=qL 1 m_:=by delta fg;exact zD _
abbrev lj:DS:=qO (jS (qI 1 fg (vc vh)) (wM sk sk vi vh vj))
@[irreducible] def fr:DF:=sh (qL 3 lj)
def gU:fr=qL 3 lj:=by delta fr;exact zD _
abbrev nc:DS:=qE (cu (w6 (x5 (bh (qH zP (vd vh (dC (.ty "tuple")))))) (bh (d2 jo (qH zW (vc vh)) (ic 2)))) (qO (dC (.bl Yp))) qS) (qO (qH (pP Yp) (vc (z0 Yp [Zt] (jc vh) (be 0) zU (qX (qI 3 (kf fr) (vf vh (dC (.int (-1000))) (ic 1000))))))))
@[irreducible] def dz:DF:=sh (qL 1 nc)
def bP:dz=qL 1 nc:=by delta dz;exact zD _
abbrev mx:DS:=qE (qV (qH xN (vc (z0 Yp [Zt] (jc (kj "str" wQ vh (vc (ig ",")))) (be 0) zU (qX (qI 1 (kf ec) (vc vh)))))) (be 1)) (qO (ny (bh (qI 1 dz (vc vi))) vi (dC .non)))
@[irreducible] def ff:DF:=sh (qL 2 mx)
def bT:ff=qL 2 mx:=by delta ff;exact zD _
abbrev lq:DS:=qO (qH (pP Yp) (vc (z0 Yp [Zt,Zt] (xH (dN (vd vh (nq vh (zF (ic 1)) zL)))) (lc 2 (qY (be 0) (qY (be 1) xD))) zU (qX (d2 dW vh vi)))))
@[irreducible] def ft:DF:=sh (qL 1 lq)
def gT:ft=qL 1 lq:=by delta ft;exact zD _
abbrev pq:DS:=qE (cu (w6 (x5 (bh (qH zP (vd vh (dC (.ty "tuple")))))) (x5 (bh (wM sk sk (ic 1) (qH zW (vc vh)) (ic 40))))) (qO (dC (.bl Yp))) qS) (qO (jS (qH (pP Yp) (vc (z0 Yp [Zt] (jc vh) (be 0) zU (qX (qI 1 (kf dz) (vc vh)))))) (qI 1 ft (vc vh))))
@[irreducible] def gx:DF:=sh (qL 1 pq)
def mY:gx=qL 1 pq:=by delta gx;exact zD _
abbrev qp (c:Cl):DS:=qE (cu (x5 (bh (qH zP (vd vh (dC (.ty "str")))))) (xG (.ref c.NoText) (vc (ig "a text is needed"))) qS) (qE (qV (qH xN (vc (z0 Yp [Zt] (jc (kj "str" wQ vh (vc (ig " ")))) (be 0) zU (qX (qI 1 (kf ff) (vc vh)))))) (be 1)) (qE (cu (x5 (bh (qI 1 gx (vc vi)))) (xG (.ref c.NoText) (vc (ig "the text writes no lot"))) qS) (qO vi)))
@[irreducible] def jj (c:Cl):DF:=sh (qL 2 (qp c))
def f9 (c:Cl):jj c=qL 2 (qp c):=by delta jj;exact zD _
abbrev i_ (c:Cl):DS:=qE (wD (kj "list" wZ (d1 (y8 c.Desk "lots") vh) (vc vi))) (qO (ig "ok"))
@[irreducible] def bj (c:Cl):DF:=sh (qL 2 (i_ c))
def gL (c:Cl):bj c=qL 2 (i_ c):=by delta bj;exact zD _
abbrev lg (c:Cl):DS:=qE (qV (qI 1 ec (vc vh)) (be 1)) (qE (cu (bh (d2 xb vi (dC .non))) (xG (.ref c.NoNumber) (vc (ig "the word writes no number"))) qS) (qO vi))
@[irreducible] def cj (c:Cl):DF:=sh (qL 2 (lg c))
def uK (c:Cl):cj c=qL 2 (lg c):=by delta cj;exact zD _
abbrev mw (c:Cl):DS:=qE (qV (qI 1 ff (vc vh)) (be 1)) (qE (cu (bh (d2 xb vi (dC .non))) (xG (.ref c.NoPoint) (vc (ig "the word writes no point"))) qS) (qO vi))
@[irreducible] def de (c:Cl):DF:=sh (qL 2 (mw c))
def j6 (c:Cl):de c=qL 2 (mw c):=by delta de;exact zD _
abbrev ir (c:Cl):DS:=qO (z0 Yp [Zt,Zt] (xH (nV (vd (d1 (yU xC) (d2 b_ vh (ic 0))) (nq vh (zF (ic 1)) zL)))) (lc 2 (qY (be 0) (qY (be 1) xD))) zU (qX (ny (bh (d2 fq vh (ig "P"))) (qI 1 (kf (de c)) (vc vi)) (qI 1 (kf (cj c)) (vc vi)))))
@[irreducible] def bz (c:Cl):DF:=sh (qL 1 (ir c))
def gW (c:Cl):bz c=qL 1 (ir c):=by delta bz;exact zD _
abbrev mr (c:Cl):DS:=qE (qV (kj "str" wQ vh (vc (ig " "))) (be 1)) (qE (cu (w6 (bh (d2 ti (ig "") vi)) (w6 (bh (d1 (yG Vq xC) (d2 b_ vi (ic 0)))) (bh (d2 jo (qH zW (vc vi)) (d2 qW (qH zW (vc (d1 (yU xC) (d2 b_ vi (ic 0))))) (ic 1)))))) (xG (.ref c.NoLine) (vc (ig "this is no line"))) qS) (qO vi))
@[irreducible] def gc (c:Cl):DF:=sh (qL 2 (mr c))
def bV (c:Cl):gc c=qL 2 (mr c):=by delta gc;exact zD _
abbrev jf (c:Cl):DS:=cu (x5 (bh (qI 1 fg (vc vh)))) (xG (.ref c.NoNumber) (vc (ig "a whole number is needed"))) qS
@[irreducible] def cw (c:Cl):DF:=sh (qL 1 (jf c))
def jP (c:Cl):cw c=qL 1 (jf c):=by delta cw;exact zD _
abbrev jv (c:Cl):DS:=cu (x5 (bh (qI 1 dz (vc vh)))) (xG (.ref c.NoPoint) (vc (ig "a point is needed"))) qS
@[irreducible] def dj (c:Cl):DF:=sh (qL 1 (jv c))
def vU (c:Cl):dj c=qL 1 (jv c):=by delta dj;exact zD _
abbrev my (c:Cl):DS:=cu (x5 (bh (qI 1 gx (vc vh)))) (xG (.ref c.NoLot) (vc (ig "a lot is needed"))) qS
@[irreducible] def df (c:Cl):DF:=sh (qL 1 (my c))
def bS (c:Cl):df c=qL 1 (my c):=by delta df;exact zD _
abbrev oy (c:Cl):DS:=qE (wD (qI 1 (df c) (vc vh))) (qE (wD (qI 1 (cw c) (vc vi))) (qE (wD (qI 1 (cw c) (vc vj))) (qE (qV (qH xN (vc (z0 Yp [Zt,Zt,Aa 1,Aa 2] (jc vh) (lc 2 (qY (be 0) (qY (be 1) xD))) zU (qX (zO (vd (d2 qW vh vj) (d2 qW vi vm))))))) (be 3)) (qE (gF (u0 vm) (be 4) (wD (qI 1 (dj c) (vc vn)))) (qO vm)))))
@[irreducible] def fj (c:Cl):DF:=sh (qL 5 (oy c))
def pL (c:Cl):fj c=qL 5 (oy c):=by delta fj;exact zD _
abbrev oz (c:Cl):DS:=qO (qI 3 (fj c) (vf vh (d2 b_ vi (ic 0)) (d2 b_ vi (ic 1))))
@[irreducible] def gt (c:Cl):DF:=sh (qL 2 (oz c))
def rF (c:Cl):gt c=qL 2 (oz c):=by delta gt;exact zD _
abbrev qv (c:Cl):DS:=qE (wD (qI 1 (df c) (vc vh))) (qO (kj "str" jD (ig " ") (vc (z0 Yp [Zt,Zt] (jc vh) (lc 2 (qY (be 0) (qY (be 1) xD))) zU (qX (c9 [d1 pS (qB 0),dC (.str ","),d1 pS (qB 1)]))))))
@[irreducible] def ke (c:Cl):DF:=sh (qL 1 (qv c))
def nO (c:Cl):ke c=qL 1 (qv c):=by delta ke;exact zD _
abbrev mv (c:Cl):DS:=qO (qI 1 (ke c) (vc vh))
@[irreducible] def cf (c:Cl):DF:=sh (qL 2 (mv c))
def bU (c:Cl):cf c=qL 2 (mv c):=by delta cf;exact zD _
abbrev iy (c:Cl):DS:=qE (cu (bh (d2 fq (qH zW (vc (d1 (y8 c.Desk "lots") vh))) (ic 1))) (xG (.ref c.NoDeed) (vc (ig "no deed stands"))) qS) (qE (wD (aI "list" nZ (d1 (y8 c.Desk "lots") vh))) (qO (ig "ok")))
@[irreducible] def bw (c:Cl):DF:=sh (qL 1 (iy c))
def uI (c:Cl):bw c=qL 1 (iy c):=by delta bw;exact zD _
abbrev iu (c:Cl):DS:=qE (wD (qI 1 (df c) (vc vh))) (qO (qH xN (vc (qH wY (vc (z0 Yp [Zt,Zt] (jc vh) (lc 2 (qY (be 0) (qY (be 1) xD))) zU (qX (zO (vd (d1 y9 vi) vh)))))))))
@[irreducible] def dc (c:Cl):DF:=sh (qL 1 (iu c))
def jB (c:Cl):dc c=qL 1 (iu c):=by delta dc;exact zD _
abbrev uc (c:Cl):DS:=qO (qI 1 (dc c) (vc vh))
@[irreducible] def gq (c:Cl):DF:=sh (qL 2 (uc c))
def rG (c:Cl):gq c=qL 2 (uc c):=by delta gq;exact zD _
abbrev mz (c:Cl):DS:=qE (wD (qI 1 (df c) (vc vh))) (qO (qH xN (vc (qH wY (vc (z0 Yp [Zt,Zt] (jc vh) (lc 2 (qY (be 0) (qY (be 1) xD))) zU (qX (zO (vd vi vh)))))))))
@[irreducible] def ge (c:Cl):DF:=sh (qL 1 (mz c))
def bR (c:Cl):ge c=qL 1 (mz c):=by delta ge;exact zD _
abbrev pj (c:Cl):DS:=qO (qI 1 (ge c) (vc vh))
@[irreducible] def dw (c:Cl):DF:=sh (qL 2 (pj c))
def mZ (c:Cl):dw c=qL 2 (pj c):=by delta dw;exact zD _
abbrev ud (c:Cl):DS:=qE (cu (bh (d2 gZ (d2 b_ vi (ic 0)) vh)) (xG (.ref c.NoDeed) (vc (ig "the point is not in the lot"))) qS) (qE (cu (bh (d2 fq (qH zW (vc vh)) (ic 1))) (xG (.ref c.NoDeed) (vc (ig "the point is the only one"))) qS) (qO (qH xN (vc (z0 Yp [Zt,Aa 1] (jc vh) (be 0) (yO (bh (d2 jo vh (d2 b_ vi (ic 0)))) zU) (qX vh))))))
@[irreducible] def fy (c:Cl):DF:=sh (qL 2 (ud c))
def kK (c:Cl):fy c=qL 2 (ud c):=by delta fy;exact zD _
abbrev xf (c:Cl):DS:=qE (cu (bh (d2 ti (d2 b_ vi (ic 0)) vh)) (xG (.ref c.NoDeed) (vc (ig "the point is in the lot"))) qS) (qE (cu (bh (d2 y_ (qH zW (vc vh)) (ic 40))) (pG (.ref c.TooMany) ["many","most"] (vd (d2 qW (qH zW (vc vh)) (ic 1)) (ic 40))) qS) (qO (qH xN (vc (qH wY (vc (d2 qW vh (zO (vc (d2 b_ vi (ic 0)))))))))))
@[irreducible] def ik (c:Cl):DF:=sh (qL 2 (xf c))
def pM (c:Cl):ik c=qL 2 (xf c):=by delta ik;exact zD _
abbrev f_ (c:Cl):DS:=qE (cu (x5 (bh (qH zP (vd vi (dC (.ty "str")))))) (xG (.ref c.NoLine) (vc (ig "a text is needed"))) qS) (qE (cu (bh (kj "str" p6 vi (vc (ig "lot ")))) (qO (xF c.Desk "keep" 2 (bj c) vh (vc (qI 1 (jj c) (vc (kj "str" tV vi (vc (ig "lot ")))))))) qS) (qE (qV (qI 1 (gc c) (vc vi)) (be 2)) (qE (qV (qI 1 (bz c) (vc vj)) (be 3)) (qE (cu (bh (d2 fq (d2 b_ vj (ic 0)) (ig "back"))) (qO (xF c.Desk "undo" 1 (bw c) vh qC)) qS) (qE (cu (bh (d1 (yG Yp (xS c)) (d2 b_ vj (ic 0)))) (qE (qV (d1 (yU (xS c)) (d2 b_ vj (ic 0))) (be 4)) (qO (xF c.Desk "keep" 2 (bj c) vh (vc (vZ 4 [(c.put,2,ik c),(c.take,2,fy c),(c.move,2,gt c),(c.turn,2,gq c),(c.mirror,2,dw c),(c.tell_lot,2,cf c)] (vd (d2 b_ (d1 (y8 c.Desk "lots") vh) (d1 y9 (ic 1))) vm)))))) qS) (qE (qV (d1 (yU (y7 c)) (d2 b_ vj (ic 0))) (be 5)) (qO (vZ 5 [(c.put,2,ik c),(c.take,2,fy c),(c.move,2,gt c),(c.turn,2,gq c),(c.mirror,2,dw c),(c.tell_lot,2,cf c)] (vd (d2 b_ (d1 (y8 c.Desk "lots") vh) (d1 y9 (ic 1))) vm)))))))))
@[irreducible] def a_ (c:Cl):DF:=sh (qL 6 (f_ c))
def bM (c:Cl):a_ c=qL 6 (f_ c):=by delta a_;exact zD _
abbrev gk (c:Cl):DS:=nF 3 2 (yF c) (qO (xF c.Desk "say" 2 (a_ c) vh (vc vi))) (qO (zJ (vd (ig "no") (qI 1 (aw c) (vc vj)))))
@[irreducible] def bv (c:Cl):DF:=sh (qL 3 (gk c))
def uJ (c:Cl):bv c=qL 3 (gk c):=by delta bv;exact zD _
abbrev l_:DS:=qE (cu (bh (d2 vw vi (qH zW (vc vh)))) (qO (d2 b_ vh vi)) qS) (qO (ic 0))
@[irreducible] def ef:DF:=sh (qL 2 l_)
def gM:ef=qL 2 l_:=by delta ef;exact zD _
abbrev jy:DS:=qO (zO (vd (d2 j7 (qI 2 av (vd vh (d2 qW (d2 yQ (ic 2) vi) (ic 1)))) vi) (d2 j7 (qI 2 av (vd vh (d2 qW (d2 yQ (ic 2) vi) (ic 1)))) vi)))
@[irreducible] def cn:DF:=sh (qL 2 jy)
def kI:cn=qL 2 jy:=by delta cn;exact zD _
abbrev gw:DS:=qE (gG 2 3 (vd (qI 2 av (vd vh (ic 12))) (qI 2 av (vd vh (d2 qW (qH zW (vc vi)) (ic 1)))))) (qE (qV (d2 tU (ig "0123456789 ,-+.\nx_:;") (qI 2 av (vd vh (ic 20)))) (be 4)) (qE (qV (kj "str" wQ vi (vc (ig " "))) (be 5)) (qE (qV (qI 2 av (vd vh (qH zW (vc vo)))) (be 6)) (qE (qV (d2 b_ vo vp) (be 7)) (qE (qV (d2 pT (zJ (vc (d2 qW (d2 qW (vE vi zL (zF vm)) vn) (vE vi (zF vm) zL)))) (ic 3)) (be 8)) (qE (qV (d2 qW (qB 8) (d2 pT (zJ (vc (d2 qW (d2 qW (vE vi zL (zF vm)) vn) (vE vi (zF (d2 qW vm (ic 1))) zL)))) (ic 2))) (be 8)) (qE (qV (d2 pR (qB 8) (zJ (vg (d2 qW (vE vi zL (zF vm)) (vE vi (zF (d2 qW vm (ic 1))) zL)) (d2 qW vi (ig " ")) (d2 qW (ig " ") vi) (fF " " "  " vi)))) (be 8)) (qE (gF (u0 (zJ (vf (zJ (vd (qB 7) (qB 7))) (zJ (vc (fG (qB 7) (d1 y9 (ic 1))))) (d2 qW (nq vo (zF (d2 qW vp (ic 1))) (zF (d2 qW vp (ic 2)))) (zJ (vc (qB 7))))))) (be 9) (wD (kj "list" wZ (qB 8) (vc (kj "str" jD (ig " ") (vc (d2 qW (d2 qW (nq vo zL (zF vp)) (qB 9)) (nq vo (zF (d2 qW vp (ic 1))) zL)))))))) (qO (vE (d2 b_ (qB 8) vj) zL (zF (ic 600))))))))))))
@[irreducible] def cg:DF:=sh (qL 10 gw)
def uG:cg=qL 10 gw:=by delta cg;exact zD _
abbrev lr:DS:=qO (kj "str" jD (ig " ") (vc (z0 Yp [Zt,Zt] (jc vh) (lc 2 (qY (be 0) (qY (be 1) xD))) zU (qX (d2 qW (d2 qW (qH jC (vc vh)) (ig ",")) (qH jC (vc vi)))))))
@[irreducible] def bc:DF:=sh (qL 1 lr)
def gR:bc=qL 1 lr:=by delta bc;exact zD _
abbrev nh:DS:=qE (gG 2 3 (vd (qI 2 av (vd vh (ic 7))) (d2 qW (ic 1) (qI 2 av (vd vh vi))))) (qE (qV (zO (vd (d2 b_ (zJ (qA (ic 1) (vg (ic 2) (ic 4) (ic 12) (ic 1000)))) (qI 2 av (vd vh (ic 5)))) (qI 2 cn (vd vh (ic 400))))) (lc 2 (qY (be 4) (qY (be 5) xD)))) (qE (qV (d2 qW (ic 1) (qI 2 av (vd vh (ic 9)))) (be 6)) (qE (qV (z0 Yp [Zt,Aa 0,Aa 4] (xH (u4 (vc vm))) (be 0) zU (qX (qI 2 (kf cn) (vd vi vj)))) (be 7)) (qE (cu (bh (d2 fq vj (ic 0))) (qV (z0 Yp [Zt,Aa 5] (xH (u4 (vc vm))) (be 0) zU (qX (zO (vd (d2 qW (d2 b_ vi (ic 0)) (d2 uL vh (ic 4))) (d2 qW (d2 b_ vi (ic 1)) (d2 jU vh (ic 4))))))) (be 7)) qS) (qE (cu (bh (d2 fq vj (ic 1))) (qV (z0 Yp [Zt,Aa 5,Aa 6] (xH (u4 (vc vm))) (be 0) zU (qX (zO (vd (d2 qW (d2 b_ vi (ic 0)) (d2 yQ vj vh)) (d2 j7 (d2 b_ vi (ic 1)) vh))))) (be 7)) qS) (qE (cu (bh (d2 fq vj (ic 2))) (qE (qV (nq (qB 7) zL (zF (d2 qW (ic 1) (d2 jU vm (ic 4))))) (be 8)) (qE (qV (d2 qW (d2 qW (qB 8) (z0 Yp [Zt,Zt] (jc (qB 8)) (lc 2 (qY (be 0) (qY (be 1) xD))) zU (qX (zO (vd (d2 j7 (ic 0) vi) vh))))) (z0 Yp [Zt,Zt] (jc (qB 8)) (lc 2 (qY (be 0) (qY (be 1) xD))) zU (qX (zO (vd (d2 j7 (ic 0) vh) (d2 j7 (ic 0) vi)))))) (be 7)) (qV (d2 qW (qB 7) (z0 Yp [Zt,Zt] (jc (qB 8)) (lc 2 (qY (be 0) (qY (be 1) xD))) zU (qX (zO (vd vi (d2 j7 (ic 0) vh)))))) (be 7)))) qS) (qO (qH xN (vc (uU Yp (nq (qB 7) zL (zF vm))))))))))))
@[irreducible] def gg:DF:=sh (qL 9 nh)
def bN:gg=qL 9 nh:=by delta gg;exact zD _
abbrev lz:DS:=qE (qV vi (lc 2 (qY (be 2) (qY (be 3) xD)))) (qE (lW 4 5 6 (vf (qI 2 av (vd vh (ic 20))) (d2 b_ (zJ (vg (ic 2) (ic 5) (ic 30) (ic 1000))) (qI 2 av (vd vh (ic 4)))) (qI 2 gg (vd vh (ic 12))))) (qE (gG 7 8 (vd (d2 b_ vj (qI 2 av (vd vh (qH zW (vc vj))))) (qI 2 cn (vd vh vo)))) (qE (qV (d2 b_ (zJ (qA (ig "0") (qA (ig "0,01") (qA (ig "x") (qA (ig "1001,0") (qA (ig "0,0,0") (qA (ig "-0,0") (vg (ig "0,") (ig "1,2\n") (ig "+1,0") (ig "--1,0"))))))))) (qI 2 av (vd vh (ic 10)))) (be 9)) (qE (qV (d2 b_ (zJ (vd (ig "put ") (ig "take "))) (qI 2 av (vd vh (ic 2)))) (be 10)) (qE (cu (bh (d2 vw vn (ic 3))) (qE (qV (qI 1 bc (vc vp)) (be 11)) (qO (d2 qW (ig "lot ") (d2 b_ (zJ (vf (qB 11) (qI 2 cg (vd vh (qB 11))) (qI 1 bc (vc (d2 qW vj (zO (vc (zO (vd (ic 999) (ic 999)))))))))) vn)))) qS) (qE (cu (bh (d2 vw vn (ic 8))) (qO (d2 qW (ig "put ") (qI 1 bc (vc (zJ (vc (qB 8))))))) qS) (qE (cu (bh (d2 vw vn (ic 12))) (qO (d2 qW (qB 10) (qI 1 bc (vc (zJ (vc (qB 7))))))) qS) (qE (cu (bh (d2 fq vn (ic 12))) (qO (d2 qW (qB 10) (qB 9))) qS) (qE (cu (bh (d2 vw vn (ic 15))) (qO (d2 qW (d2 qW (d2 qW (ig "move ") (qH jC (vc (d2 b_ (qB 8) (ic 0))))) (ig " ")) (d2 b_ (zJ (vd (qH jC (vc (d2 b_ (qB 8) (ic 1)))) (ig "01"))) (qH aU (vc (d2 fq (qI 2 av (vd vh (ic 9))) (ic 0))))))) qS) (qO (d2 b_ (zJ (qA (ig "turn") (vg (ig "mirror") (ig "back") (ig "back") (ig "back")))) (d2 j7 vn (ic 15)))))))))))))
@[irreducible] def fw:DF:=sh (qL 12 lz)
def gN:fw=qL 12 lz:=by delta fw;exact zD _
abbrev jx:DS:=qO (jS (qH zP (vd vh (dC (.ty "int")))) (WB (qH zP (vd vh (dC (.ty "bool"))))))
@[irreducible] def et:DF:=sh (qL 1 jx)
def kJ:et=qL 1 jx:=by delta et;exact zD _
abbrev ii:DS:=qE (cu (w6 (x5 (bh (qH zP (vd vh (dC (.ty "tuple")))))) (bh (d2 jo (qH zW (vc vh)) (ic 2)))) (qO (dC (.bl Yp))) qS) (qO (qH (pP Yp) (vc (z0 Yp [Zt] (jc vh) (be 0) zU (qX (jS (qI 1 (kf et) (vc vh)) (wM sk sk (d1 y9 (ic 1000)) vh (ic 1000))))))))
@[irreducible] def cb:DF:=sh (qL 1 ii)
def uR:cb=qL 1 ii:=by delta cb;exact zD _
abbrev jg:DS:=qE (qV (ny (bh (d2 fq (vE vh zL (zF (ic 1))) (ig "-"))) (vE vh (zF (ic 1)) zL) vh) (be 1)) (qE (cu (w6 (bh (d2 fq vi (ig ""))) (w6 (bh (d2 yl (qH zW (vc vi)) (ic 30))) (bh (d2 jo (z0 Yp [Zt] (xH (jT vi)) (be 0) (yO (bh (d2 (tS Vq) vh (ig "0123456789"))) zU) (qX vh)) (zJ qC))))) (qO (dC .non)) qS) (qE (cu (yO (bh (d2 fq (d2 tU vi (ic 0)) (ig "0"))) (bh (d2 jo vh (ig "0")))) (qO (dC .non)) qS) (qO (qH pQ (vc vh)))))
@[irreducible] def bg:DF:=sh (qL 2 jg)
def jO:bg=qL 2 jg:=by delta bg;exact zD _
abbrev h_:DS:=qE (qV (qH xN (vc (z0 Yp [Zt] (jc (kj "str" wQ vh (vc (ig ",")))) (be 0) zU (qX (qI 1 (kf bg) (vc vh)))))) (be 1)) (qO (ny (bh (qI 1 cb (vc vi))) vi (dC .non)))
@[irreducible] def ba:DF:=sh (qL 2 h_)
def uS:ba=qL 2 h_:=by delta ba;exact zD _
abbrev jh:DS:=qE (cu (w6 (x5 (bh (qH zP (vd vh (dC (.ty "tuple")))))) (w6 (x5 (bh (wM sk sk (ic 1) (qH zW (vc vh)) (ic 40)))) (x5 (bh (qH (pP Yp) (vc (z0 Yp [Zt] (jc vh) (be 0) zU (qX (qI 1 (kf cb) (vc vh)))))))))) (qO (dC (.bl Yp))) qS) (qO (d2 fq (qH cA (vc vh)) (uU Yp vh)))
@[irreducible] def cx:DF:=sh (qL 1 jh)
def jN:cx=qL 1 jh:=by delta cx;exact zD _
abbrev lu:DS:=qE (qV (qH xN (vc (z0 Yp [Zt] (jc (kj "str" wQ vh (vc (ig " ")))) (be 0) zU (qX (qI 1 (kf ba) (vc vh)))))) (be 1)) (qO (ny (bh (qI 1 cx (vc vi))) vi (dC .non)))
@[irreducible] def fu:DF:=sh (qL 2 lu)
def gP:fu=qL 2 lu:=by delta fu;exact zD _
abbrev br:DS:=qE (cu (bh (d2 fq vi (ig "put"))) (qE (cu (bh (d2 ti (d2 b_ vj (ic 0)) vh)) (qO (ig "deed")) qS) (qO (ny (bh (d2 fq (qH zW (vc vh)) (ic 40))) (zJ (vf (ig "many") (ic 41) (ic 40))) (qH xN (vc (qH wY (vc (d2 qW vh (zO (vc (d2 b_ vj (ic 0)))))))))))) qS) (qE (cu (bh (d2 fq vi (ig "take"))) (qE (cu (w6 (bh (d2 gZ (d2 b_ vj (ic 0)) vh)) (bh (d2 fq (qH zW (vc vh)) (ic 1)))) (qO (ig "deed")) qS) (qO (qH xN (vc (z0 Yp [Zt,Aa 2] (jc vh) (be 0) (yO (bh (d2 jo vh (d2 b_ vi (ic 0)))) zU) (qX vh)))))) qS) (qE (cu (bh (d2 fq vi (ig "move"))) (qE (qV (qH xN (vc (qH wY (vc (z0 Yp [Zt,Zt,Aa 2] (jc vh) (lc 2 (qY (be 0) (qY (be 1) xD))) zU (qX (zO (vd (d2 qW vh (d2 b_ vj (ic 0))) (d2 qW vi (d2 b_ vj (ic 1))))))))))) (be 3)) (qO (ny (bh (qI 1 cx (vc vm))) vm (ig "point")))) qS) (qO (qH xN (vc (qH wY (vc (z0 Yp [Zt,Zt,Aa 1] (jc vh) (lc 2 (qY (be 0) (qY (be 1) xD))) zU (qX (ny (bh (d2 fq vj (ig "turn"))) (zO (vd (d2 j7 (ic 0) vi) vh)) (zO (vd vi vh))))))))))))
@[irreducible] def bo:DF:=sh (qL 4 br)
def jA:bo=qL 4 br:=by delta bo;exact zD _
abbrev iw:DS:=qE (qV vh (lc 2 (qY (be 2) (qY (be 3) xD)))) (qE (cu (bh (d2 fq vi (ig "back"))) (qO (ny (bh (d2 fq vm (zO qC))) (zO (vd (zJ (vd (ig "no") (ig "deed"))) vh)) (zO (vd (ig "ok") (zO (vd (d2 b_ vm (d1 y9 (ic 1))) (nq vm zL (zF (d1 y9 (ic 1)))))))))) qS) (qE (cu (bh (d2 fq (vE vi zL (zF (ic 4))) (ig "lot "))) (qE (qV (qI 1 fu (vc (vE vi (zF (ic 4)) zL))) (be 4)) (qO (ny (bh (d2 xb vn (dC .non))) (zO (vd (zJ (vd (ig "no") (ig "text"))) vh)) (zO (vd (ig "ok") (zO (vd vn (d2 qW vm (zO (vc vj)))))))))) qS) (qE (qV (kj "str" wQ vi (vc (ig " "))) (be 5)) (qE (qV (ny (bh (d2 fq (d2 b_ vo (ic 0)) (ig "move"))) (ig "number") (ig "point")) (be 6)) (qE (qV (z0 Yp [Zt,Aa 6] (jc (nq vo (zF (ic 1)) zL)) (be 0) zU (qX (ny (bh (d2 fq vi (ig "number"))) (qI 1 (kf bg) (vc vh)) (qI 1 (kf ba) (vc vh))))) (be 7)) (qE (cu (bh (d2 ti (dC .non) (qB 7))) (qO (zO (vd (zJ (vd (ig "no") vp)) vh))) qS) (qE (qV (qI 3 bo (vf vj (d2 b_ vo (ic 0)) (qB 7))) (be 4)) (qE (cu (x5 (bh (qH zP (vd vn (dC (.ty "tuple")))))) (qO (zO (vd (zJ (vd (ig "no") vn)) vh))) qS) (qO (zO (vd (ig "ok") (zO (vd vn (d2 qW vm (zO (vc vj))))))))))))))))
@[irreducible] def bt:DF:=sh (qL 8 iw)
def gS:bt=qL 8 iw:=by delta bt;exact zD _
abbrev d_ (bu:DF):DS:=qE (cu (bh (d2 xb vi (dC .non))) (qO (d2 xb vh (dC .non))) qS) (qE (cu (w6 (bh (qH zP (vd vi (dC (.ty "tuple"))))) (bh (qH zP (vd vi (dC (.ty "list")))))) (qE (cu (w6 (bh (d2 jo (qH zP (vd vh (dC (.ty "tuple")))) (qH zP (vd vi (dC (.ty "tuple")))))) (bh (d2 jo (qH zP (vd vh (dC (.ty "list")))) (qH zP (vd vi (dC (.ty "list"))))))) (qO (dC (.bl Yp))) qS) (qE (cu (bh (d2 jo (qH zW (vc vh)) (qH zW (vc vi)))) (qO (dC (.bl Yp))) qS) (qE (gF (dN (vd vh vi)) (lc 2 (qY (be 2) (qY (be 3) xD))) (cu (x5 (bh (qI 2 bu (vd vj vm)))) (qO (dC (.bl Yp))) qS)) (qO (dC (.bl Vq)))))) qS) (qE (cu (bh (qH zP (vd vi (dC (.ty "str"))))) (qO (jS (qH zP (vd vh (dC (.ty "str")))) (d2 fq vh vi))) qS) (qO (jS (d2 fq (qH zP (vd vh (dC (.ty "bool")))) (qH zP (vd vi (dC (.ty "bool"))))) (jS (qH zP (vd vh (dC (.ty "int")))) (d2 fq vh vi))))))
def lY:Aj->DF
 |0=>λ_ _=>.bad
 |n+1=>qL 4 (d_ (lY n))
@[irreducible] def bu:DF:=sh (lY 4)
def gQ:bu=lY 4:=by delta bu;exact zD _
abbrev gj (c:Cl):DS:=qE (gG 1 2 (vd (kN c.Desk (dh c)) (zO (vd (zO (vc (zO (vd (ic 0) (ic 0))))) (zO qC))))) (qE (gF (u0 vh) (be 3) (qE (qV (qI 2 bt (vd vj vm)) (lc 2 (qY (be 4) (qY (be 2) xD)))) (cu (w6 (x5 (bh (qI 2 bu (vd (qI 2 (bv c) (vd vi vm)) vn)))) (bh (d2 jo (xF c.Desk "say" 2 (a_ c) vi (vc (ig "lot"))) (qI 1 bc (vc (d2 b_ vj (ic 0))))))) (qO (dC (.bl Yp))) qS))) (qO (dC (.bl Vq))))
@[irreducible] def ce (c:Cl):DF:=sh (qL 5 (gj c))
def vT (c:Cl):ce c=qL 5 (gj c):=by delta ce;exact zD _
abbrev ng:DS:=qO (mI (vd vh (qH aU (vc (d2 y_ vh (d2 GV (ic 10) (ic 18)))))))
@[irreducible] def gf:DF:=sh (qL 1 ng)
def bO:gf=qL 1 ng:=by delta gf;exact zD _
abbrev ue (c:Cl):DS:=qE (gG 1 2 (vd (aJ (.ref c.TooMany) ["many","most"] (vd (ic 7) (ic 3))) (aJ (.ref c.Alike) ["one","two","three","four"] (vg (ic 4) (ic 3) (ic 2) (ic 1))))) (qE (cu (bh (d2 jo (zJ (qA (vD [c.TooMany] "many" vi) (qA (vD [c.TooMany] "most" vi) (vg (vD [c.Alike] "one" vj) (vD [c.Alike] "two" vj) (vD [c.Alike] "three" vj) (vD [c.Alike] "four" vj))))) (zJ (qA (ic 7) (qA (ic 3) (vg (ic 4) (ic 3) (ic 2) (ic 1))))))) (qO (dC (.bl Yp))) qS) (qE (qV (d2 qW (ig "lot ") (qI 1 bc (vc (z0 Yp [Zt] (xH (u4 (vc (ic 40)))) (be 0) zU (qX (zO (vd (d2 jU vh (ic 8)) (d2 uL vh (ic 8))))))))) (be 3)) (qE (qV (zJ (qA (ig "take 0,0") (qA (ig "put 0,0") (qA vm (qA (ig "put 9,9") (qA (ig "put 0,0") (vg (ig "take 0,0") (ig "put 9,9") (ig "put 9,10") (ig "move 1000 0")))))))) (be 4)) (qE (qV (d2 qW vn (zJ (qA (ig "take 7,7") (qA (d2 qW (ig "move 0 ") (d2 pU (ig "9") (ic 31))) (vg (d2 qW (ig "move 0 -") (d2 pU (ig "9") (ic 30))) (ig "move x -1") (ig "move 01 1") (ig "move -0 1")))))) (be 4)) (qE (qV (d2 pR vn (zJ (qA (ig "move 1 -") (qA (ig "lot -1000,0") (qA (ig "move 2000 0") (vg (ig "move -2000 0") (ig "back") (ig "back") (ig "back"))))))) (be 4)) (qE (wD (kj "list" wZ vn (vc (d2 qW (ig "lot ") (qI 1 bc (vc (z0 Yp [Zt] (xH (u4 (vc (ic 41)))) (be 0) zU (qX (zO (vd (d2 jU vh (ic 8)) (d2 uL vh (ic 8)))))))))))) (qE (qV (d2 mK vn (zJ (qA (ig "back") (qA (ig "lot ") (qA (ig "lot  0,0") (qA (ig "lot 0,0 0,0") (qA (ig "move 990 0") (vg (ig "move 1 0") (ig "move -1 x") (ig "back") (ig "back"))))))))) (be 4)) (qE (cu (x5 (bh (qI 1 (ce c) (vc (d2 qW vn (zJ (qA (ig "back") (qA (ig "put 5,9") (vg (d2 qW (ig "move 0 ") (d2 pU (ig "9") (ic 30))) (ig "turn") (ig "mirror") (ig "back")))))))))) (qO (dC (.bl Yp))) qS) (qE (gF (u0 (d2 qW (zJ (vc (qI 2 ef (vd vh (ic 0))))) (nq vh (zF (ic 1)) (zF (ic 3))))) (be 5) (qE (qV (qI 1 gf (vc vo)) (be 6)) (qE (gG 7 8 (vd (kN c.Desk (dh c)) (zO (vd (zO (vc (zO (vd (ic 0) (ic 0))))) (zO qC))))) (gF (u4 (vc (d2 qW (ic 12) (qI 2 av (vd vp (ic 19)))))) (be 9) (qE (qV (qI 2 fw (vd vp (qB 8))) (be 10)) (qE (qV (qI 2 bt (vd (qB 8) (qB 10))) (lc 2 (qY (be 11) (qY (be 8) xD)))) (cu (w6 (x5 (bh (qI 2 bu (vd (qI 2 (bv c) (vd (qB 7) (qB 10))) (qB 11))))) (bh (d2 jo (xF c.Desk "say" 2 (a_ c) (qB 7) (vc (ig "lot"))) (qI 1 bc (vc (d2 b_ (qB 8) (ic 0))))))) (qO (dC (.bl Yp))) qS))))))) (qO (dC (.bl Vq))))))))))))
end _K
namespace _K
open _D
variable {T:Ab (Ah × D)}{cl:J9}{ns:Y0}{ds:Ab D}{ps:Ab Pt}{C:Af}{c_:Ah->Ar}{dk:Ah->D}{i:Aj}{lo hi:Al Aq}{r:D}{fe:DE}{Q:D->ag->Prop}{ac:qG}
def X1 (h:Pn d)(S:ag):fg [d] S=.ok (.bl (_l d)) S:=by rw[bQ];obtain⟨p,h⟩:=h;cases d <;> first|kernel_rfl!|simp[wx] at h
def BL (h:Pn d)(a b:Aq)(S:ag):fr [d,.int a,.int b] S=.ok (.bl (inR a b d)) S:=by
 rw[gU];refine qZ (zB (ac:=[Aa d,Aa (.int a),Aa (.int b)]) Z ?_);rfl';refine mR ?_;rfl';refine qD (X1 h S) ⟨_,Z,λe=>?_,λe=>?_⟩
 .cases d with
  |int i=>exact mS rfl rfl rfl ⟨rfl,rfl⟩
  |_=>cases e
 .cases d <;> first|exact⟨rfl,rfl⟩|cases e
def jI (h:Pn d)(S:ag):dz [d] S=.ok (.bl (xE d)) S:=by
 rw[bP];refine qZ (zB (ac:=[Aa d]) Z ?_);rfl';refine xZ ?_;rfl';refine qD (cC h S) ?_;rfl';refine⟨λe=>?_,λe=>?_⟩
 .rfl';exact⟨by rw[U6 (by simpa using e)],Z⟩
 .cases d with
  |tup G =>
   rfl';refine zV (λe=>?_) λe=>?_
   .rfl';refine zY (cp:=id) (o:=Zt) G (λx=>.bl (xp x)) (λac Y=>Y=S/\∃ a,ac=[a]) ((vG Z).trans (by rw[Jz])) ⟨Z,Zt,Z⟩ (by unfold bb;lia) (λ_ _ _=>trivial) (λx U ac Y ⟨J,a,N⟩=>?_) λac Y ⟨J,_⟩=>?_
    .subst J N;rfl';exact qD (BL (lR h x U) _ _ _) ⟨Z,Z,_,Z⟩
    .subst J;rfl';exact lJ ⟨by rw[U4 li],Z⟩
   .rfl';exact⟨by rw[U5 li],Z⟩
  |_=>cases e
def BJ (Y:Ab Pt)(B:Y.length<=1000)(S:ag):ft [qM Y] S=.ok (.bl (ph (Y.map kP))) S:=by
 rw[gT];refine qZ (zB (ac:=[Aa (.tup (Y.map ay))]) Z ?_);rfl';have G:xH (dN (qA (qB 0) (qA (nq (qB 0) (zF (dC (.int 1))) zL) qC))) [Aa (.tup (Y.map ay))] S=.ok (Zt,(((Y.map kP).zip ((Y.map kP).drop 1)).map λp=>D.tup [mf p.1,mf p.2])) S:=by show ax.ok (Zt,yB (Y.map ay) (wG (Y.map ay) (Aa 1) Zt)) S=_;rw[WA,uY,<- Wq,OU]
 refine zY _ (λp=>.bl (_H.lexLt p.1 p.2)) (λac J=>J=S/\∃ a b,ac=[a,b]) G ⟨Z,Zt,Zt,Z⟩ ?_ (λ_ _ _=>trivial) (λx O ac J ⟨U,a,b,N⟩=>?_) λac J ⟨U,_⟩=>?_
 .rw[Uj,Ao];unfold bb;lia
 .subst U N;rfl';exact qD (qAX _ _ _) ⟨Z,Z,_,_,Z⟩
 .subst U;rfl';exact lJ ⟨Z,Z⟩
def o4 (h:Pn d)(S:ag):gx [d] S=.ok (.bl (xY d)) S:=by
 rw[mY];refine qZ (zB (ac:=[Aa d]) Z ?_);rfl';refine xZ ?_;rfl';refine qD (cC h S) ?_;rfl';refine⟨λe=>?_,λe=>?_⟩
 .rfl';exact⟨by rw[zg (by simpa using e)],Z⟩
 .cases d with
  |tup Y =>
   rfl';refine mS (b:=(Y.length:Aq)) Z Z Z ?_;rfl';refine zV (λz=>?_) λz=>?_
   .have B:1<=Y.length/\Y.length<=40:=by lia
    rfl';refine mR ?_;rfl';refine zY (cp:=id) (o:=Zt) Y (λx=>.bl (xE x)) (λac O=>O=S/\∃ a,ac=[a]) ((vG Z).trans (by rw[Jz])) ⟨Z,Zt,Z⟩ (by unfold bb;lia) (λ_ _ _=>trivial) (λx L ac O ⟨N,a,E⟩=>?_) λac O ⟨N,_⟩=>?_
    .subst N E;rfl';exact qD (jI (lR h x L) _) ⟨Z,Z,_,Z⟩
    .subst N;rfl';refine lJ ⟨_,Z,λG=>?_,λG=>?_⟩
     .obtain⟨U,rfl,_⟩:=k9 G;rw[Ao] at B;rfl';refine qD (BJ U li _) ⟨?_,rfl⟩;show _=D.bl (decide (1<=(U.map ay).length/\(U.map ay).length<=40)&&(U.map ay).all xE&&(match w5 (U.map ay) with|some J=>ph J|none=>Yp));rw[G,Ao,Cm B,uY,vQ];rfl
     .refine⟨?_,Z⟩;show _=D.bl (decide (1<=Y.length/\Y.length<=40)&&Y.all xE&&(match w5 Y with|some J=>ph J|none=>Yp));rw[G,Hu,Gp]
   .rfl';refine⟨?_,rfl⟩;show _=D.bl (decide (1<=Y.length/\Y.length<=40)&&Y.all xE&&(match w5 Y with|some J=>ph J|none=>Yp));rw[Bq li,Gp,Gp]
  |_=>cases e
def uQ (c:Cl){d:D}(S:ag)(h:Pn d)(k:xY d=Vq):df c [d] S=.ok .non S:=by rw[bS];refine qZ (zB (ac:=[Aa d]) Z ?_);rfl';refine qD (o4 h S) ?_;rw[k];rfl';exact⟨Z,Z⟩
def xO {S:ag}{m:Aq}(h:yD S p)(hm:0<m/\m<1073741824)(q:∀ (r:Aj) S1,Kp p S S1->(r:Aq)<m->Q (.int r) S1):Ok (av [.loc p,.int m] S) Q:=by
 have J:∀ r v f:Aq,0<=r->r<m->Q (.int r) (S.set p (.lst [.int v,.int f])):=λr v f O N=>by obtain⟨r,rfl⟩:=Ng O;obtain⟨I,H,e⟩:=h;have Y:=(Bv.mp e).1;exact q r _ ⟨⟨v,f,by simp[Y]⟩,by simp,λi hi E=>De (Di E)⟩ N
 obtain⟨v,f,e⟩:=h;have Y:=(Bv.mp e).1;rw[gO];refine zB (ac:=[Aa (.loc p),Aa (.int m),Zt]) rfl ?_;rfl';refine jG e (d:=.int f) rfl ?_;rfl';refine zV (λz=>?_) λz=>?_
 .rfl';refine jG e (d:=.int v) Z ?_;rfl';refine jG e (d:=.int v) Z ?_;rfl';refine z_ e Z ?_;rfl';exact J _ _ _ (Mj _ om) (Kj _ hm.1)
 .rfl';refine jG e (d:=.int v) Z ?_;have hv:=Mj v (show (2147483629:Aq)≠0 by fin2);have B:=Kj v (show (0:Aq)<2147483629 by fin2);rfl';have L:=Mj (v % 2147483629*48271+11) (show (2147483629:Aq)≠0 by fin2);have G:=Kj (v % 2147483629*48271+11) (show (0:Aq)<2147483629 by fin2);generalize (v % 2147483629*48271+11) % 2147483629=w at L G;refine z_ e Z ?_;have U:(S.set p (MO.lst [.int w,.int f]))[p]? = Aa (.lst [.int w,.int f]):=by simp[Y]
  rfl';refine jG U (d:=.int w) Z ?_;rfl';refine jG U (d:=.int w) Z ?_;rfl';refine jG U (d:=.int w) Z ?_;rfl';exact J _ _ _ (Mj _ om) (Kj _ hm.1)
def qAi {S:ag}(q:∀ p S1,yD S1 p->Q (.loc p) S1):Ok (gf [.int x] S) Q:=by rw[bO];refine zB (ac:=[Aa (.int x)]) Z ?_;rfl';refine qD (d:=.int 1000000000000000000) Z ?_;rfl';refine qD (d:=.int (Z1 (decide (1000000000000000000<=x)))) Z ?_;rfl';exact q _ _ ⟨_,_,mD _ _⟩
def SI (ns:Ab Aq)(N:ns.length<=63)(k:Aq){Q:Ab D->ag->Prop}{ac:qG}{S:ag}(h0:ac[0]? = Aa (Aa (.lst (ns.map D.int))))(q:∀ J:Ab Aq,Q (J.map D.int) S):Ok (u0 (d2 qW (zJ (qA (qI 2 ef (qA (qB 0) (qA (dC (.int 0)) qC))) qC)) (nq (qB 0) (zF (dC (.int 1))) (zF (dC (.int k))))) ac S) Q:=by
 have U:∃ x:Aq,ef [.lst (ns.map D.int),.int 0] S=.ok (.int x) S:=by
  rw[gM];cases ns with
  |nil=>exact⟨0,qZ (zB (ac:=[Aa (.lst []),Aa (.int 0)]) rfl (by rfl';exact⟨rfl,rfl⟩))⟩
  |cons n ns =>
   refine⟨n,qZ (zB (ac:=[Aa (.lst ((n::ns).map D.int)),Aa (.int 0)]) Z ?_)⟩;rfl';refine zV (λ_=>?_) λe=>absurd (by rw[Ao,Aw];fin2) e;rfl';exact x8 (W2 (a:=0) aA) ⟨Z,Z⟩
 obtain⟨x,Y⟩:=U;refine LY (o_2 (qAf (yI (lK (yI (o_v h0 ?_))))));rfl';refine qD Y ?_;rfl';refine o_v h0 ?_;rfl';have G:wG (ns.map D.int) (Aa 1) (Aa k)=((ns.drop (_H.di (ns.map D.int).length 0 (Aa 1))).take (_H.di (ns.map D.int).length (ns.map D.int).length (Aa k)-_H.di (ns.map D.int).length 0 (Aa 1))).map D.int:=by unfold wG;rw[Rz,Wq]
 rw[G];refine wC ?_ ⟨_,Z,q (x::_)⟩;rw[Ao,Fo,Hm];show 1+_<=bb;unfold bb;fin2
def qAZ (nd:cl.Nodup){i j:Aj}{a b:Af}(U:cl[i]? = Aa a)(G:cl[j]? = Aa b)(h:i≠j):(a == b)=false:=by rw[Fx];rintro rfl;obtain⟨N,Y⟩:=Bv.mp U;obtain⟨O,J⟩:=Bv.mp G;exact h ((Sn nd).mp (Y.trans J.symm))
def MA {B:Af}{S:ag}(Y:C∈cl)(J:B∈cl)(q:Q (.bl (C == B)) S):Ok (v8 cl [.exn (.ref C),.obj B] S) Q:=by refine⟨_,_,?_,q⟩;show (if (cl.contains C&&cl.contains B)=Vq then ax.ok (D.bl (C == B)) S else .bad)=_;rw[Ew.mpr Y,Ew.mpr J];rfl
def MB {S:ag}(Y:C∈cl)(q:Q (.bl Vq) S):Ok (v8 cl [.exn (.ref C),.ty "ValueError"] S) Q:=by refine⟨_,_,?_,q⟩;show (if (cl.contains C&&(("ValueError" : Em) == "ValueError"))=Vq then ax.ok (D.bl Vq) S else .bad)=_;rw[Ew.mpr Y];rfl
def M5 (nd:cl.Nodup){i j:Aj}{a b:Af}(J:cl[i]? = Aa a)(Y:cl[j]? = Aa b):decide (i=j)=(a == b):=by
 by_cases h:i=j
 .subst h;cases J.symm.trans Y;rw[Cm rfl,En]
 .rw[Bq h,qAZ nd J Y h]
def kW {S:ag}(e:ac[i]? = Aa (Aa (.exl (.ref C) ns ds)))(h:(ns.zip ds).lookup f=Aa x)(q:Q x S):Ok (vD [C] f (qB i) ac S) Q:=by refine o_1 (o_v e ?_);show Ok (if [C].contains C=Vq then (match (ns.zip ds).lookup f with|some x=>ax.ok x S|none=>.bad) else .bad) Q;rw[Au aA,h];exact⟨_,_,Z,q⟩
noncomputable def WT:Ab Ah:=["point","lot","number","circle","marks","fars","text","line","deed"]
def mP (c:Cl)(nd:(zN c).Nodup)(i:Aj)(hi:i<9){C:Af}(Y:(zN c)[i]? = Aa C)(S:ag):aw c [.exn (.ref C)] S=.ok (.str (WT.getD i "")) S:=by
 have s:∀ {Q:D->ag->Prop} (j:Aj) {B:Af},(zN c)[j]? = Aa B->Q (.bl (decide (i=j))) S->Ok (xQ (zN c) [.exn (.ref C),.obj B] S) Q:=λj B h q=>MA (Cb Y) (Cb h) (M5 nd Y h▸q);have v:∀ {Q:D->ag->Prop},Q (.bl Vq) S->Ok (xQ (zN c) [.exn (.ref C),.ty "ValueError"] S) Q:=λq=>MB (Cb Y) q;have L:∀ l,l=[0,1,2,3,4,5,6,7,8,9,10].map (λj:Aj=>D.bl (decide (i=j)))->fJ (.lst l) [.bl Vq] S=.ok (.int 1) S/\fK (.lst l) [.bl Vq] S=.ok (.int (i:Aq)) S/\_L.ji (WT.map D.str) (i:Aq)=Aa (.str (WT.getD i "")):=λl e=>by
  subst e;obtain rfl|rfl|rfl|rfl|rfl|rfl|rfl|rfl|rfl:i=0\/i=1\/i=2\/i=3\/i=4\/i=5\/i=6\/i=7\/i=8:=by lia
  all_goals exact⟨by kernel_rfl!,by kernel_rfl!,Z⟩
 rw[yT];refine qZ (zB (ac:=[Aa (.exn (.ref C)),Zt,Zt]) rfl ?_);rfl';refine s 0 rfl ?_;rfl';refine s 1 rfl ?_;rfl';refine s 2 rfl ?_;rfl';refine s 3 rfl ?_;rfl';refine s 4 rfl ?_;rfl';refine s 5 rfl ?_;rfl';refine s 6 rfl ?_;rfl';refine s 7 rfl ?_;rfl';refine wC (Bz rfl) ?_;rfl';refine s 8 rfl ?_;rfl';refine s 9 rfl ?_;rfl';refine s 10 rfl ?_;rfl';refine wC (Bz rfl) ?_;rfl';refine xZ ?_;rfl';refine v ?_;rfl';refine⟨(λe=>by cases e),λ_=>?_⟩;rfl';refine qD (L _ Z).1 ?_;rfl';refine zV (λ_=>?_) λe=>absurd Z e;rfl';refine s 9 rfl ?_;rfl';refine zV (λe=>absurd e li) λ_=>?_;rfl';refine s 10 Z ?_;rfl';refine zV (λe=>absurd e li) λ_=>?_;rfl';refine qD (L _ Z).2.1 ?_;exact x8 (L _ Z).2.2 ⟨Z,Z⟩
def fR (c:Cl)(nd:(zN c).Nodup)(S:ag):aw c [.exn (.ref c.NoPoint)] S=.ok (.str "point") S:=mP c nd 0 aC Z S
def c0 (c:Cl)(nd:(zN c).Nodup)(S:ag):aw c [.exn (.ref c.NoNumber)] S=.ok (.str "number") S:=mP c nd 2 aC Z S
def oW (c:Cl)(nd:(zN c).Nodup)(S:ag):aw c [.exn (.ref c.NoText)] S=.ok (.str "text") S:=mP c nd 6 aC Z S
def tE (c:Cl)(nd:(zN c).Nodup)(S:ag):aw c [.exn (.ref c.NoDeed)] S=.ok (.str "deed") S:=mP c nd 8 aC Z S
def i7 (c:Cl)(nd:(zN c).Nodup)(J Y:D)(S:ag):aw c [.exl (.ref c.TooMany) ["many","most"] [J,Y]] S=.ok (.lst [.str "many",J,Y]) S:=by have s:∀ {Q:D->ag->Prop} (j:Aj) {B:Af},(zN c)[j]? = Aa B->Q (.bl (decide (10=j))) S->Ok (xQ (zN c) [.exl (.ref c.TooMany) ["many","most"] [J,Y],.obj B] S) Q:=λj B h q=>MA (Cb (i:=10) rfl) (Cb h) (M5 nd (i:=10) rfl h▸q);have v:∀ {Q:D->ag->Prop},Q (.bl Vq) S->Ok (xQ (zN c) [.exl (.ref c.TooMany) ["many","most"] [J,Y],.ty "ValueError"] S) Q:=λq=>MB (C:=c.TooMany) (Cb (i:=10) rfl) q;rw[yT];refine qZ (zB (ac:=[Aa (.exl (.ref c.TooMany) ["many","most"] [J,Y]),Zt,Zt]) rfl ?_);rfl';refine s 0 rfl ?_;rfl';refine s 1 rfl ?_;rfl';refine s 2 rfl ?_;rfl';refine s 3 rfl ?_;rfl';refine s 4 rfl ?_;rfl';refine s 5 rfl ?_;rfl';refine s 6 rfl ?_;rfl';refine s 7 rfl ?_;rfl';refine wC (Bz rfl) ?_;rfl';refine s 8 rfl ?_;rfl';refine s 9 rfl ?_;rfl';refine s 10 rfl ?_;rfl';refine wC (Bz rfl) ?_;rfl';refine xZ ?_;rfl';refine v ?_;rfl';refine⟨(λe=>by cases e),λ_=>?_⟩;rfl';refine qD (d:=.int 1) (S:=S) (by kernel_rfl!) ?_;rfl';refine zV (λ_=>?_) λe=>absurd Z e;rfl';refine s 9 rfl ?_;rfl';refine zV (λe=>absurd e aC) λ_=>?_;rfl';refine s 10 Z ?_;rfl';refine zV (λ_=>?_) λe=>absurd Z e;rfl';refine kW (ns:=["many","most"]) (ds:=[J,Y]) Z (x:=J) (by kernel_rfl!) ?_;rfl';refine kW (ns:=["many","most"]) (ds:=[J,Y]) Z (x:=Y) (by kernel_rfl!) ?_;rfl';exact⟨Z,Z⟩
def uV (x:Ah)(S:ag):fq (.str x) (.str x) S=.ok (.bl Vq) S:=by unfold fq;rw[show (pl zC (.str x))=Vq from Z];show ax.ok (D.bl (x == x)) S=_;rw[En]
def sq (b:Ar)(ws:Ab D):D:=match b with
 |true=>.tup ws
 |false=>.lst ws
def FM (ws:Ab D):yB ws ws=ws.map λx=>D.tup [x,x]:=by
 induction ws with
 |nil=>rfl
 |cons w ws Y=>exact congrArg (D.tup [w,w]::·) Y
def oC (F:DF)(b:Ar)(ws:Ab D)(S:ag)(hw:ws.length<=bb)(O:∀ x∈ws,F [x,x] S=.ok (.bl Vq) S):qL 4 (d_ F) [sq b ws,sq b ws] S=.ok (.bl Vq) S:=by
 have J:zP [sq b ws,.ty "list"] S=.ok (.bl (!b)) S:=by cases b <;> kernel_rfl!
 have U:zP [sq b ws,.ty "tuple"] S=.ok (.bl b) S:=by cases b <;> kernel_rfl!
 have l:zW [sq b ws] S=.ok (.int ws.length) S:=by cases b <;> rfl
 have n:∀ x:Ar,jo (.bl x) (.bl x) S=.ok (.bl Yp) S:=λx=>by cases x <;> rfl
 have B:Ok (dN (qA (qB 0) (qA (qB 1) qC)) [Aa (sq b ws),Aa (sq b ws),Zt,Zt] S) λds Y=>ds=ws.map (λx=>D.tup [x,x])/\Y=S:=by rw[<- FM];cases b <;> exact⟨_,_,rfl,rfl,rfl⟩
 refine qZ (zB (ac:=[Aa (sq b ws),Aa (sq b ws),Zt,Zt]) rfl ?_);rfl';refine qD (d:=.bl Yp) (S:=S) (by cases b <;> rfl) ?_;rfl';refine zQ (Q:=λd Y=>d=Vq/\Y=S) (xZ ?_) ?_
 .rfl';refine qD U ?_;rfl';refine⟨λe=>⟨Z,Z⟩,λe=>?_⟩;rfl';refine qD J ?_;rfl';rw[e];exact⟨Z,Z⟩
 rintro _ S ⟨rfl,rfl⟩;rfl';refine xZ ?_;rfl';refine qD U ?_;rfl';refine qD U ?_;rfl';refine qD (n _) ?_;rfl';refine⟨(λe=>by cases e),λ_=>?_⟩;rfl';refine qD J ?_;rfl';refine qD J ?_;rfl';refine qD (n _) ?_;rfl';refine qD l ?_;rfl';refine qD l ?_;rfl';refine zV (λ_=>?_) λe=>absurd rfl e;rfl';refine zQ B ?_;rintro _ S ⟨rfl,rfl⟩;refine j3 (λN ac Y=>(∀ x∈N,x∈ws)/\Y=S/\∃ a c,ac=[Aa (sq b ws),Aa (sq b ws),a,c]) ?_ ?_ ⟨λ_ h=>h,rfl,_,_,rfl⟩
 .rintro x N _ S ⟨G,rfl,a,c,rfl⟩;rfl';refine qD (O x (G x (.head _))) ?_;rfl';exact dE ⟨λy L=>G y (.tail _ L),Z,_,_,Z⟩
 .rintro _ S ⟨_,rfl,a,c,rfl⟩;rfl';exact⟨Z,Z⟩
def X6 (F:DF){d:D}(S:ag)(U:xb d .non S=.ok (.bl Yp) S)(N:zP [d,.ty "tuple"] S=.ok (.bl Yp) S)(Y:zP [d,.ty "list"] S=.ok (.bl Yp) S)(B:zP [d,.ty "str"] S=.ok (.bl Yp) S){b:Ar}(J:zP [d,.ty "bool"] S=.ok (.bl b) S)(O:zP [d,.ty "int"] S=.ok (.bl Vq) S)(G:fq d d S=.ok (.bl Vq) S):qL 4 (d_ F) [d,d] S=.ok (.bl Vq) S:=by refine qZ (zB (ac:=[Aa d,Aa d,Zt,Zt]) rfl ?_);rfl';refine qD U ?_;rfl';refine xZ ?_;rfl';refine qD N ?_;rfl';refine⟨(λe=>by cases e),λ_=>?_⟩;rfl';refine qD Y ?_;rfl';refine qD B ?_;rfl';refine mR ?_;rfl';refine qD J ?_;rfl';refine qD J ?_;rfl';refine qD (d:=.bl Vq) (S:=S) (by cases b <;> rfl) ⟨_,rfl,λ_=>?_,λe=>by cases e⟩;rfl';refine mR ?_;rfl';refine qD O ⟨_,rfl,λ_=>?_,λe=>by cases e⟩;rfl';exact qD G ⟨Z,Z⟩
def BU (F:DF)(x:Ah)(S:ag):qL 4 (d_ F) [.str x,.str x] S=.ok (.bl Vq) S:=by refine qZ (zB (ac:=[Aa (.str x),Aa (.str x),Zt,Zt]) Z ?_);rfl';refine qD (d:=.bl Yp) (S:=S) Z ?_;rfl';refine xZ ?_;rfl';refine qD (d:=.bl Yp) (S:=S) (by kernel_rfl!) ?_;rfl';refine⟨(λe=>by cases e),λ_=>?_⟩;rfl';refine qD (d:=.bl Yp) (S:=S) (by kernel_rfl!) ?_;rfl';refine qD (d:=.bl Vq) (S:=S) (by kernel_rfl!) ?_;rfl';refine mR ?_;rfl';refine qD (d:=.bl Vq) (S:=S) (by kernel_rfl!) ⟨_,rfl,λ_=>?_,λe=>by cases e⟩;rfl';exact qD (uV x S) ⟨Z,Z⟩
def um:Aj->D->Prop
 |n+1,.tup Y=>Y.length<=bb/\∀ x∈Y,um n x
 |n+1,.lst Y=>Y.length<=bb/\∀ x∈Y,um n x
 |_,.int _=>Jg
 |_,.bl _=>Jg
 |_,.str _=>Jg
 |_,_=>Fv
def lZ (F:DF){d:D}(S:ag)(h:um 0 d):qL 4 (d_ F) [d,d] S=.ok (.bl Vq) S:=by
 cases d with
 |int i=>exact X6 _ S rfl (by kernel_rfl!) (by kernel_rfl!) (by kernel_rfl!) (b:=Yp) (by kernel_rfl!) (by kernel_rfl!) (qZ (qBt ⟨by rw[Cm rfl],rfl⟩))
 |bl b=>exact X6 _ S rfl (by kernel_rfl!) (by kernel_rfl!) (by kernel_rfl!) (b:=Vq) (by kernel_rfl!) (by kernel_rfl!) (by cases b <;> rfl)
 |str x=>exact BU _ x S
 |_=>exact Am h
def JN:∀ (n:Aj) (d:D) (S:ag),um n d->lY (n+1) [d,d] S=.ok (.bl Vq) S:=by
 intro n
 induction n with
 |zero=>exact λd S h=>lZ _ S h
 |succ n U =>
  intro d S h;cases d with
  |tup J=>exact oC _ Vq J S h.1 λx Y=>U x S (h.2 x Y)
  |lst J=>exact oC _ Yp J S h.1 λx Y=>U x S (h.2 x Y)
  |int i=>exact lZ _ S trivial
  |bl i=>exact lZ _ S trivial
  |str i=>exact lZ _ S trivial
  |_=>exact Am h
def O1 (S:ag)(h:um 3 d):bu [d,d] S=.ok (.bl Vq) S:=by rw[gQ];exact JN 3 d S h
def A6 (x:Ah)(S:ag):jo (.str x) (.str x) S=.ok (.bl Yp) S:=by unfold jo;rw[show (pl zC (.str x))=Vq from Z];show ax.ok (D.bl (!(x == x))) S=_;rw[En];rfl
def qAR {n:Aj}{S:ag}(e:ac[i]? = Aa (Aa (.int (n:Aq))))(h:n<=1000000):xH (u4 (qA (qB i) qC)) ac S=.ok (Zt,(Ch n).map λ(i:Aj)=>D.int (i:Aq)) S:=qZ (zA (xu (yI (o_v e (bB ⟨_,YH n h,_,_,Z,Z,Z⟩)))))
def WR {S:ag}(e:ac[i]? = Aa (Aa (.int k)))(h:0<=k/\k<=1000000):xH (u4 (qA (qB i) qC)) ac S=.ok (Zt,(Ch k.toNat).map λ(i:Aj)=>D.int (i:Aq)) S:=qAR (by rw[Wp h.1];exact e) li
def Bx (w:Aq)(x:Pt):Prop:=-w<=x.1/\x.1<=w /\ -w<=x.2/\x.2<=w
def sR {w:Aq}(hw:1<=w/\w<=1000){S:ag}(h:yD S p)(q:∀ x S1,Kp p S S1->Bx w x->Q (ay x) S1):Ok (cn [.loc p,.int w] S) Q:=by rw[kI];refine zB (ac:=[Aa (.loc p),Aa (.int w)]) Z ?_;rfl';refine xO h li λr S1 Y G=>?_;rfl';refine xO Y.pen li λt J U N=>?_;rfl';exact q ((r:Aq)-w,(t:Aq)-w) J (Y.trans U) ⟨by dsimp only;lia,by dsimp only;lia,by dsimp only;lia,by dsimp only;lia⟩
structure Z7 (n:Aj)(ps:Ab Pt):Prop where
 ne:ps≠[]
 len:ps.length<=n
 box:∀ x∈ps,gp 1000 x
theorem k9:∀ {ds:Ab D},(∀ d∈ds,∃ x,d=ay x/\gp 1000 x)->∃ ps:Ab Pt,ds=ps.map ay/\∀ x∈ps,gp 1000 x
 |[],_=>⟨[],rfl,λ_ h=>by cases h⟩
 |d::ds,h=>by
  obtain⟨x,rfl,Y⟩:=h d (.head _);obtain⟨ps,rfl,J⟩:=k9 λd U=>h d (.tail _ U);exact⟨x::ps,rfl,λy hy=>by
   rcases Ay.mp hy with rfl|hy
   .exact Y
   .exact J y hy⟩
def V9 (xs:Ab D)(n:Aj):wG xs Zt (Aa (n:Aq))=xs.take n:=by
 unfold wG;have Y:_H.di xs.length 0 Zt=0:=Z;have J:_H.di xs.length xs.length (Aa (n:Aq))=min n xs.length:=by show (if (n:Aq)<0 then ((n:Aq)+(xs.length:Aq)).toNat else min (n:Aq).toNat xs.length)=_;rw[AT li,EQ]
 rw[Y,J,Nat.sub_zero,List.drop_zero];rcases Nat.le_total n xs.length with h|h
 .rw[Nat.min_eq_left h]
 .rw[Nat.min_eq_right h,Hc h,Hc (Ax _)]
def sT {S:ag}(g:Pt->Pt)(e:ac[8]? = Aa (Aa (.lst (ps.map ay))))(B:ps.length<=100)(step:∀ x:Pt,Ok (fe [Aa (.int x.1),Aa (.int x.2)] S) λd U=>d=ay (g x)/\U=S)(q:Q (.lst ((ps.map g).map ay)) S):Ok (z0 Yp [Zt,Zt] (jc (qB 8)) (lc 2 (qY (be 0) (qY (be 1) xD))) zU (qX fe) ac S) Q:=by
 refine zY (cp:=ay) (o:=Zt) ps (λx=>ay (g x)) (λac Y=>Y=S/\∃ a b,ac=[a,b]) (WQ e) ⟨Z,Zt,Zt,Z⟩ (by unfold bb;lia) (λ_ _ _=>trivial) (λx O ac Y ⟨J,a,b,G⟩=>?_) λac Y ⟨J,_⟩=>?_
 .subst J G;obtain⟨d,U,N,rfl,rfl⟩:=step x;exact⟨_,_,rfl,_,_,rfl,rfl,_,_,N,rfl,rfl,_,_,rfl⟩
 .subst J;rw[Dk] at q;exact q
def qAe {S:ag}(h:yD S p)(q:∀ (l:Ab Pt) J,Kp p S J->fx 12 l->Q (qM l) J):Ok (gg [.loc p,.int 12] S) Q:=by
 rw[bN];refine zB (ac:=[Aa (.loc p),Aa (.int 12),Zt,Zt,Zt,Zt,Zt,Zt,Zt]) rfl ?_;rfl';refine xO h li λj S1 e h1=>?_;rfl';refine xO e.pen li λm S2 b h2=>?_;obtain⟨Y,em,hm⟩:∃ Y:Aq,1+(m:Aq)=Y/\1<=Y/\Y<=12:=⟨_,rfl,by lia,by lia⟩
 rfl';rw[em];refine xO b.pen li λr S3 s h3=>?_;refine bA (show r<5 by lia) λd hd=>?_;obtain⟨wide,rfl,hw⟩:∃ w:Aq,d=.int w/\1<=w/\w<=1000:=by simp only[Ay,Cz,Fw] at hd;rcases hd with rfl|rfl|rfl|rfl|rfl <;> exact⟨_,rfl,by lia⟩
 rfl';refine sR (w:=400) li s.pen λa S4 n ha=>?_;rfl';refine xO n.pen li λst S5 k5 h5=>?_;rfl';have v:1<=1+(st:Aq)/\1+(st:Aq)<=9:=by lia
 generalize 1+(st:Aq)=st at v;have t:Kp p S S5:=(((e.trans b).trans s).trans n).trans k5;clear e b s n k5 h1 h2 h3 h5 hd em;refine LW (cp:=λ(i:Aj)=>D.int (i:Aq)) (o:=Zt) (Ch Y.toNat) (λd=>∃ x,d=ay x/\gp 1000 x) (λac J=>Kp p S J/\∃ z,ac=[z,Aa (.loc p),Aa (.int wide)]) (WR Z li) ⟨t,Zt,Z⟩ (by rw[Et];unfold bb;lia) (λ_ _ _=>trivial) (λx U ac J ⟨E,z,u⟩=>?_) λds ac S6 c hR ⟨t,_⟩=>?_
 .subst u;rfl';refine sR (w:=wide) li E.pen λy S7 k7 g=>?_;unfold Bx at g;exact⟨⟨y,Z,by unfold gp;lia⟩,E.trans k7,_,Z⟩
 obtain⟨ps,rfl,hb⟩:=k9 hR;rw[Ao,Et] at c;have B:Z7 80 ps:=⟨λz=>(by rw[z] at c;simp only[Cy] at c;lia),by lia,hb⟩
 clear hR c hb;unfold Bx at ha;have zc:Y.toNat<=12:=by lia
 array_get_dec;array_get_dec;refine YU (λac J=>J=S6/\∃ M H,ac=[Aa (.loc p),Aa (.int 12),Aa (.int j),Aa (.int Y),Aa (.int wide),Aa (ay a),Aa (.int st),Aa (.lst (M.map ay)),H]/\Z7 80 M) (λP' A=>?_) ?_
 .rfl';refine zV (λz=>?_) λz=>?_
  .rfl';refine zY (cp:=λ(i:Aj)=>D.int (i:Aq)) (o:=Zt) (Ch Y.toNat) (λ(i:Aj)=>ay (a.1+(i:Aq) % 4,a.2+(i:Aq)/4)) (λac J=>J=S6/\∃ z,ac=[z,Aa (ay a)]) (WR Z li) ⟨Z,Zt,Z⟩ (by rw[Et];unfold bb;lia) (λ_ _ _=>trivial) (λx U ac J ⟨E,z,u⟩=>?_) λac J ⟨E,_⟩=>?_
   .subst E u;rfl';exact⟨_,Z⟩
   .subst E;rfl';refine A _ _ ⟨Z,(Ch Y.toNat).map λ(i:Aj)=>(a.1+(i:Aq) % 4,a.2+(i:Aq)/4),_,by rw[Dk];rfl,⟨λz=>?_,by rw[Ao,Et];lia,λx U=>?_⟩⟩
    .have:=congrArg Gh z;rw[Ao,Et] at this;simp only[Cy] at this;lia
    .obtain⟨i,hi,rfl⟩:=Cj.mp U;have hi:=Fg.mp hi;unfold gp;dsimp only;lia
  .rfl';exact A _ _ ⟨Z,ps,_,Z,B⟩
 clear B;rintro _ J ⟨rfl,ps,H,rfl,B⟩;refine YU (λac N=>N=J/\∃ M H,ac=[Aa (.loc p),Aa (.int 12),Aa (.int j),Aa (.int Y),Aa (.int wide),Aa (ay a),Aa (.int st),Aa (.lst (M.map ay)),H]/\Z7 80 M) (λP' A=>?_) ?_
 .rfl';refine zV (λz=>?_) λz=>?_
  .rfl';refine zY (cp:=λ(i:Aj)=>D.int (i:Aq)) (o:=Zt) (Ch Y.toNat) (λ(i:Aj)=>ay (a.1+st*(i:Aq),a.2-(i:Aq))) (λac N=>N=J/\∃ z,ac=[z,Aa (ay a),Aa (.int st)]) (WR Z li) ⟨Z,Zt,Z⟩ (by rw[Et];unfold bb;lia) (λ_ _ _=>trivial) (λx U ac N ⟨E,z,u⟩=>?_) λac N ⟨E,_⟩=>?_
   .subst E u;rfl';exact⟨_,Z⟩
   .subst E;rfl';refine A _ _ ⟨Z,(Ch Y.toNat).map λ(i:Aj)=>(a.1+st*(i:Aq),a.2-(i:Aq)),_,by rw[Dk];rfl,⟨λz=>?_,by rw[Ao,Et];lia,λx U=>?_⟩⟩
    .have:=congrArg Gh z;rw[Ao,Et] at this;simp only[Cy] at this;lia
    .obtain⟨i,hi,rfl⟩:=Cj.mp U;have hi:=Fg.mp hi;have h1:=Int.mul_le_mul (show st<=9 by lia) (show (i:Aq)<=12 by lia) li li;have h2:=Int.mul_nonneg (show 0<=st by lia) (show 0<=(i:Aq) by lia);unfold gp;dsimp only;lia
  .rfl';exact A _ _ ⟨Z,ps,_,Z,B⟩
 clear B;rintro _ J ⟨rfl,ps,H,rfl,B⟩;refine YU (λac N=>N=J/\∃ M H,ac=[Aa (.loc p),Aa (.int 12),Aa (.int j),Aa (.int Y),Aa (.int wide),Aa (ay a),Aa (.int st),Aa (.lst (M.map ay)),H]/\Z7 80 M) (λP' A=>?_) ?_
 .rfl';refine zV (λz=>?_) λz=>?_
  .rfl';obtain⟨G,hk,f⟩:∃ G:Aj,1+Y/4=((G:Aj):Aq)/\1<=G/\G<=4:=⟨(1+Y/4).toNat,by lia,by lia,by lia⟩
   rw[hk,V9,<- Rz];have I:(ps.take G).length<=4:=by rw[Fo];lia
   have O:∀ x∈ps.take G,gp 1000 x:=λx U=>B.box x (Lq U);have L:ps.take G≠[]:=λz=>by have:=congrArg Gh z;rw[Fo] at this;have:=Hb.mpr B.ne;simp only[Cy] at *;lia
   generalize ps.take G=k at I O L;rfl';refine sT (λx=>(0-x.2,x.1)) Z li (λx=>by rfl';exact Z) ?_;refine wC (by rw[Ao,Ao,Ao];unfold bb;lia) ?_;rw[<- Dq];rfl';refine sT (λx=>(0-x.1,0-x.2)) Z li (λx=>by rfl';exact Z) ?_;refine wC (by simp only[Ao,Bj];unfold bb;lia) ?_;rw[<- Dq];rfl';refine sT (λx=>(x.2,0-x.1)) Z li (λx=>by rfl';exact Z) ?_;refine wC (by simp only[Ao,Bj];unfold bb;lia) ?_;rw[<- Dq];rfl';refine A _ _ ⟨Z,_,_,Z,⟨λz=>?_,by simp only[Ao,Bj];lia,λx U=>?_⟩⟩
   .have:=congrArg Gh z;have:=Hb.mpr L;simp only[Ao,Bj,Cy] at *;lia
   .simp only[Cg,Cj] at U;rcases U with ((U|⟨y,g,rfl⟩)|⟨y,g,rfl⟩)|⟨y,g,rfl⟩
    .exact O x U
    all_goals
     have:=O y g;unfold gp at *;dsimp only;lia
  .rfl';exact A _ _ ⟨Z,ps,_,Z,B⟩
 clear B;rintro _ J ⟨rfl,ps,H,rfl,B⟩;obtain⟨G,rfl,f⟩:∃ G:Aj,Y=((G:Aj):Aq)/\1<=G/\G<=12:=⟨Y.toNat,by lia,by lia,by lia⟩
 rfl';refine AF ?_;rfl';rw[V9,<- Rz];have I:(ps.take G).length<=12:=by rw[Fo];lia
 have O:∀ x∈ps.take G,gp 1000 x:=λx U=>B.box x (Lq U);have L:ps.take G≠[]:=λz=>by have:=congrArg Gh z;rw[Fo] at this;have:=Hb.mpr B.ne;simp only[Cy] at *;lia
 generalize ps.take G=k at I O L;refine⟨k,Z,by lia,?_⟩;rfl';refine q (kE k) J t ⟨λz=>?_,By (F1 k) I,XG k,λx U=>O x ((oJ k x).mp U)⟩;obtain⟨x,r,rfl⟩:=Qx L;have:=(oJ (x::r) x).mpr (.head _);rw[z] at this;cases this
def BI (h:Pn d)(S:ag):et [d] S=.ok (.bl (_l d)) S:=by rw[kJ];obtain⟨p,h⟩:=h;cases d <;> first|kernel_rfl!|simp[wx] at h
def tH (h:Pn d)(S:ag):cb [d] S=.ok (.bl (xE d)) S:=by
 rw[uR];refine qZ (zB (ac:=[Aa d]) Z ?_);rfl';refine xZ ?_;rfl';refine qD (cC h S) ?_;rfl';refine⟨λe=>?_,λe=>?_⟩
 .rfl';exact⟨by rw[U6 (by simpa using e)],Z⟩
 .cases d with
  |tup G =>
   rfl';refine zV (λe=>?_) λe=>?_
   .rfl';refine zY (cp:=id) (o:=Zt) G (λx=>.bl (xp x)) (λac Y=>Y=S/\∃ a,ac=[a]) ((vG Z).trans (by rw[Jz])) ⟨Z,Zt,Z⟩ (by unfold bb;lia) (λ_ _ _=>trivial) (λx U ac Y ⟨J,a,N⟩=>?_) λac Y ⟨J,_⟩=>?_
    .subst J N;rfl';refine mR ?_;rfl';refine qD (BI (lR h x U) _) ⟨_,Z,λe=>?_,λe=>?_⟩
     .cases x with
      |int i=>exact mS rfl rfl rfl ⟨rfl,rfl,_,rfl⟩
      |_=>cases e
     .cases x <;> first|exact⟨rfl,rfl,_,rfl⟩|cases e
    .subst J;rfl';exact lJ ⟨by rw[U4 li],Z⟩
   .rfl';exact⟨by rw[U5 li],Z⟩
  |_=>cases e
def OP (Y:Ab Pt):ph (Y.map kP)=decide (Y=kE Y):=by
 rw[Ks,Az,dB];constructor
 .intro h;have e:=_S.pJ _S.j8 h (_S.pI _S.j8 (Y.map kP)) λx=>(_S.vP _S.j8 x _).symm;unfold kE;rw[<- e,Dk];exact(Jz Y).symm
 .intro h;have u:=XG Y;rw[<- h] at u;exact Eh.mpr u
def eK (h:Pn d)(S:ag):cx [d] S=.ok (.bl (xY d)) S:=by
 rw[jN];refine qZ (zB (ac:=[Aa d]) Z ?_);rfl';refine xZ ?_;rfl';refine qD (cC h S) ?_;rfl';refine⟨λe=>?_,λe=>?_⟩
 .rfl';exact⟨by rw[zg (by simpa using e)],Z⟩
 .cases d with
  |tup Y =>
   have G:xY (.tup Y)=(decide (1<=Y.length/\Y.length<=40)&&Y.all xE&&(match w5 Y with|some E=>ph E|none=>Yp)):=rfl;refine xZ ?_;rfl';refine mS (b:=(Y.length:Aq)) Z Z Z ?_;rfl';refine⟨λz=>?_,λz=>?_⟩
   .have z:¬(1<=Y.length/\Y.length<=40):=by simp at z;lia
    rfl';exact⟨by rw[G,Bq z];rfl,Z⟩
   .have O:1<=Y.length/\Y.length<=40:=by simp at z;lia
    rfl';refine zY (cp:=id) (o:=Zt) Y (λx=>.bl (xE x)) (λac N=>N=S/\∃ a,ac=[a]) ((vG Z).trans (by rw[Jz])) ⟨Z,Zt,Z⟩ (by unfold bb;lia) (λ_ _ _=>trivial) (λx B ac N ⟨J,a,L⟩=>?_) λac N ⟨J,_⟩=>?_
    .subst J L;rfl';exact qD (tH (lR h x B) _) ⟨Z,Z,_,Z⟩
    .subst J;rfl';refine lJ ?_;cases U:Y.all xE with
     |true =>
      obtain⟨I,rfl,_⟩:=_D.k9 U;rw[Ao] at O;rfl';refine AF (o_v rfl ⟨I,rfl,by lia,?_⟩);refine qAc ⟨?_,Z⟩;rw[G,U,Ao,Cm O,uY,vQ,<- OP];rfl
     |false =>
      rfl';exact⟨by rw[G,U,Hu,Gp],Z⟩
  |_=>cases e
def RZ:∀ x:Aj,x<58->(Char.ofNat x).toNat=x:=by decide
open PySem.NumText in
def _N (l:Ab Aj)(h:AllDigits l)(U:l≠[]):(Jc 10 (digitsVal l)).map Jd=l↔(l.head? = Aa 48->l=[48]):=by
 rw[toDigits_all l h];cases l with
 |nil=>exact absurd rfl U
 |cons c r =>
  by_cases e:c=48
  .subst e;rw[Wr,Au (show ((48:Aj) == 48)=Vq from Z)];have Y:=(List.dropWhile_sublist (l:=r) (· == 48)).length_le;cases q:r.dropWhile (· == 48) with
   |nil =>
    simp only[xL,true_implies];show [48]=_↔_;exact⟨λz=>z.symm,λz=>z.symm⟩
   |cons d s =>
    rw[q] at Y;simp only[xL,true_implies];refine⟨λz=>?_,λz=>?_⟩
    .have:=congrArg Gh z;simp only[Ao,Aw] at this Y;lia
    .cases z;cases q
  .rw[Wr,AT (by rw[Ig];exact e)];have G:((c::r).map Char.ofNat).map Jd=c::r:=by
    rw[Dk];refine(Md λx J=>?_).trans (Jz _);have:=h x J;exact RZ x li
   exact⟨λ_ z=>absurd (Cw z) e,λ_=>G⟩
def vC {a b:Ah}(h:a.cps.toList=b.cps.toList):a=b:=Str.ext' (Zq.mp h)
theorem lX (m:Aj):(Fd (toString ((m:Aj):Aq))).cps.toList=(Jc 10 m).map Jd:=PySem.W.KIN.signs_num m
def cI (m:Aj):(Fd (toString (-((m+1:Aj):Aq)))).cps.toList=45::(Jc 10 (m+1)).map Jd:=by rw[PyProof.Rows.signs_ofString];show ("-" ++ Nat.repr (m+1)).toList.map Jd=_;rw[String.toList_append,Dq,Nat.toList_repr];rfl
def wO:Ab Aj->Ab Aj
 |45::r=>r
 |l=>l
def Dg (c:Aj):Ar:=decide (48<=c)&&decide (c<=57)
def Gd (x:Ah):Prop:=wO x.cps.toList≠[]/\(wO x.cps.toList).length<=30/\(wO x.cps.toList).all Dg=Vq
instance (x:Ah):Jf (Gd x):=inferInstanceAs (Jf (_/\_/\_))
def Sh (x:Ah):Prop:=(wO x.cps.toList).head? = Aa 48->x.cps.toList=[48]
instance (x:Ah):Jf (Sh x):=inferInstanceAs (Jf (_->_))
noncomputable def ma (x:Ah):D:=if Gd x/\Sh x then (match intText? x with|some n=>.int n|none=>.non) else .non
set_option tactic.hygienic true in
def u7 (l:Ab Aj):(∃ r,l=45::r/\wO l=r)\/((∀ r,l≠45::r)/\wO l=l):=by
 cases l with
 |nil=>exact .inr ⟨(λr=>by simp),rfl⟩
 |cons c r =>
  by_cases e:c=45
  .subst e;exact .inl ⟨r,rfl,rfl⟩
  .refine .inr ⟨λY z=>e (Ho z).1,?_⟩;unfold wO;split
   .rename_i h;exact absurd (Ho h).1 e
   .rfl
open PySem.NumText in
theorem K3:∀ (l:Ab Aj) (a:Aj),AllDigits l->l.foldl (λao c=>ao*10+(c-48)) a<(a+1)*10 ^ l.length
 |[],a,_=>by simp
 |c::l,a,h=>by have Y:=K3 l (a*10+(c-48)) h.tail;have J:=h.head;rw[T0,Aw];refine Bo Y ?_;rw[Nat.pow_succ,Nat.mul_comm (10 ^ l.length) 10,<- Nat.mul_assoc];exact Vo _ li
open PySem.NumText in
def UH {l:Ab Aj}(h:AllDigits l)(U:l.length<=30):(digitsVal l).log2<1920:=by
 have Y:=K3 l 0 h;have J:10 ^ l.length<=10 ^ 30:=Nat.pow_le_pow_right aC U;by_cases e:digitsVal l=0
 .rw[e];decide
 .refine(Nat.log2_lt e).mpr (Bo Y ?_);rw[Tj,Nat.one_mul];exact By J (Bz kd)
open PySem.NumText in
def EZ {l:Ab Aj}(h:l.all Dg=Vq):AllDigits l:=λc Y=>by have:=Bk.mp h c Y;unfold Dg at this;simpa using this
open PySem.NumText in
def X3 (g:Gd x)(L:x.length<=640):∃ n:Aq,intText? x=Aa n/\n.natAbs.log2<1920/\(Fd (toString n)=x↔Sh x):=by
 obtain⟨J,G,O⟩:=g;have Y:=EZ O;unfold Sh;rcases u7 x.cps.toList with⟨r,U,N⟩|⟨U,N⟩
 .rw[N] at J G Y ⊢;refine⟨_,intText_neg U Y J li,by rw[Int.natAbs_neg];exact UH Y G,?_⟩;have k:=_N r Y J;rw[U];have B:(r.head? = Aa 48->45::r=[48])↔r.head?≠Aa 48:=⟨λh z=>(by cases (h z)),λh z=>absurd z h⟩
  rw[B];cases q:digitsVal r with
  |zero =>
   rw[q] at k;refine⟨λh=>?_,λh=>?_⟩
   .have:=congrArg (λy:Ah=>y.cps.toList) h;rw[U] at this;have:=(lX 0).symm.trans this;cases this
   .have:=k.mpr λz=>absurd z h;have:[48]=r:=this;subst this;exact absurd rfl h
  |succ m =>
   rw[q] at k;refine⟨λh z=>?_,λh=>?_⟩
   .have:=congrArg (λy:Ah=>y.cps.toList) h;rw[U] at this;have:=(Ho ((cI m).symm.trans this)).2;have:=k.mp this z;subst this;cases q
   .refine vC ?_;rw[U];exact(cI m).trans (congrArg _ (k.mpr λz=>absurd z h))
 .rw[N] at J G Y ⊢;refine⟨_,intText_digits Y J li,UH Y G,?_⟩;rw[<- _N _ Y J,<- lX];exact⟨λh=>congrArg (λy:Ah=>y.cps.toList) h,vC⟩
theorem lS {J:Type}:∀ l:Ab J,(Ch l.length).filterMap (λi=>l[i]?)=l
 |[]=>rfl
 |a::l=>by rw[Aw,Kq,Gw,Ql];show a::(Ch l.length).filterMap (λi=>(a::l)[i+1]?)=_;simp only[Nb];rw[lS l]
def P9 (n:Aj):Ip (Aa 1) Zt 1 n=(Ch (n-1)).map (· + 1):=by
 unfold Ip sliceRange;cases n with
 |zero=>rfl
 |succ n =>
  have e:max 0 (min (1:Aq) ((n+1:Aj):Aq))=1:=by lia
  simp only[show ¬ (1:Aq)<0 by decide,show (1:Aq)>0 by decide,Dw,Dp,e,Xe];have Y:(if (1:Aq)<((n+1:Aj):Aq) then ((n+1:Aj):Aq)-1+1-1 else 0).toNat=n:=by split <;> lia
  rw[Y];refine Md λk J=>?_;lia
def CF (n:Aj):Ip Zt (Aa 1) 1 n=Ch (min 1 n):=by
 unfold Ip sliceRange;cases n with
 |zero=>rfl
 |succ n =>
  have e:max 0 (min (1:Aq) ((n+1:Aj):Aq))=1:=by lia
  have Y:min 1 (n+1)=1:=by lia
  simp only[show ¬ (1:Aq)<0 by decide,show (1:Aq)>0 by decide,Dw,Dp,e,Xe,Y];rfl
set_option tactic.hygienic true in
def SS (x:Ah):(Txt.slice x (Aa 1) Zt).cps.toList=x.cps.toList.drop 1:=by
 unfold Txt.slice;rw[P9];split
 .rename_i h;have:x.length=0:=by
   simp at h;lia
  have Y:x.cps.toList=[]:=Kc.mp (by simpa [Ju] using this);rw[Y];rfl
 .show (((Ch (x.length-1)).map (· + 1)).filterMap (x.cps[·]?)).toArray.toList=_;rw[Ws,Ql];have k:=lS (x.cps.toList.drop 1);rw[Hm] at k;refine Eq.trans ?_ k;have J:x.cps.toList.length=x.length:=by simp[Ju]
  rw[J];refine congrArg (λf=>Aa6 f _) (funext λi=>?_);show x.cps[i+1]? = _;rw[Wz,Bw,Ph]
set_option tactic.hygienic true in
def qBC (x:Ah):(Txt.slice x Zt (Aa 1)).cps.toList=x.cps.toList.take 1:=by
 unfold Txt.slice;rw[CF];have Y:x.cps.toList.length=x.length:=by simp[Ju]
 split
 .rename_i h;have:x.length<=1:=by
   simp at h;lia
  rw[Hc li]
 .rename_i h;simp at h;have J:1<=x.length:=by lia
  have e:min 1 x.length=1:=by lia
  rw[e];show (([0]:Ab Aj).filterMap (x.cps[·]?)).toArray.toList=_;rw[Ws];cases q:x.cps.toList with
  |nil=>rw[q] at Y;simp at Y;lia
  |cons c r =>
   have:x.cps[0]? = Aa c:=by rw[<- Bw,q];rfl
   simp[Aa6,this]
def ey (x:Ah):Prop:=∀ c∈x.cps.toList,c<128
def TX:((Ch 128).all λc=>Sa c == Dg c)=true:=kd
def TV (h:ey x):Txt.isdecimal x=(decide (x.cps.toList≠[])&&x.cps.toList.all Dg):=by
 unfold Txt.isdecimal;have Y:decide (x.length>0)=decide (x.cps.toList≠[]):=by
  have N:x.cps.toList.length=x.length:=by simp[Ju]
  refine Zs.mpr ?_;rw[<- N,gt_iff_lt,Hb]
 have J:x.cps.all Sa=x.cps.toList.all Dg:=by
  rw[<- Su];have:∀ l:Ab Aj,(∀ c∈l,c<128)->l.all Sa=l.all Dg:=λl=>by
   induction l with
   |nil=>intro _;rfl
   |cons c l U =>
    intro h;rw[Ik,Ik,U λy G=>h y (Bm _ G)];have:=Bk.mp TX c (Fg.mpr (h c (Cr ..)));rw[eq_of_beq this]
  exact this _ h
 rw[Y,J]
def _u:(Fd "-").cps.toList=[45]:=by decide
def B3:("-" : Ah)=⟨#[45]⟩:=by decide
def BR (x:Ah):(Txt.removeprefix x "-").cps.toList=wO x.cps.toList:=by
 rw[Tr,B3];have G:x.cps.toList.length=x.length:=by simp[Ju]
 have k:=Yq x 45 0;have U:(⟨#[45]⟩:Ah).length=1:=rfl;rw[U] at k ⊢;rcases u7 x.cps.toList with⟨r,Y,J⟩|⟨Y,J⟩
 .have:=k.mpr (by rw[Y];rfl);rw[Au (by rw[Av,Az];exact this),J,Y];rw[Y,Aw] at G;show AaH _ r=r;rw[Hc li]
 .rw[AT,J];intro z;rw[Av,Az] at z;have:=k.mp z;cases q:x.cps.toList with
  |nil=>rw[q] at this;cases this
  |cons c r =>
   rw[q] at this;cases this;exact Y r q
def GT:("0123456789" : Ah).cps.toList=[48,49,50,51,52,53,54,55,56,57]:=by decide
def NW (c:Aj):xq ⟨#[c]⟩ "0123456789" = Dg c:=by
 have k:xq ⟨#[c]⟩ "0123456789" = Vq↔Dg c=true:=by
  unfold xq;rw[StrLaws.found_iff];have:(∃ i,i+(⟨#[c]⟩:Ah).length<=("0123456789" : Ah).length/\Np "0123456789" ⟨#[c]⟩ i=Vq)↔c∈("0123456789" : Ah).cps.toList:=by rw[Uv];exact exists_congr λi=>Yq _ c i
  rw[this,GT];unfold Dg;simp only[Ay,Cz,Fw,Av,Az];fin2
 cases h:xq ⟨#[c]⟩ "0123456789" <;> cases Y:Dg c <;> rw[h,Y] at k <;> simp at k <;> rfl
def MD {x y:Ah}{S:ag}(Y:x.length<=640)(h:Q (.str (Txt.removeprefix x y)) S):Ok (tV (.str x) [.str y] S) Q:=⟨_,_,Au (by unfold bb;lia),h⟩
def lM {x:Ah}{S:ag}(Y:x.length<=1000000)(h:Q (.int x.length) S):Ok (zW [.str x] S) Q:=by refine⟨_,_,?_,h⟩;have e:sF (.str x) S=Aa x.length:=Au (by unfold bb;lia);show (match sF (.str x) S with|some n=>ax.ok (D.int n) S|none=>.bad)=_;rw[e]
def M7 {f:DE}{S:ag}{T:Em}{m:D->Ab D->ag->ax D}(h:Ok (f ac S) λa S1=>pi a S1=Aa T/\Ok (m a [] S1) Q):Ok (aI T m f ac S) Q:=zA (zQ h λ_ _ k=>by rw[k.1,Au aA];exact k.2)
def qAb {S:ag}(h:Q (.bl (Txt.isdecimal x)) S):Ok (i0 (.str x) [] S) Q:=⟨_,_,Z,h⟩
def iQ {S:ag}(e:intText? x=Aa n)(Y:x.length<=640)(h:Q (.int n) S):Ok (pQ [.str x] S) Q:=by refine⟨_,_,?_,h⟩;show (if x.length<=640 then (match intText? x with|some n=>ax.ok (D.int n) S|none=>.bad) else .bad)=_;rw[Au Y,e]
def fX {n:Aq}{S:ag}(Y:n.natAbs.log2<1920)(h:Q (.str (toString n)) S):Ok (jC [.int n] S) Q:=⟨_,_,Au Y,h⟩
def RT (x y:Ah):(x == y)=decide (x=y):=by by_cases e:x=y <;> simp[e]
def jF {x y:Ah}{S:ag}(h:Q (.bl (decide (x=y))) S):Ok (fq (.str x) (.str y) S) Q:=by refine⟨_,_,?_,h⟩;rw[<- RT];exact Au (show (Vq&&Vq)=Vq from Z)
def qAh {x y:Ah}{S:ag}(h:Q (.bl (!decide (x=y))) S):Ok (jo (.str x) (.str y) S) Q:=by refine⟨_,_,?_,h⟩;rw[<- RT];exact Au (show (Vq&&Vq)=Vq from Z)
def vB {f:DE}{Y J:DO}{S:ag}(h:Ok (f ac S) λd S1=>Ok (Y ac S1) λlo U=>Ok (J ac U) λhi G=>Ok (fL d lo hi G) Q):Ok (vE f Y J ac S) Q:=zA (zQ h λ_ _ k=>zA (zQ k λ_ _=>zA))
def uC {x:Ah}{S:ag}(Y:x.length<=1000000)(h:Q (.str (Txt.slice x lo hi)) S):Ok (fL (.str x) lo hi S) Q:=⟨_,_,Au (by unfold bb;lia),h⟩
def MC {x:Ah}{S:ag}(Y:x.length<=1000000)(e:_L.ji x.cps.toList k=Aa c)(h:Q (.str ⟨#[c]⟩) S):Ok (tU (.str x) (.int k) S) Q:=by refine⟨_,_,?_,h⟩;show (if x.length<=bb then (match _L.ji x.cps.toList k with|some c=>ax.ok (D.str ⟨#[c]⟩) S|none=>.bad) else .bad)=_;rw[Au (by unfold bb;lia),e]
def qAd {S:ag}(h:Q (.bl (!xq x y)) S):Ok (tS Vq (.str x) (.str y) S) Q:=⟨_,_,Z,h⟩
def zX (x:Ah):x.cps.toList.length=x.length:=by simp[Ju]
def fV (h:¬ Gd x):ma x=.non:=AT λz=>h z.1
def US (h:¬ Sh x):ma x=.non:=AT λz=>h z.2
def iO (g:Gd x)(s:Sh x)(e:intText? x=Aa n):ma x=.int n:=by unfold ma;rw[Au ⟨g,s⟩,e]
def cQ {x y:Ah}(h:ey x)(e:y.cps.toList=wO x.cps.toList):ey y:=λc Y=>by
 rw[e] at Y;rcases u7 x.cps.toList with⟨r,U,J⟩|⟨U,J⟩
 .rw[J] at Y;exact h c (by rw[U];exact Bm _ Y)
 .rw[J] at Y;exact h c Y
def iA (l:Ab Aj):(wO l).length<=l.length:=by
 rcases u7 l with⟨r,J,Y⟩|⟨J,Y⟩
 .rw[Y,J,Aw];lia
 .rw[Y];exact Ax _
def YE (L:ey x)(G:x.length<=640)(S:ag):ec [.str x] S=.ok (ma x) S:=by
 rw[gV];refine qZ (zB (ac:=[Aa (.str x),Zt,Zt]) Z ?_);rfl';refine MD G ?_;have J:=BR x;generalize Txt.removeprefix x "-" = y at J;have E:=cQ L J;have I:y.length=(wO x.cps.toList).length:=by rw[<- J,zX]
 have l2:=iA x.cps.toList;rw[zX] at l2;rfl';refine xZ ?_;rfl';refine lM li ?_;rfl';refine⟨λe=>?_,λe=>?_⟩
 .rfl';refine⟨(fV λg=>?_).symm,Z⟩;have:=g.2.1;have:=Bg e;lia
 .have U:(wO x.cps.toList).length<=30:=by
   have:=Ei e;lia
  rfl';refine M7 ?_;rfl';refine qAb ?_;rw[TV E,J];rfl';cases Y:(decide (wO x.cps.toList≠[])&&(wO x.cps.toList).all Dg) with
  |false =>
   rfl';refine⟨(fV λg=>?_).symm,rfl⟩;rw[g.2.2,Cm g.1] at Y;cases Y
  |true =>
   rw[Av,Az] at Y;have g:Gd x:=⟨Y.1,U,Y.2⟩;obtain⟨n,N,B,O⟩:=X3 g G;rfl';refine iQ N G ?_;rfl';refine uB ?_;rfl';refine fX B ?_;rfl';refine jF ?_;rfl';refine⟨λq=>?_,λq=>?_⟩
   .rfl';exact⟨(iO g (O.mp (Bg q)) N).symm,Z⟩
   .rfl';exact⟨(US λz=>Ei q (O.mpr z)).symm,Z⟩
def W3 {J:Type}{xs:Ab J}{a:Aj}(h:a<xs.length):_L.ji xs (a:Aq)=Aa xs[a]:=by
 have e:_L.qe xs.length (a:Aq)=Aa a:=by simp[_L.qe];lia
 simp[_L.ji,e,h]
def pN {J:Type}(c:J)(r:Ab J) : _L.ji (c::r) 0=Aa c:=W3 (xs:=c::r) (a:=0) (Kf _)
def wv (c:Aj):D:=.str ⟨#[c]⟩
def MW (h:ey y):y.cps.all (· < 128)=true:=by rw[<- Su,Bk];exact λc Y=>Cm (h c Y)
def qAS (h:ey y){i:Aj}{ac:qG}{S:ag}(e:ac[i]? = Aa (Aa (.str y))):xH (jT (qB i)) ac S=.ok (Zt,y.cps.toList.map wv) S:=by unfold xH jT;rw[mB e];show ((vJ (if y.cps.all (· < 128) then Aa (wU y) else Zt) S).bind λds Y=>ax.ok (Zt,ds) Y)=_;rw[Au (MW h)];rfl
def A4 (xs:Ab Aj)(S:ag)(J:xs.length<=100):jo (.lst (xs.map wv)) (.lst []) S=.ok (.bl (!decide (xs=[]))) S:=by
 have Y:pl zC (.lst (xs.map wv))=true:=by show (xs.map wv).all (pl 29)=Vq;rw[Ia,Bk];exact λc _=>rfl
 refine(Au (show (pl zC (.lst (xs.map wv))&&pl zC (.lst [])) = Vq by rw[Y];rfl)).trans ?_;cases xs <;> rfl
def yP:("" : Ah).cps.toList=[]:=by decide
def gB:("0" : Ah).cps.toList=[48]:=by decide
def SW {x y:Ah}:x=y↔x.cps.toList=y.cps.toList:=⟨λh=>h▸Z,vC⟩
def JI (w:ey x)(L:x.length<=640)(S:ag):bg [.str x] S=.ok (ma x) S:=by
 rw[jO];refine qZ (zB (ac:=[Aa (.str x),Zt]) Z ?_);rfl';refine uB ?_;rfl';refine vB ?_;rfl';refine uC li ?_;rfl';refine jF ?_;rfl';have N:∀ y:Ah,y.cps.toList=wO x.cps.toList->∀ S,Ok ((w6 (bh (d2 fq (qB 1) (dC (.str "")))) (w6 (bh (d2 yl (qH zW (qA (qB 1) qC)) (dC (.int (30))))) (bh (d2 jo (z0 Yp [Zt] (xH (jT (qB 1))) (be 0) (yO (bh (d2 (tS Vq) (qB 0) (dC (.str "0123456789")))) zU) (qX (qB 0))) (zJ qC))))) [Aa (.str x),Aa (.str y)] S) λb j=>Wo (YI (qE (cu (yO (bh (d2 fq (d2 tU (qB 1) (dC (.int 0))) (dC (.str "0")))) (bh (d2 jo (qB 0) (dC (.str "0"))))) (qO (dC .non)) qS) (qO (qH pQ (qA (qB 0) qC)))) (WC λu f=>u=ma x/\f=S)) (cD b (qO (dC .non)) qS [Aa (.str x),Aa (.str y)] j):=by
  intro y J S;have l:=cQ w J;have ly:y.length=(wO x.cps.toList).length:=by rw[<- J,zX]
  have l2:=iA x.cps.toList;rw[zX] at l2;refine xZ ?_;rfl';refine jF ?_;rfl';refine⟨λe=>?_,λd=>?_⟩
  .rfl';refine⟨(fV λg=>g.1 ?_).symm,Z⟩;rw[<- J,Bg e,yP]
  .have H:wO x.cps.toList≠[]:=λz=>Ei d (vC (by rw[J,z,yP]));refine xZ ?_;rfl';refine lM li ?_;rfl';refine⟨λe=>?_,λe=>?_⟩
   .rfl';refine⟨(fV λg=>?_).symm,Z⟩;have:=g.2.1;have:=Bg e;lia
   .have B:(wO x.cps.toList).length<=30:=by
     have:=Ei e;lia
    rfl';have U:=TH (cp:=wv) (cr:=[Zt]) (fi:=xH (jT (qB 1))) (g:=be 0) (t:=yO (bh (d2 (tS Vq) (qB 0) (dC (.str "0123456789")))) zU) (fe:=qB 0) (ac:=[Aa (.str x),Aa (.str y)]) (S:=S) (qAS l Z) trivial (λc=>!Dg c) wv (λac=>∃ a,ac=[a]) ⟨Zt,Z⟩ (by rw[zX];unfold bb;lia)
     λc U ac ⟨a,o⟩=>by
      subst o;refine⟨[Aa (wv c)],rfl,⟨_,rfl⟩,?_,λ_=>rfl⟩;refine qZ (iP ?_);rfl';refine qAd ?_;rw[NW];rfl';refine⟨λq=>?_,λq=>?_⟩
      .rfl';exact⟨q.symm,Z⟩
      .exact⟨q.symm,Z⟩
    refine qD U ?_;rfl';refine qD (A4 _ S (By (Lh _ _) (by rw[zX];lia))) ?_;rfl';rw[J];by_cases q:(wO x.cps.toList).filter (λc=>!Dg c)=[]
    .rw[Cm q];rfl';have v:(wO x.cps.toList).all Dg=true:=Bk.mpr λc U=>by
      cases h:Dg c with
      |true=>rfl
      |false =>
       have:=Oq (p:=λc=>!Dg c) |>.mpr ⟨U,show (!Dg c)=Vq by rw[h];rfl⟩
       rw[q] at this;cases this
     have g:Gd x:=⟨H,B,v⟩;obtain⟨n,O,e2,e3⟩:=X3 g L;refine iP ?_;rfl';obtain⟨c,r,G⟩:=Qx H;refine MC (c:=c) li (by rw[J,G];exact pN c r) ?_;rfl';refine jF ?_;rfl';have Y:Sh x↔(c=48->x.cps.toList=[48]):=by unfold Sh;rw[G];simp
     refine⟨λk=>?_,λk=>?_⟩
     .have m:c=48:=by
       have:=congrArg (λz:Ah=>z.cps.toList) (Bg k);rw[gB] at this;exact(Ho this).1
      rfl';refine qAh ?_;rfl';by_cases z:x = "0"
      .rw[Cm z];rfl';refine iQ O L ?_;rfl';exact⟨(iO g (Y.mpr λ_=>by rw[z,gB]) O).symm,Z⟩
      .rw[Bq z];rfl';exact⟨(US λs=>z (vC (by rw[Y.mp s m,gB]))).symm,Z⟩
     .rfl';refine iQ O L ?_;rfl';refine⟨(iO g (Y.mpr λz=>?_) O).symm,Z⟩;exact absurd (show (⟨#[c]⟩:Ah) = "0" from vC (by rw[z,gB])) (Ei k)
    .rw[Bq q];rfl';refine⟨(fV λg=>q ?_).symm,Z⟩;exact Ul.mpr λc U=>by rw[Bk.mp g.2.2 c U];decide
 have A:(Txt.slice x Zt (Aa 1) = "-")↔∃ r,x.cps.toList=45::r:=by
  rw[SW,qBC,_u];cases x.cps.toList with
  |nil=>simp
  |cons c r=>simp
 refine⟨λq=>?_,λq=>?_⟩
 .obtain⟨r,M⟩:=A.mp (Bg q);rfl';refine vB ?_;rfl';refine uC li ?_;rfl';exact N _ (by rw[SS,M];rfl) S
 .rfl';refine N x ?_ S;rcases u7 x.cps.toList with⟨r,I,E⟩|⟨I,E⟩
  .exact absurd (A.mpr ⟨r,I⟩) (Ei q)
  .exact E.symm
def Q3 (h:ey x)(i j:Aj):ey (Qq x i j):=λc Y=>by have:c∈(x.cps.extract i j).toList:=Y;rw[Array.toList_extract] at this;exact h c (Vp (Lq this))
theorem tK (h:ey x)(w:Aj):∀ (Y:Ab Aj) (a:Aj),∀ p∈Sb x w a Y,ey p
 |[],a,p,hp=>by
  have:p=Qq x a x.length:=by simpa [Sb] using hp
  rw[this];exact Q3 h _ _
 |c::r,a,p,hp=>by
  rcases Ay.mp (show p∈Qq x a c::Sb x w (c+w) r from hp) with e|hp
  .rw[e];exact Q3 h _ _
  .exact tK h w r _ p hp
def uT {x y a:Ah}(h:ey x)(Y:a∈Txt.split x y):ey a:=by
 unfold Txt.split at Y;split at Y
 .rw[Cc.mp Y];exact h
 .split at Y
  .rw[Cc.mp Y];exact h
  .rw[Nh] at Y;exact tK h _ _ _ a Y
def pH (x y:Ah)(h:1<=y.length):(Txt.split x y).length<=x.length+1:=by have:=PyProof.Rows.split_weight x y h;lia
def OC {S:ag}{w y:Ah}(e:ac[i]? = Aa (Aa (.str w)))(Y:w.length<=1000000)(J:1<=y.length):kj "str" wQ (qB i) (qA (dC (.str y)) qC) ac S=.ok (.lst ((Txt.split w y).map .str)) S:=by refine qZ (qBs (o_v e ?_));refine⟨Z,yI (o_c (bB ⟨_,_,?_,Z,Z⟩))⟩;exact Au ⟨by unfold bb;lia,Fx.mpr li⟩
def lA {S:ag}{w y:Ah}(e:ac[i]? = Aa (Aa (.str w)))(Y:w.length<=1000000)(J:1<=y.length):jc (kj "str" wQ (qB i) (qA (dC (.str y)) qC)) ac S=.ok (Zt,(Txt.split w y).map .str) S:=by unfold jc;rw[OC e Y J];rfl
def iZ (x:Ah):Pn (ma x):=by
 unfold ma;split
 .split
  .exact⟨.int _,Z⟩
  .exact⟨.none,Z⟩
 .exact⟨.none,Z⟩
def mj (w:Ah):D:=if xE (.tup ((Txt.split w ",").map ma))=Vq then .tup ((Txt.split w ",").map ma) else .non
def IK (w:Ah):Pn (mj w):=by
 unfold mj;split
 .exact o2 λd Y=>by obtain⟨x,_,rfl⟩:=Cj.mp Y;exact iZ x
 .exact⟨.none,Z⟩
def rd (t:Ah):D:=.tup ((Txt.split t " ").map mj)
def MH (t:Ah):Pn (rd t):=o2 λd Y=>by obtain⟨x,_,rfl⟩:=Cj.mp Y;exact IK x
def o6 (O:ey w)(B:w.length<=640)(S:ag):ff [.str w] S=.ok (mj w) S:=by
 rw[bT];refine qZ (zB (ac:=[Aa (.str w),Zt]) Z ?_);rfl';refine zY (cp:=D.str) (o:=Zt) (Txt.split w ",") ma (λac Y=>Y=S/\∃ a,ac=[a]) (lA Z li aC) ⟨Z,Zt,Z⟩ (by have:=pH w "," aC;unfold bb;lia) (λ_ _ _=>trivial) (λx U ac Y ⟨J,a,G⟩=>?_) λac Y ⟨J,_⟩=>?_
 .subst J G;rfl';exact qD (YE (uT O U) (By (Ib U) B) _) ⟨Z,Z,_,Z⟩
 .subst J;rfl';refine uB ?_;rfl';refine qD (jI (o2 λd N=>by
   obtain⟨x,_,rfl⟩:=Cj.mp N;exact iZ x) _) ?_
  rfl';refine⟨λq=>?_,λq=>?_⟩
  .rfl';exact⟨(Au q).symm,Z⟩
  .rfl';exact⟨(AT (by rw[q];decide)).symm,Z⟩
def X0 (O:ey w)(B:w.length<=640)(S:ag):ba [.str w] S=.ok (mj w) S:=by
 rw[uS];refine qZ (zB (ac:=[Aa (.str w),Zt]) Z ?_);rfl';refine zY (cp:=D.str) (o:=Zt) (Txt.split w ",") ma (λac Y=>Y=S/\∃ a,ac=[a]) (lA Z li aC) ⟨Z,Zt,Z⟩ (by have:=pH w "," aC;unfold bb;lia) (λ_ _ _=>trivial) (λx U ac Y ⟨J,a,G⟩=>?_) λac Y ⟨J,_⟩=>?_
 .subst J G;rfl';exact qD (JI (uT O U) (By (Ib U) B) _) ⟨Z,Z,_,Z⟩
 .subst J;rfl';refine uB ?_;rfl';refine qD (tH (o2 λd N=>by
   obtain⟨x,_,rfl⟩:=Cj.mp N;exact iZ x) _) ?_
  rfl';refine⟨λq=>?_,λq=>?_⟩
  .rfl';exact⟨(Au q).symm,Z⟩
  .rfl';exact⟨(AT (by rw[q];decide)).symm,Z⟩
def SJ (N:ey w)(O:w.length<=640)(S:ag):fu [.str w] S=.ok (if xY (rd w)=Vq then rd w else .non) S:=by
 rw[gP];refine qZ (zB (ac:=[Aa (.str w),Zt]) Z ?_);rfl';refine zY (cp:=D.str) (o:=Zt) (Txt.split w " ") mj (λac Y=>Y=S/\∃ a,ac=[a]) (lA Z li aC) ⟨Z,Zt,Z⟩ (by have:=pH w " " aC;unfold bb;lia) (λ_ _ _=>trivial) (λx U ac Y ⟨J,a,G⟩=>?_) λac Y ⟨J,_⟩=>?_
 .subst J G;rfl';exact qD (X0 (uT N U) (By (Ib U) O) _) ⟨Z,Z,_,Z⟩
 .subst J;rfl';refine uB ?_;rfl';refine qD (eK (MH w) _) ?_;rfl';refine⟨λq=>?_,λq=>?_⟩
  .rfl';exact⟨(Au q).symm,Z⟩
  .rfl';exact⟨(AT (by rw[q];decide)).symm,Z⟩
def A_ {Q:ja->Prop}(c:Cl){w:Ah}(N:ey w)(O:w.length<=640)(S:ag)(k1:xY (rd w)=Vq->Q (.rt (rd w) S))(k2:xY (rd w)=Yp->∀ ac,Q (.ex (.ref c.NoText) .non ac S)):Wo Q (qp c [Aa (.str w),Zt] S):=by
 rfl';refine qD (d:=.bl Vq) (S:=S) (by kernel_rfl!) ?_;rfl';refine zY (cp:=D.str) (o:=Zt) (Txt.split w " ") mj (λac Y=>Y=S/\∃ a,ac=[a]) (lA Z li aC) ⟨Z,Zt,Z⟩ (by have:=pH w " " aC;unfold bb;lia) (λ_ _ _=>trivial) (λx U ac Y ⟨J,a,G⟩=>?_) λac Y ⟨J,_⟩=>?_
 .subst J G;rfl';exact qD (o6 (uT N U) (By (Ib U) O) _) ⟨Z,Z,_,Z⟩
 .subst J;rfl';refine qD (o4 (MH w) _) ?_;rfl';cases h:xY (rd w) with
  |true =>
   rfl';exact k1 h
  |false =>
   rfl';exact vR (k2 h _)
def BP (c:Cl){w:Ah}(Y:ey w)(J:w.length<=640)(S:ag)(h:xY (rd w)=Vq):jj c [.str w] S=.ok (rd w) S:=by rw[f9];refine qZ (zB (ac:=[Aa (.str w),Zt]) rfl ?_);exact A_ c Y J S (λ_=>⟨rfl,rfl⟩) λz=>by rw[h] at z;cases z
def SK (c:Cl){w:Ah}(Y:ey w)(J:w.length<=640)(S:ag)(h:xY (rd w)=Yp):jj c [.str w] S=.ex (.ref c.NoText) .non S:=by rw[f9];refine y0 (ac:=[Aa (.str w),Zt]) rfl ?_;exact A_ c Y J S (λz=>by rw[h] at z;cases z) λ_ ac=>⟨ac,rfl⟩
noncomputable def ki (i:Aq):Ah:=Fd (toString i)
def pw (p:Pt):Ah:=ki p.1 ++ "," ++ ki p.2
def tx (l:Ab Pt):Ah:=Txt.join " " (l.map pw)
def zT (a b:Ah):(a++b).length=a.length+b.length:=Array.size_append ..
def wL (a b:Ah):(a++b).cps.toList=a.cps.toList++b.cps.toList:=by show (a.cps++b.cps).toList=_;simp
def w9 (h:ey a)(k:ey b):ey (a++b):=λc Y=>by rw[wL] at Y;exact(Cg.mp Y).elim (h c) (k c)
def Q2 (m:Aj):∀ c∈(Jc 10 m).map Jd,c<128:=λc Y=>by obtain⟨J,h,rfl⟩:=Cj.mp Y;have:=Sm (Qh aC aC h);lia
def UV {m:Aj}(h:m<=1000):ey (ki m)/\(ki m).length<=4:=⟨λc Y=>by
 unfold ki at Y;rw[lX] at Y;exact Q2 m c Y,Aaa li aC li⟩
def yZ {i:Aq}(h : -1000<=i/\i<=1000):ey (ki i)/\(ki i).length<=5/\i.natAbs.log2<1920:=by
 have J:i.natAbs.log2<1920:=by have:=Nat.log2_le_self i.natAbs;lia
 by_cases e:0<=i
 .obtain⟨m,rfl⟩:=Ng e;have:=UV (m:=m) li;exact⟨this.1,by lia,J⟩
 .obtain⟨m,rfl⟩:∃ m:Aj,i = -((m+1:Aj):Aq):=⟨(-i).toNat-1,by lia⟩
  have k:=UV (m:=m+1) li;have Y:(ki (-((m+1:Aj):Aq))).cps.toList=45::(Jc 10 (m+1)).map Jd:=cI m;refine⟨λc hc=>?_,?_,J⟩
  .rw[Y] at hc;rcases Ay.mp hc with rfl|hc
   .decide
   .exact Q2 _ c hc
  .rw[<- zX,Y,Aw];have U:(ki ((m+1:Aj):Aq)).cps.toList=(Jc 10 (m+1)).map Jd:=lX (m+1);have:=k.2;rw[<- zX,U] at this;lia
def cH (h:gp 1000 p):ey (pw p)/\(pw p).length<=11:=by
 have a:=yZ (i:=p.1) ⟨h.1,h.2.1⟩;have b:=yZ (i:=p.2) ⟨h.2.2.1,h.2.2.2⟩;refine⟨w9 (w9 a.1 (by intro c Y;revert c;decide)) b.1,?_⟩;unfold pw;rw[zT,zT];have:(("," : Ah)).length=1:=by decide
 lia
def tL (G:ey y):∀ {l:Y0},(∀ a∈l,ey a)->ey (Txt.join y l):=by
 intro l h;show ey (Sc y l);rw[Om]
 induction l with
 |nil=>intro c U;cases U
 |cons a l J =>
  cases l with
  |nil=>exact h a (Cr ..)
  |cons b l =>
   show ey (a++y++Str.join y (b::l));exact w9 (w9 (h a (Cr ..)) G) (J λx Y=>h x (Bm _ Y))
theorem dA {J:Type}(f:J->Aj)(m:Aj):∀ {l:Ab J},(∀ a∈l,f a<=m)->(l.map f).sum<=l.length*m
 |[],_=>by simp
 |a::l,h=>by have U:=h a (Cr ..);have G:=dA f m (l:=l) λx Y=>h x (Bm _ Y);rw[Ee,List.sum_cons,Aw,Nat.add_mul];lia
def iB (y:Ah)(l:Y0):(Txt.join y l).length<=(l.map (·.length)).sum+l.length*y.length:=by
 show (Sc y l).length<=_;rw[Om];cases l with
 |nil=>exact Fi _
 |cons a l =>
  rw[PyProof.Rows.len_join_cons,Aw,Nat.add_mul];lia
def nQ:ey " ":=by intro c Y;revert c;decide
def jY:(" " : Ah).length=1:=by decide
def cM {M:Aj}{l:Ab Pt}(G:M<=41)(N:l.length<=M)(J:∀ p∈l,gp 1000 p):ey (tx l)/\(tx l).length<=492:=by
 refine⟨tL nQ λa U=>?_,?_⟩
 .obtain⟨p,Y,rfl⟩:=Cj.mp U;exact(cH (J p Y)).1
 .refine By (iB _ _) ?_;have:=dA (λp:Pt=>(pw p).length) 11 (l:=l) λp Y=>(cH (J p Y)).2;rw[Dk,Ao,jY];show (l.map λp=>(pw p).length).sum+_<=_;lia
def UZ {x:Ah}{ys:Y0}{S:ag}(J:(ys.map (·.length)).sum+ys.length*x.length<=bb)(h:Q (.str (Txt.join x ys)) S):Ok (jD (.str x) [.lst (ys.map .str)] S) Q:=by refine⟨_,_,?_,h⟩;show (match (Aa (ys.map D.str)).bind kZ with|some (Y:Y0)=>if (wP Ju Y).sum+Gh Y*x.length<=bb then ax.ok (D.str (Txt.join x Y)) S else .bad|none=>.bad)=_;rw[Og,JW];exact Au J
def ZS {l:Ab Pt}(U:l.length<=41)(J:∀ p∈l,gp 1000 p){S:ag}(h:Q (.str (tx l)) S):Ok (jD (.str " ") [.lst (l.map λp=>.str (pw p))] S) Q:=by
 have e:(l.map λp=>D.str (pw p))=(l.map pw).map .str:=by rw[Dk];rfl
 rw[e];refine UZ ?_ h;have:=dA (λp:Pt=>(pw p).length) 11 (l:=l) λp Y=>(cH (J p Y)).2;rw[Dk,Ao,jY];show (l.map λp=>(pw p).length).sum+_<=_;unfold bb;lia
def sC {p:DE}{ps:Ab DE}{Y y:Ah}{S:ag}(h:p ac S=.ok (.str y) S)(J:(Y++y).length<=bb):pZ Y (p::ps) ac S=pZ (Y++y) ps ac S:=by show (p ac S).bind _=_;rw[h];exact Au J
def VU {S:ag}(e:ac[i]? = Aa (Aa (.int n)))(h:n.natAbs.log2<1920):d1 pS (qB i) ac S=.ok (.str (ki n)) S:=by show (qB i ac S).bind _=_;rw[mB e];exact Au h
def CA (h:gp 1000 p)(S:ag):c9 [d1 pS (qB 0),dC (.str ","),d1 pS (qB 1)] [Aa (.int p.1),Aa (.int p.2)] S=.ok (.str (pw p)) S:=by
 have a:=yZ (i:=p.1) ⟨h.1,h.2.1⟩;have b:=yZ (i:=p.2) ⟨h.2.2.1,h.2.2.2⟩;have U:(("," : Ah)).length=1:=by decide
 have J:Ou.length=0:=Z;have Y:Ou++ki p.1=ki p.1:=vC (by rw[wL];rfl);show pZ Ou _ _ _=_;rw[sC (VU Z a.2.2) (by rw[zT];unfold bb;lia),sC (show dC (.str ",") _ S=.ok (.str ",") S from Z) (by rw[zT,zT];unfold bb;lia),sC (VU Z b.2.2) (by rw[zT,zT,zT];unfold bb;lia)];rw[Y];exact Au (by rw[zT,zT];unfold bb;lia)
def BY (c:Cl){M:Aj}(N:M<=40){l:Ab Pt}(L:fx M l)(S:ag):ke c [qM l] S=.ok (.str (tx l)) S:=by
 rw[nO];refine qZ (zB (ac:=[Aa (qM l)]) Z ?_);rfl';refine qD (uQ c S (fZ l) (jW N L)) ?_;rfl';refine zY (cp:=ay) (o:=Zt) l (λp=>.str (pw p)) (λac Y=>Y=S/\∃ a b,ac=[a,b]) (vG Z) ⟨Z,Zt,Zt,Z⟩ (by have:=L.len;unfold bb;lia) (λ_ _ _=>trivial) (λx U ac Y ⟨J,a,b,G⟩=>?_) λac Y ⟨J,_⟩=>?_
 .subst J G;rfl';exact qD (CA (L.box x U) _) ⟨Z,Z,_,_,Z⟩
 .subst J;rfl';refine ZS (by have:=L.len;lia) (λp O=>L.box p O) ?_;rfl';exact⟨Z,Z⟩
def xA {a b:Ah}{S:ag}(Y:a.length+b.length<=1000000)(h:Q (.str (a++b)) S):Ok (qW (.str a) (.str b) S) Q:=⟨_,_,Au (by unfold bb;lia),h⟩
def pB {l:Ab Pt}(O:l.length<=41)(U:∀ p∈l,gp 1000 p){d:D}{S:ag}(e:jc (qB 0) [Aa d] S=.ok (Zt,l.map ay) S)(q:Q (.str (tx l)) S):Ok (bc [d] S) Q:=by
 rw[gR];refine zB (ac:=[Aa d]) Z ?_;rfl';refine zY (cp:=ay) (o:=Zt) l (λp=>.str (pw p)) (λac Y=>Y=S/\∃ a b,ac=[a,b]) e ⟨Z,Zt,Zt,Z⟩ (by unfold bb;lia) (λ_ _ _=>trivial) (λx G ac Y ⟨J,a,b,N⟩=>?_) λac Y ⟨J,_⟩=>?_
 .subst J N;have h:=U x G;have a:=yZ (i:=x.1) ⟨h.1,h.2.1⟩;have b:=yZ (i:=x.2) ⟨h.2.2.1,h.2.2.2⟩;have B:(("," : Ah)).length=1:=by decide
  rfl';refine fX a.2.2 ?_;rfl';refine xA (a:=ki x.1) li ?_;rfl';refine fX b.2.2 ?_;rfl';refine xA (a:=ki x.1 ++ ",") (b:=ki x.2) (by rw[zT];lia) ?_;exact⟨Z,Z,_,_,Z⟩
 .subst J;rfl';refine ZS O U ?_;rfl';exact q
def cR (h:ey x)(l:Ab Aj):ey ⟨(l.filterMap (x.cps[·]?)).toArray⟩:=λc Y=>by
 have:c∈l.filterMap (x.cps[·]?):=by simpa using Y
 obtain⟨i,_,e⟩:=Iu.mp this;rw[<- Bw] at e;exact h c (Cb e)
def kL (h:ey x)(lo hi:Al Aq):ey (Txt.slice x lo hi):=by
 unfold Txt.slice;split
 .exact h
 .exact cR h _
def RS (h:ey x)(lo hi:Al (Aq × Ms))(st:Aq × Ms):ey (Txt.sliceBy x lo hi st):=by
 unfold Txt.sliceBy;split
 .exact h
 .exact cR h _
def MY (h:ey x)(hz:ey z):ey (Txt.replace x y z):=by
 unfold Txt.replace;split
 .exact h
 .refine tL hz λa Y=>?_;rw[Nh] at Y;exact tK h _ _ _ a Y
def sH (x y z:Ah)(Y:x.length+(x.length+1)*z.length<=16777216):(Txt.replace x y z).length<=bb:=by
 unfold Txt.replace;split
 .unfold bb;lia
 .rw[zM];exact PySem.fits_replaced y Y
def LD (x:Ah):(Txt.slice x Zt (Aa 600)).length<=600:=by rcases PyProof.Rows.slice_ns_cases x 600 aC with⟨_,h⟩|⟨_,h⟩ <;> lia
def Tm (x:Ah):Prop:=ey x/\x.length<=bb
def Wd (x:Ah):Prop:=ey x/\x.length<=492
def ME {x:Ah}{S:ag}(Y:x.length<=bb)(h:Q (.str (Txt.slice x lo hi)) S):Ok (fL (.str x) lo hi S) Q:=⟨_,_,Au Y,h⟩
def sS {x y:Ah}{S:ag}(J:x.length<=1000000)(Y:1<=y.length)(h:Q (.lst ((Txt.split x y).map .str)) S):Ok (wQ (.str x) [.str y] S) Q:=⟨_,_,Au ⟨by unfold bb;lia,Fx.mpr li⟩,h⟩
def qAk {f:DE}{S:ag}{y z:Ah}(h:Ok (f ac S) λd S1=>∃ x,d=.str x/\x.length+(x.length+1)*z.length<=bb/\Q (.str (Txt.replace x y z)) S1):Ok (fF y z f ac S) Q:=zA (zQ h λd S1 ⟨x,e,Y,q⟩=>by
 subst e;exact⟨_,_,Au Y,q⟩)
def LZ {f g:DE}{S:ag}(h:Ok (f ac S) λa S1=>Ok (g ac S1) λb Y=>Ok (l0 a b Y) Q):Ok (fG f g ac S) Q:=o_2 h
def qAl {x:Ah}{S:ag}(Y:x.length<=1000000)(h:Q (.str (Txt.sliceBy x Zt Zt (-1,0))) S):Ok (l0 (.str x) (.int (-1)) S) Q:=⟨_,_,Au ⟨by decide,by unfold bb;lia⟩,h⟩
def dJ (ys:Y0)(lo hi:Al Aq):∃ Y:Ab Ah,wG (ys.map .str) lo hi=Y.map .str/\(∀ z∈Y,z∈ys)/\Y.length<=ys.length:=by unfold wG;refine⟨_,by rw[<- Wq,<- Rz],λz J=>Vp (Lq J),?_⟩;rw[Fo,Hm];lia
def XC (x y:Ah):0<(Txt.split x y).length:=by
 unfold Txt.split;split
 .exact Nat.one_pos
 .split
  .exact Nat.one_pos
  .rw[Nh];obtain⟨p,r,e⟩:=StrLaws.partsFrom_ne x y.length 0 (Go x y 0 x.length (x.length+1));rw[e];exact Kf _
def UC {l:Y0}{n:Aj}(G:l.length<=n)(h:∀ z∈l,Wd z)(N:n<=3000):Tm (Txt.join " " l)/\(l.map (·.length)).sum+l.length*(" " : Ah).length<=bb:=by have U:=dA Ju 492 (l:=l) λz Y=>(h z Y).2;have J:=iB " " l;have O:l.length*492<=3000*492:=Vo _ li;rw[jY] at J ⊢;exact⟨⟨tL nQ λz Y=>(h z Y).1,by unfold bb;lia⟩,by unfold bb;show (l.map Ju).sum+_<=_;lia⟩
def XA:("0123456789 ,-+.\nx_:;" : Ah).cps.toList=[48,49,50,51,52,53,54,55,56,57,32,44,45,43,46,10,120,95,58,59]:=by decide
def IvB (p j:Aj)(w G:Ah)(fz:Y0)(a b k:Aj)(sg:Ah)(S0:ag)(J:Ab (Ab Ah))(ac:qG)(S:ag):Prop:=(∀ l∈J,(∀ z∈l,Wd z)/\l.length<=494)/\Kp p S0 S/\∃ (U:Al D) (Y:Y0),ac=[Aa (.loc p),Aa (.str w),Aa (.int (a:Aq)),Aa (.int (b:Aq)),Aa (.str sg),Aa (.lst (fz.map .str)),Aa (.int (k:Aq)),Aa (.str G),Aa (.loc j),U]/\S[j]? = Aa (.lst (Y.map .str))/\(∀ y∈Y,Tm y)/\Y.length+J.length=12
def T3 {p j:Aj}{w Y:Ah}{fz:Y0}{a b k:Aj}{sg:Ah}(ha:a<12)(hw:∀ z∈fz,Wd z)(G:Wd Y)(hn:fz.length<=493){S0 S:ag}{ys:Y0}(N:Kp p S0 S)(f:S0.length<=j)(E:p≠j)(e:S[j]? = Aa (.lst (ys.map .str)))(J:∀ y∈ys,Tm y)(U:ys.length=9)
  (q:∀ x g,Kp p S0 g->ey x->x.length<=600->Q (.str x) g) :
  Wo (WC Q) ((qE (gF (u0 (zJ (qA (zJ (qA (qB 7) (qA (qB 7) qC))) (qA (zJ (qA (fG (qB 7) (d1 y9 (dC (.int 1)))) qC)) (qA (d2 qW (nq (qB 5) (zF (d2 qW (qB 6) (dC (.int 1)))) (zF (d2 qW (qB 6) (dC (.int 2))))) (zJ (qA (qB 7) qC))) qC))))) (be 9) (wD (kj "list" wZ (qB 8) (qA (kj "str" jD (dC (.str " ")) (qA (d2 qW (d2 qW (nq (qB 5) zL (zF (qB 6))) (qB 9)) (nq (qB 5) (zF (d2 qW (qB 6) (dC (.int 1)))) zL)) qC)) qC)))) (qO (vE (d2 b_ (qB 8) (qB 2)) zL (zF (dC (.int 600)))))) [Aa (.loc p),Aa (.str w),Aa (.int (a:Aq)),Aa (.int (b:Aq)),Aa (.str sg),Aa (.lst (fz.map .str)),Aa (.int (k:Aq)),Aa (.str Y),Aa (.loc j),Zt] S):=by
 rfl';refine LZ ?_;rfl';refine qAl (by have:=G.2;lia) ?_;rfl';obtain⟨L,c,B,l1⟩:=dJ fz (Aa ((k:Aq)+1)) (Aa ((k:Aq)+2));rw[c];refine wC (by rw[Ao];show _+1<=bb;unfold bb;lia) ?_;rfl';have O:Wd (Txt.sliceBy Y Zt Zt (-1,0)):=⟨RS G.1 _ _ _,By (Txt.sliceBy_le Y Zt Zt (-1,0) aC) G.2⟩
 have d:L.map D.str++[.str Y]=(L++[Y]).map .str:=by rw[Dq];rfl
 rw[d];refine j3 (cp:=λl:Ab Ah=>D.lst (l.map .str)) (IvB p j w Y fz a b k sg S0) (λl aq ac S A=>?_) (λac S A=>?_) (xs:=[[Y,Y],[Txt.sliceBy Y Zt Zt (-1,0)],L++[Y]]) ?_
 .obtain⟨O,N,m,ys,rfl,e,J,U⟩:=A;have H:=O l (Cr ..);rfl';refine⟨qBI e,?_⟩;rfl';obtain⟨o,t,B,h⟩:=dJ fz Zt (Aa (k:Aq));obtain⟨M,s,v,n2⟩:=dJ fz (Aa ((k:Aq)+1)) Zt;rw[t];refine wC (by rw[Ao,Ao];unfold bb;lia) ?_;rfl';rw[s,<- Dq];refine wC (by rw[Ao,Ao,Bj];unfold bb;lia) ?_;rfl';rw[<- Dq];have u:=UC (l:=o++l++M) (n:=1480) (by rw[Bj,Bj];lia) (λz hz=>by
   rcases Cg.mp hz with hz|hz
   .rcases Cg.mp hz with hz|hz
    .exact hw z (B z hz)
    .exact H.1 z hz
   .exact hw z (v z hz)) li
  refine UZ u.2 ?_;rfl';refine xx e (by rw[Ao];rw[Aw] at U;unfold bb;lia) ?_;refine dE ⟨λl U=>O l (Bm _ U),N.set f _ E,_,ys++[Txt.join " " (o++l++M)],Z,?_,λy hy=>?_,?_⟩
  .rw[Fn (Bv.mp e).1,Dq];rfl
  .rcases Cg.mp hy with hy|hy
   .exact J y hy
   .rw[Cc.mp hy];exact u.1
  .rw[Bj,Df];rw[Aw] at U;lia
 .obtain⟨_,N,m,ys,rfl,e,J,U⟩:=A;rw[Cy] at U;rfl';refine vB ?_;rfl';have I:a<(ys.map D.str).length:=by rw[Ao];lia
  refine jG e (W2 I) ?_;rw[Ls];have hy:=J (ys[a]' li) (Il _);rfl';refine ME hy.2 ?_;rfl';exact q _ _ N (kL hy.1 _ _) (LD _)
 .refine⟨λl U=>?_,N,Zt,ys,Z,e,J,by rw[U];rfl⟩;simp only[Ay,Cz,Fw] at U;rcases U with rfl|rfl|rfl
  .exact⟨λz hz=>by
    simp only[Ay,Cz,Fw,or_self] at hz;rw[hz];exact G,Bz Z⟩
  .exact⟨λz hz=>by rw[Cc.mp hz];exact O,Bz Z⟩
  .exact⟨λz hz=>by
    rcases Cg.mp hz with hz|hz
    .exact hw z (B z hz)
    .rw[Cc.mp hz];exact G,by rw[Bj,Df];lia⟩
def AB (J:ey w)(hl:w.length<=492){S:ag}(h:yD S p)(q:∀ x f,Kp p S f->ey x->x.length<=600->Q (.str x) f):Ok (cg [.loc p,.str w] S) Q:=by
 rw[uG];refine zB (ac:=[Aa (.loc p),Aa (.str w),Zt,Zt,Zt,Zt,Zt,Zt,Zt,Zt]) Z ?_;rfl';refine xO h li λa S1 t zc=>?_;rfl';refine lM li ?_;rfl';refine xO t.pen li λb S2 n hb=>?_;rfl';refine xO n.pen li λg S3 m hg=>?_;rfl';have L:g<("0123456789 ,-+.\nx_:;" : Ah).cps.toList.length:=by rw[XA];simp only[Aw,Cy];lia
 refine MC (Bz aC) (W3 L) ?_;have Y:ey ⟨#[("0123456789 ,-+.\nx_:;" : Ah).cps.toList[g]]⟩/\(⟨#[("0123456789 ,-+.\nx_:;" : Ah).cps.toList[g]]⟩:Ah).length=1:=⟨λc u=>by
  have:c=("0123456789 ,-+.\nx_:;" : Ah).cps.toList[g]:=by simpa using u
  rw[this];have al:∀ c∈("0123456789 ,-+.\nx_:;" : Ah).cps.toList,c<128:=by rw[XA];decide
  exact al _ (Il _),Z⟩
 generalize (⟨#[("0123456789 ,-+.\nx_:;" : Ah).cps.toList[g]]⟩:Ah)=sg at Y;rfl';refine sS li aC ?_;have B:∀ z∈Txt.split w " ",Wd z:=λz d=>⟨uT J d,By (Ib d) hl⟩;have hn:=pH w " " aC;have h0:=XC w " ";generalize Txt.split w " " = fz at B hn h0;rfl';refine xO m.pen (by rw[Ao];lia) λk S4 A hk=>?_;rw[Ao] at hk;rfl';refine x8 (W2 (by rw[Ao];lia)) ?_;rw[Ls];have G:=B (fz[k]' li) (Il _);generalize fz[k]' li=w7 at G;have M:=((t.trans n).trans m).trans A;have hA:=Txt.slice_le w Zt (Aa (b:Aq));have hB:=Txt.slice_le w (Aa (b:Aq)) Zt;have hC:=Txt.slice_le w (Aa ((b:Aq)+1)) Zt;have O:=kL J Zt (Aa (b:Aq));have aB:=kL J (Aa (b:Aq)) Zt;have o:=kL J (Aa ((b:Aq)+1)) Zt;rfl';refine vB ?_;rfl';refine uC li ?_;rfl';refine xA li ?_;rfl';refine vB ?_;rfl';refine uC li ?_;rfl';refine xA (by rw[zT];lia) ?_;rfl';refine B_ (k:=3) (by unfold bb;exact⟨by simp,by lia⟩) ?_;rfl';refine vB ?_;rfl';refine uC li ?_;rfl';refine xA li ?_;rfl';refine vB ?_;rfl';refine uC li ?_;rfl';refine xA (by rw[zT];lia) ?_;rfl';refine B_ (k:=2) (by unfold bb;exact⟨by simp,by lia⟩) ?_;refine wC (Bz Z) ?_;rfl';refine vB ?_;rfl';refine uC li ?_;rfl';refine vB ?_;rfl';refine uC li ?_;rfl';refine xA li ?_;rfl';refine xA (by rw[jY];lia) ?_;rfl';refine xA (by rw[jY];lia) ?_;rfl';refine qAk ?_;rfl';have l2:("  " : Ah).length=2:=by decide
 have j:w.length+(w.length+1)*("  " : Ah).length<=16777216:=by rw[l2];lia
 refine⟨j,?_⟩;rfl';refine UW rfl rfl (Bz rfl) (qBu (OS ?_));have E:ey "  ":=by intro c u;revert c;decide
 have U:∀ x:Ah,ey x->x.length<=2000->Tm x:=λx e h2=>⟨e,by unfold bb;lia⟩
 have H:=U _ (w9 (w9 O Y.1) aB) (by rw[zT,zT];lia);have l:=U _ (w9 (w9 O Y.1) o) (by rw[zT,zT];lia);have s:=U _ (w9 O o) (by rw[zT];lia);have t4:=U _ (w9 J nQ) (by rw[zT,jY];lia);have t5:=U _ (w9 nQ J) (by rw[zT,jY];lia);have t6:Tm (Txt.replace w " " "  "):=⟨MY J E,sH w " " "  " j⟩;have N:a<12:=by lia
 have I:fz.length<=493:=by lia
 refine T3 (a:=a) (b:=b) (k:=k) (fz:=fz) (w:=w) (sg:=sg) (S0:=S) (ys:=[_,_,_,_,_,_,_,_,_]) N B G I (M.trans (Kp.pre A.pen (Kh _ _))) M.len (Cn (JE A.pen)) (mD S4 _) (λy v=>?_) rfl q;simp only[Ay,Cz,Fw] at v;rcases v with rfl|rfl|rfl|rfl|rfl|rfl|rfl|rfl|rfl
 .exact H
 .exact H
 .exact H
 .exact l
 .exact l
 .exact s
 .exact t4
 .exact t5
 .exact t6
set_option tactic.hygienic true in
def IR (h:xE (mj w)=Yp):mj w=.non:=by
 unfold mj at h ⊢;split at h
 .rename_i k;rw[k] at h;cases h
 .rename_i k;rw[AT k]
def DW (c:Cl){w:Ah}(Y:ey w)(J:w.length<=640)(S:ag){q:Pt}(h:mj w=ay q):de c [.str w] S=.ok (ay q) S:=by rw[j6];refine qZ (zB (ac:=[Aa (.str w),Zt]) Z ?_);rfl';refine qD (o6 Y J S) ?_;rw[h];rfl';refine qD (d:=.bl Yp) (S:=S) Z ?_;rfl';exact⟨Z,Z⟩
def IL (c:Cl){w:Ah}(Y:ey w)(J:w.length<=640)(S:ag)(h:mj w=.non):de c [.str w] S=.ex (.ref c.NoPoint) .non S:=by rw[j6];refine y0 (ac:=[Aa (.str w),Zt]) Z ?_;rfl';refine qD (o6 Y J S) ?_;rw[h];rfl';refine qD (d:=.bl Vq) (S:=S) Z ?_;rfl';exact vR ⟨_,Z⟩
def LS (c:Cl){w:Ah}(Y:ey w)(J:w.length<=640)(S:ag){n:Aq}(h:ma w=.int n):cj c [.str w] S=.ok (.int n) S:=by rw[uK];refine qZ (zB (ac:=[Aa (.str w),Zt]) Z ?_);rfl';refine qD (YE Y J S) ?_;rw[h];rfl';refine qD (d:=.bl Yp) (S:=S) Z ?_;rfl';exact⟨Z,Z⟩
def A9 (c:Cl){w:Ah}(Y:ey w)(J:w.length<=640)(S:ag)(h:ma w=.non):cj c [.str w] S=.ex (.ref c.NoNumber) .non S:=by rw[uK];refine y0 (ac:=[Aa (.str w),Zt]) Z ?_;rfl';refine qD (YE Y J S) ?_;rw[h];rfl';refine qD (d:=.bl Vq) (S:=S) Z ?_;rfl';exact vR ⟨_,Z⟩
def _r (c:Cl){d:D}(S:ag)(h:Pn d)(k:xE d=Vq):dj c [d] S=.ok .non S:=by rw[vU];refine qZ (zB (ac:=[Aa d]) Z ?_);rfl';refine qD (jI h S) ?_;rw[k];rfl';exact⟨Z,Z⟩
def _s (c:Cl){d:D}(S:ag)(h:Pn d)(k:xE d=Yp):dj c [d] S=.ex (.ref c.NoPoint) .non S:=by rw[vU];refine y0 (ac:=[Aa d]) Z ?_;rfl';refine qD (jI h S) ?_;rw[k];rfl';exact vR ⟨_,Z⟩
def iK (c:Cl)(i:Aq)(S:ag):cw c [.int i] S=.ok .non S:=by rw[jP];refine qZ (zB (ac:=[Aa (.int i)]) Z ?_);rfl';refine qD (X1 (d:=.int i) ⟨_,Z⟩ S) ?_;rw[show _l (.int i)=Vq from Z];rfl';exact⟨Z,Z⟩
def kz (a b:Aq)(q:Pt):Pt:=(q.1+a,q.2+b)
def rk (q:Pt):Pt:=(-q.2,q.1)
def sy (q:Pt):Pt:=(q.2,q.1)
def ZT {Q:ja->Prop}(c:Cl){l:Ab Pt}(L:fx 40 l)(a b:Aq)(S:ag)(k1:(∀ q∈l,gp 1000 (kz a b q))->Q (.rt (qM (l.map (kz a b))) S))(k2:¬ (∀ q∈l,gp 1000 (kz a b q))->∀ ac,Q (.ex (.ref c.NoPoint) .non ac S)):Wo Q (oy c [Aa (qM l),Aa (.int a),Aa (.int b),Zt,Zt] S):=by
 rfl';refine qD (uQ c S (fZ l) (jW (Ax _) L)) ?_;rfl';refine qD (iK c a S) ?_;rfl';refine qD (iK c b S) ?_;rfl';refine zY (cp:=ay) (o:=Zt) l (λq=>ay (kz a b q)) (λac G=>G=S/\∃ x y,ac=[x,y,Aa (.int a),Aa (.int b)]) (vG Z) ⟨Z,Zt,Zt,Z⟩ (by have:=L.len;unfold bb;lia) (λ_ _ _=>trivial) (λx N ac G ⟨J,u,v,U⟩=>?_) λac G ⟨J,_⟩=>?_
 .subst J U;rfl';exact⟨_,_,Z⟩
 .subst J;rfl';rw[show (l.map λq=>ay (kz a b q))=(l.map (kz a b)).map ay by rw[Dk];rfl];refine j3 (cp:=ay) (λI ac H=>H=G/\∃ Y B,l.map (kz a b)=Y++I/\(∀ q∈Y,gp 1000 q)/\ac=[Aa (qM l),Aa (.int a),Aa (.int b),Aa (qM (l.map (kz a b))),B]) (λx I ac G ⟨J,Y,B,U,E,O⟩=>?_) (λac G ⟨J,Y,B,U,E,O⟩=>?_) ⟨rfl,[],Zt,rfl,(λ_ h=>by cases h),rfl⟩
  .subst J O;by_cases N:gp 1000 x
   .rfl';refine qD (_r c _ (YC x) (by rw[jK];exact Cm N)) ?_;rfl';refine⟨Z,Y++[x],_,by rw[U];simp,λq hq=>?_,Z⟩;rcases Cg.mp hq with hq|hq
    .exact E q hq
    .rw[Cc.mp hq];exact N
   .refine⟨_,_,Z,R7 ((nR Z).trans (_s c _ (YC x) (by rw[jK];exact Bq N))) (k2 (λz=>N ?_) _)⟩;have A:x∈l.map (kz a b):=by rw[U];simp
    obtain⟨q,hq,e⟩:=Cj.mp A;exact e▸z q hq
  .subst J O;rfl';rw[Gg] at U;exact k1 λq hq=>E _ (U▸Ha hq)
def UP (c:Cl){l:Ab Pt}(L:fx 40 l)(a b:Aq)(S:ag)(h:∀ q∈l,gp 1000 (kz a b q)):fj c [qM l,.int a,.int b] S=.ok (qM (l.map (kz a b))) S:=by rw[pL];exact qZ (zB (ac:=[Aa (qM l),Aa (.int a),Aa (.int b),Zt,Zt]) Z (ZT c L a b S (λ_=>⟨Z,Z⟩) λz=>absurd h z))
def B4 (c:Cl){l:Ab Pt}(L:fx 40 l)(a b:Aq)(S:ag)(h:¬ ∀ q∈l,gp 1000 (kz a b q)):fj c [qM l,.int a,.int b] S=.ex (.ref c.NoPoint) .non S:=by rw[pL];exact y0 (ac:=[Aa (qM l),Aa (.int a),Aa (.int b),Zt,Zt]) Z (ZT c L a b S (λz=>absurd z h) λ_ ac=>⟨ac,Z⟩)
def ZM (c:Cl)(d:D)(a b:Aq)(S:ag):gt c [d,.lst [.int a,.int b]] S=fj c [d,.int a,.int b] S:=by rw[rF];show j9 (oz c [Aa d,Aa (.lst [.int a,.int b])] S)=_;unfold oz qO;rw[show qI 3 (fj c) (qA (qB 0) (qA (d2 b_ (qB 1) (dC (.int 0))) (qA (d2 b_ (qB 1) (dC (.int 1))) qC))) [Aa d,Aa (.lst [.int a,.int b])] S=fj c [d,.int a,.int b] S from Z];cases fj c [d,.int a,.int b] S <;> rfl
def BK (c:Cl){l:Ab Pt}(L:fx 40 l)(S:ag):dc c [qM l] S=.ok (qM (w8 (l.map rk))) S:=by
 rw[jB];refine qZ (zB (ac:=[Aa (qM l)]) Z ?_);have N:=L.len;rfl';refine qD (uQ c S (fZ l) (jW (Ax _) L)) ?_;rfl';refine zY (cp:=ay) (o:=Zt) l (λq=>ay (rk q)) (λac Y=>Y=S/\∃ x y,ac=[x,y]) (vG Z) ⟨Z,Zt,Zt,Z⟩ (by unfold bb;lia) (λ_ _ _=>trivial) (λx G ac Y ⟨J,u,v,U⟩=>?_) λac Y ⟨J,_⟩=>?_
 .subst J U;rfl';exact⟨_,_,Z⟩
 .subst J;rfl';rw[show (l.map λq=>ay (rk q))=(l.map rk).map ay by rw[Dk];rfl];refine mT (by rw[Ao];lia) ?_;rfl';exact⟨Z,Z⟩
def YD (c:Cl){l:Ab Pt}(L:fx 40 l)(S:ag):ge c [qM l] S=.ok (qM (w8 (l.map sy))) S:=by
 rw[bR];refine qZ (zB (ac:=[Aa (qM l)]) Z ?_);have N:=L.len;rfl';refine qD (uQ c S (fZ l) (jW (Ax _) L)) ?_;rfl';refine zY (cp:=ay) (o:=Zt) l (λq=>ay (sy q)) (λac Y=>Y=S/\∃ x y,ac=[x,y]) (vG Z) ⟨Z,Zt,Zt,Z⟩ (by unfold bb;lia) (λ_ _ _=>trivial) (λx G ac Y ⟨J,u,v,U⟩=>?_) λac Y ⟨J,_⟩=>?_
 .subst J U;rfl';exact⟨_,_,Z⟩
 .subst J;rfl';rw[show (l.map λq=>ay (sy q))=(l.map sy).map ay by rw[Dk];rfl];refine mT (by rw[Ao];lia) ?_;rfl';exact⟨Z,Z⟩
def R3 (c:Cl){l:Ab Pt}(L:fx 40 l)(v:D)(S:ag):gq c [qM l,v] S=.ok (qM (w8 (l.map rk))) S:=by rw[rG];refine qZ (zB (ac:=[Aa (qM l),Aa v]) Z ?_);rfl';exact qD (BK c L S) ⟨Z,Z⟩
def UO (c:Cl){l:Ab Pt}(L:fx 40 l)(v:D)(S:ag):dw c [qM l,v] S=.ok (qM (w8 (l.map sy))) S:=by rw[mZ];refine qZ (zB (ac:=[Aa (qM l),Aa v]) Z ?_);rfl';exact qD (YD c L S) ⟨Z,Z⟩
def R0 (c:Cl){l:Ab Pt}(L:fx 40 l)(v:D)(S:ag):cf c [qM l,v] S=.ok (.str (tx l)) S:=by rw[bU];refine qZ (zB (ac:=[Aa (qM l),Aa v]) Z ?_);rfl';exact qD (BY c (Ax _) L S) ⟨Z,Z⟩
def aP (p q:Pt):g_ (ay p) (ay q)=decide (p=q):=by show (p.1 == q.1&&(p.2 == q.2&&Vq))=_;rw[Ks];simp[Prod.ext_iff]
def lQ (l:Ab Pt):(l.map ay).all (pl zC)=true:=Bk.mpr λx Y=>by obtain⟨p,_,rfl⟩:=Cj.mp Y;rfl
def QV (l:Ab Pt)(q:Pt):s_ (ay q) (.tup (l.map ay))=Aa (decide (q∈l)):=by
 show (if ((l.map ay).all (pl zC)&&pl zC (ay q))=Vq then Aa ((l.map ay).any λx=>g_ x (ay q)) else Zt)=_;rw[lQ,Au (show (Vq&&pl zC (ay q))=Vq from Z)];congr 1;rw[Ks,Zu,Az];constructor
 .rintro⟨x,Y,e⟩;obtain⟨p,J,rfl⟩:=Cj.mp Y;rw[aP,Az] at e;rw[<- e];exact J
 .intro U;exact⟨ay q,Ha U,by rw[aP];exact Cm Z⟩
def pW (l:Ab Pt)(q:Pt)(S:ag):ti (ay q) (.tup (l.map ay)) S=.ok (.bl (decide (q∈l))) S:=by unfold ti;rw[QV]
def lH (l:Ab Pt)(q:Pt)(S:ag):gZ (ay q) (.tup (l.map ay)) S=.ok (.bl (!decide (q∈l))) S:=by unfold gZ;rw[QV]
theorem tB {J β:Type}(f:J->β)(p:J->Ar):∀ l:Ab J,l.flatMap (λx=>if p x=Vq then [f x] else []) = (l.filter p).map f
 |[]=>rfl
 |x::l=>by rw[Gv,tB f p l,Zn];split <;> rfl
def LX {J:Type}{cp:J->D}{o:Al (Aj × MO)}{fi:qh}{tg:DG}{t:DT}{S S1:ag}(xs:Ab J)(p:J->Ar)(C:qG->ag->Prop)(hi:fi ac S=.ok (o,xs.map cp) S1)(h0:C (zZ cr ac) S1)(L:xs.length<=bb)(O:∀ ac S,C ac S->ou o S)
  (step:∀ x∈xs,∀ ac S,C ac S->Ok (tg (cp x) ac S) λY S1=>Ok (t Y S1) λb G=>b=p x/\(p x=Yp->C Y G)/\(p x=Vq->Ok (fe Y G) λd B=>d=cp x/\C Y B)) (q:∀ U N,C U N->Q (.lst ((xs.filter p).map cp)) N):Ok (z0 Yp cr fi tg t (qX fe) ac S) Q:=by
 have I:=tB cp p xs;have l:(xs.filter p).length<=xs.length:=Lh ..;obtain⟨U,N,e,c⟩:=yy (cp:=cp) (o:=o) (g:=tg) (t:=t) (k:=qX fe) (λx=>if p x=Vq then [cp x] else []) C O xs (zZ cr ac) S1 [] h0 (by rw[I,Ao];show 0+_<=bb;lia) (λx H ac S v y L=>by
  obtain⟨Y,S1,A,b,G,M,rfl,u,w⟩:=step x H ac S y;refine⟨Y,S1,_,G,A,M,?_⟩;cases E:p x with
  |false=>exact .inl ⟨rfl,by simp,u E⟩
  |true =>
   obtain⟨d,B,j,rfl,z⟩:=w E;exact .inr ⟨rfl,Y,B,by rw[Au rfl];exact b0 j (by rw[E] at L;simp at L;lia),z⟩)
 rw[I,Kt] at e;exact⟨_,_,kM hi e,q U N c⟩
def qAg {a b:Pt}{S:ag}(h:Q (.bl (!decide (a=b))) S):Ok (jo (ay a) (ay b) S) Q:=by refine⟨_,_,?_,h⟩;unfold jo;rw[Au (show (pl zC (ay a)&&pl zC (ay b))=Vq from Z),aP]
def FG {P:ja->Prop}{Y:DA}{S S1:ag}(e:Y ac S=.ok ds S1)(l:ds.length=ns.length)(h:P (.ex v (.exl v ns ds) ac S1)):Wo P (pG v ns Y ac S):=by unfold pG;rw[e];show Wo P (if ds.length=ns.length then _ else _);rw[Au l];exact h
def zz {S:ag}(l:ps.length<=63)(h:Q (.lst ((w8 ps).map ay)) S):Ok (wY [qM ps] S) Q:=by obtain⟨d,Y,e,q⟩:=mT (S:=S) (Q:=λd Y=>d=.lst ((w8 ps).map ay)/\Y=S) li ⟨rfl,rfl⟩;obtain⟨rfl,rfl⟩:=q;exact⟨_,_,e,h⟩
def IS (c:Cl){l:Ab Pt}{q:Pt}(S:ag)(h:q∈l):ik c [qM l,.lst [ay q]] S=.ex (.ref c.NoDeed) .non S:=by rw[pM];refine y0 (ac:=[Aa (qM l),Aa (.lst [ay q])]) Z ?_;rfl';refine x8 (d:=ay q) Z ?_;rfl';refine qD (pW l q S) ?_;rw[Cm h];rfl';exact vR ⟨_,Z⟩
def BF (c:Cl){l:Ab Pt}{q:Pt}(S:ag)(h:q ∉ l)(Y:l.length=40):ik c [qM l,.lst [ay q]] S=.ex (.ref c.TooMany) (.exl (.ref c.TooMany) ["many","most"] [.int 41,.int 40]) S:=by rw[pM];refine y0 (ac:=[Aa (qM l),Aa (.lst [ay q])]) Z ?_;rfl';refine x8 (d:=ay q) Z ?_;rfl';refine qD (pW l q S) ?_;rw[Bq h];rfl';refine jZ (a:=l.map ay) ?_;rfl';refine zV (λ_=>?_) λe=>absurd (by rw[Ao,Y];decide) e;refine FG (ds:=[.int (((l.map ay).length:Aq)+1),.int 40]) (S1:=S) Z Z ?_;refine⟨[Aa (qM l),Aa (.lst [ay q])],?_⟩;rw[Ao,Y];rfl
def S9 (c:Cl){l:Ab Pt}{q:Pt}(S:ag)(h:q ∉ l)(Y:l.length<40):ik c [qM l,.lst [ay q]] S=.ok (qM (w8 (l++[q]))) S:=by rw[pM];refine qZ (zB (ac:=[Aa (qM l),Aa (.lst [ay q])]) Z ?_);rfl';refine x8 (d:=ay q) Z ?_;rfl';refine qD (pW l q S) ?_;rw[Bq h];rfl';refine jZ (a:=l.map ay) ?_;rfl';refine zV (λe=>absurd Y (by rw[Ao] at e;lia)) λ_=>?_;rfl';refine x8 (d:=ay q) Z ?_;rfl';refine fW (by rw[Ao];unfold bb;simp only[Aw,Cy];lia) ?_;rw[show D.tup (l.map ay++[ay q])=qM (l++[q]) by unfold qM;rw[Dq];rfl];rfl';refine zz (ps:=l++[q]) (by rw[Bj,Df];lia) ?_;rfl';exact⟨Z,Z⟩
def F8 (c:Cl){l:Ab Pt}{q:Pt}(S:ag)(h:q ∉ l):fy c [qM l,.lst [ay q]] S=.ex (.ref c.NoDeed) .non S:=by rw[kK];refine y0 (ac:=[Aa (qM l),Aa (.lst [ay q])]) Z ?_;rfl';refine x8 (d:=ay q) Z ?_;rfl';refine qD (lH l q S) ?_;rw[Bq h];rfl';exact vR ⟨_,Z⟩
def F7 (c:Cl){q:Pt}(S:ag):fy c [qM [q],.lst [ay q]] S=.ex (.ref c.NoDeed) .non S:=by rw[kK];refine y0 (ac:=[Aa (qM [q]),Aa (.lst [ay q])]) Z ?_;rfl';refine x8 (d:=ay q) Z ?_;rfl';refine qD (lH [q] q S) ?_;rw[Cm (Cc.mpr Z)];rfl';refine jZ (a:=[ay q]) ?_;rfl';refine zV (λ_=>?_) λe=>absurd Z e;exact vR ⟨_,Z⟩
def M8 {l:Ab Pt}(N:l.length<=40){ac:qG}{S:ag}{i:Aj}(h0:ac[0]? = Aa (Aa (qM l)))(hi:ac[i]? = Aa (Aa (.lst [ay q])))(h:Q (.lst ((l.filter λp=>!decide (p=q)).map ay)) S) :
  Ok (z0 Yp [Zt,Aa i] (jc (qB 0)) (be 0) (yO (bh (d2 jo (qB 0) (d2 b_ (qB 1) (dC (.int 0))))) zU) (qX (qB 0)) ac S) Q:=by
 refine LX (cp:=ay) (o:=Zt) l (λp=>!decide (p=q)) (λac Y=>Y=S/\∃ x,ac=[x,Aa (.lst [ay q])]) (vG h0) ⟨Z,Zt,by simp[zZ,hi]⟩ (by unfold bb;lia) (λ_ _ _=>trivial) (λx G ac Y ⟨J,u,U⟩=>?_) λac Y ⟨J,_⟩=>J▸h;subst J U;rfl';refine iP ?_;rfl';refine x8 (d:=ay q) rfl ?_;refine qAg ?_;refine⟨_,rfl,λe=>?_,λe=>?_⟩
 .rfl';exact⟨e.symm,(λz=>by rw[e] at z;cases z),λ_=>⟨_,_,rfl,rfl,rfl,_,rfl⟩⟩
 .exact⟨e.symm,(λ_=>⟨rfl,_,rfl⟩),λz=>by rw[e] at z;cases z⟩
def F9 (c:Cl){l:Ab Pt}{q:Pt}(S:ag)(h:q∈l)(J:l.length≠1)(Y:l.length<=40):fy c [qM l,.lst [ay q]] S=.ok (qM (l.filter λp=>!decide (p=q))) S:=by rw[kK];refine qZ (zB (ac:=[Aa (qM l),Aa (.lst [ay q])]) Z ?_);rfl';refine x8 (d:=ay q) Z ?_;rfl';refine qD (lH l q S) ?_;rw[Cm h];rfl';refine jZ (a:=l.map ay) ?_;rfl';refine zV (λe=>absurd e (by rw[Ao];lia)) λ_=>?_;rfl';refine M8 Y Z Z ?_;rfl';exact⟨Z,Z⟩
def DZ {l:Ab Pt}(L:fx 40 l){q:Pt}(Y:gp 1000 q)(h:q ∉ l)(G:l.length<40):fx 40 (w8 (l++[q])):=by
 refine WW aA (by rw[Bj,Df];lia) ?_ λp hp=>?_
 .rw[Rk];exact⟨dD L.up,Nc _ q,λa J b U e=>h (by rw[<- Cc.mp U,<- e];exact J)⟩
 .rcases Cg.mp hp with hp|hp
  .exact L.box p hp
  .rw[Cc.mp hp];exact Y
def F6 {l:Ab Pt}(L:fx 40 l){q:Pt}(h:q∈l)(J:l.length≠1):fx 40 (l.filter λp=>!decide (p=q)):=by
 refine⟨λz=>?_,By (Lh ..) L.len,L.up.filter _,λp U=>L.box p (Oq.mp U).1⟩;have Y:∀ p∈l,p=q:=λp U=>by have:=Ul.mp z p U;simpa using this
 match l,h,J,Y,dD L.up with
 |[],h,_,_,_=>cases h
 |[a],_,J,_,_=>exact J rfl
 |a::b::r,_,_,Y,G =>
  have N:=Y a (.head _);have O:=Y b (.tail _ (.head _));rw[N,O] at G;exact(Gx.mp G).1 (.head _)
def LI (a b c d:Aq):_H.lexLt [a,b] [c,d]=(if a=c then decide (b<d) else decide (a<c)):=by
 rw[_H.dy];by_cases h:a=c
 .rw[Au h,Au h,_H.dy];by_cases Y:b=d
  .rw[Au Y,_H.je];symm;rw[Nd];fin2
  .rw[AT Y]
 .rw[AT h,AT h]
def MJ {l:Ab Pt}(h:Up l){a b:Aq}:Up (l.map (kz a b)):=by
 refine Eh.mpr (h.imp λ{x y} e=>?_);have e:_H.lexLt [x.1,x.2] [y.1,y.2]=true:=e;show _H.lexLt [x.1+a,x.2+b] [y.1+a,y.2+b]=Vq;rw[LI] at e ⊢;by_cases z:x.1=y.1
 .rw[Au z,Az] at e;rw[Au om,Az];fin2
 .rw[AT z,Az] at e;rw[AT om,Az];fin2
def iJ {l:Ab Pt}(L:fx 40 l){a b:Aq}(h:∀ q∈l,gp 1000 (kz a b q)):fx 40 (l.map (kz a b)):=by
 refine⟨λz=>L.ne (Me.mp z),by rw[Ao];exact L.len,?_,λp J=>?_⟩
 .exact MJ L.up
 .obtain⟨q,Y,rfl⟩:=Cj.mp J;exact h q Y
def FC {l:Ab Pt}(L:fx 40 l):fx 40 (w8 (l.map rk)):=by
 refine WW (λz=>L.ne (Me.mp z)) (by rw[Ao];exact L.len) ?_ λp Y=>?_
 .exact Eh.mpr ((dD L.up).imp λ{x y} e z=>e (by unfold rk at z;rw[AaI] at z;exact Zx z.2 (by have:=z.1;lia)))
 .obtain⟨q,J,rfl⟩:=Cj.mp Y;have:=L.box q J;unfold gp at this ⊢;unfold rk;dsimp only;lia
def _t {l:Ab Pt}(L:fx 40 l):fx 40 (w8 (l.map sy)):=by
 refine WW (λz=>L.ne (Me.mp z)) (by rw[Ao];exact L.len) ?_ λp Y=>?_
 .exact Eh.mpr ((dD L.up).imp λ{x y} e z=>e (by unfold sy at z;rw[AaI] at z;exact Zx z.2 z.1))
 .obtain⟨q,J,rfl⟩:=Cj.mp Y;have:=L.box q J;unfold gp at this ⊢;unfold sy;dsimp only;lia
def SV {l:Ab Pt}(h:Up l):w8 l=l:=by
 have e:=_S.pJ _S.j8 (Eh.mpr h) (Eh.mpr (XH (dD h))) λx=>((m7 l).map kP).mem_iff.symm;have f:∀ m:Ab Pt,(m.map kP).map pK=m:=λm=>by rw[Dk];exact Jz m
 exact(f _).symm.trans ((congrArg (wP pK) e.symm).trans (f l))
def cZ {Q:ja->Prop}{l:Ab Pt}{q:Pt}(J:l.length<=40)(S:ag)(k1:q∈l->Q (.rt (.str "deed") S))(k2:q ∉ l->l.length=40->Q (.rt (.lst [.str "many",.int 41,.int 40]) S))(k3:q ∉ l->l.length<40->Q (.rt (qM (w8 (l++[q]))) S)):Wo Q (br [Aa (qM l),Aa (.str "put"),Aa (.lst [ay q]),Zt] S):=by
 rfl';refine qD (uV _ S) ?_;rfl';refine x8 (d:=ay q) Z ?_;rfl';refine qD (pW l q S) ?_;rfl';refine zV (λe=>?_) λe=>?_
 .rfl';exact k1 e
 .rfl';refine uB ?_;rfl';refine jZ (a:=l.map ay) ?_;rfl';refine⟨λz=>?_,λz=>?_⟩
  .rfl';exact k2 e (by simp at z;lia)
  .rfl';refine x8 (d:=ay q) Z ?_;rfl';refine fW (by rw[Ao];unfold bb;simp only[Aw,Cy];lia) ?_;rw[show D.tup (l.map ay++[ay q])=qM (l++[q]) by unfold qM;rw[Dq];rfl];rfl';refine zz (ps:=l++[q]) (by rw[Bj,Df];lia) ?_;rfl';have Y:¬ l.length=40:=by simp at z;lia
   exact k3 e li
def dH {Q:ja->Prop}{l:Ab Pt}{q:Pt}(Y:l.length<=40)(S:ag)(k1:q ∉ l\/l.length=1->Q (.rt (.str "deed") S))(k2:q∈l->l.length≠1->Q (.rt (qM (l.filter λp=>!decide (p=q))) S)):Wo Q (br [Aa (qM l),Aa (.str "take"),Aa (.lst [ay q]),Zt] S):=by
 rfl';refine qD (d:=.bl Yp) (S:=S) (by kernel_rfl!) ?_;rfl';refine qD (uV _ S) ?_;rfl';refine xZ ?_;rfl';refine x8 (d:=ay q) Z ?_;rfl';refine qD (lH l q S) ?_;refine⟨_,Z,λe=>?_,λe=>?_⟩
 .rfl';exact k1 (.inl (by simpa using e))
 .rfl';refine jZ (a:=l.map ay) ?_;rfl';refine zV (λz=>?_) λz=>?_
  .rfl';exact k1 (.inr (by simp at z;lia))
  .rfl';refine M8 Y Z Z ?_;rfl';exact k2 (by simpa using e) (by simp at z;lia)
def Q7 {Q:ja->Prop}{l:Ab Pt}(L:fx 40 l)(a b:Aq)(S:ag)(k1:(∀ q∈l,gp 1000 (kz a b q))->Q (.rt (qM (l.map (kz a b))) S))(k2:¬ (∀ q∈l,gp 1000 (kz a b q))->Q (.rt (.str "point") S)):Wo Q (br [Aa (qM l),Aa (.str "move"),Aa (.lst [.int a,.int b]),Zt] S):=by
 have O:=L.len;rfl';refine qD (d:=.bl Yp) (S:=S) (by kernel_rfl!) ?_;rfl';refine qD (d:=.bl Yp) (S:=S) (by kernel_rfl!) ?_;rfl';refine qD (uV _ S) ?_;rfl';refine zY (cp:=ay) (o:=Zt) l (λq=>ay (kz a b q)) (λac J=>J=S/\∃ x y,ac=[x,y,Aa (.lst [.int a,.int b])]) (vG Z) ⟨Z,Zt,Zt,Z⟩ (by unfold bb;lia) (λ_ _ _=>trivial) (λx N ac J ⟨Y,u,v,U⟩=>?_) λac J ⟨Y,_⟩=>?_
 .subst Y U;rfl';refine x8 (d:=.int a) Z ?_;rfl';refine x8 (d:=.int b) Z ?_;rfl';exact⟨_,_,Z⟩
 .subst Y;rfl';rw[show (l.map λq=>ay (kz a b q))=(l.map (kz a b)).map ay by rw[Dk];rfl];refine mT (by rw[Ao];lia) ?_;rw[SV (MJ L.up)];rfl';refine uB ?_;rfl';refine qD (eK (fZ (l.map (kz a b))) _) ?_;rfl';refine⟨λz=>?_,λz=>?_⟩
  .rfl';refine k1 λq G=>Fa λn=>?_;have:=LJ (x:=ay (kz a b q)) (Ha (f:=ay) (Ha (f:=kz a b) G)) (by rw[jK];exact Bq n);rw[show xY (.tup ((l.map (kz a b)).map ay))=Vq from z] at this;cases this
  .rfl';refine k2 λh=>?_;rw[jW (Ax _) (iJ L h)] at z;cases z
def TC {Q:ja->Prop}{l:Ab Pt}(L:fx 40 l)(v:D)(S:ag)(k:Q (.rt (qM (w8 (l.map rk))) S)):Wo Q (br [Aa (qM l),Aa (.str "turn"),Aa v,Zt] S):=by
 have N:=L.len;rfl';refine qD (d:=.bl Yp) (S:=S) (by kernel_rfl!) ?_;rfl';refine qD (d:=.bl Yp) (S:=S) (by kernel_rfl!) ?_;rfl';refine qD (d:=.bl Yp) (S:=S) (by kernel_rfl!) ?_;rfl';refine zY (cp:=ay) (o:=Zt) l (λq=>ay (rk q)) (λac Y=>Y=S/\∃ x y,ac=[x,y,Aa (.str "turn")]) (vG Z) ⟨Z,Zt,Zt,Z⟩ (by unfold bb;lia) (λ_ _ _=>trivial) (λx G ac Y ⟨J,u,v,U⟩=>?_) λac Y ⟨J,_⟩=>?_
 .subst J U;rfl';refine uB ?_;rfl';refine qD (uV _ _) ?_;rfl';refine⟨λ_=>?_,λz=>by cases z⟩;rfl';exact⟨by unfold rk ay;simp,Z,_,_,Z⟩
 .subst J;rfl';rw[show (l.map λq=>ay (rk q))=(l.map rk).map ay by rw[Dk];rfl];refine mT (by rw[Ao];lia) ?_;rfl';exact k
def V6 {Q:ja->Prop}{l:Ab Pt}(L:fx 40 l)(v:D)(S:ag)(k:Q (.rt (qM (w8 (l.map sy))) S)):Wo Q (br [Aa (qM l),Aa (.str "mirror"),Aa v,Zt] S):=by
 have N:=L.len;rfl';refine qD (d:=.bl Yp) (S:=S) (by kernel_rfl!) ?_;rfl';refine qD (d:=.bl Yp) (S:=S) (by kernel_rfl!) ?_;rfl';refine qD (d:=.bl Yp) (S:=S) (by kernel_rfl!) ?_;rfl';refine zY (cp:=ay) (o:=Zt) l (λq=>ay (sy q)) (λac Y=>Y=S/\∃ x y,ac=[x,y,Aa (.str "mirror")]) (vG Z) ⟨Z,Zt,Zt,Z⟩ (by unfold bb;lia) (λ_ _ _=>trivial) (λx G ac Y ⟨J,u,v,U⟩=>?_) λac Y ⟨J,_⟩=>?_
 .subst J U;rfl';refine uB ?_;rfl';refine qD (d:=.bl Yp) (S:=Y) (by kernel_rfl!) ?_;rfl';refine⟨(λz=>by cases z),λ_=>?_⟩;rfl';exact⟨_,_,Z⟩
 .subst J;rfl';rw[show (l.map λq=>ay (sy q))=(l.map sy).map ay by rw[Dk];rfl];refine mT (by rw[Ao];lia) ?_;rfl';exact k
structure bn (c:Cl)(o j:Aj)(ls:Ab (Ab Pt))(S:ag):Prop where
 ob:S[o]? = Aa (.ins c.Desk [("lots",.loc j)])
 ls:S[j]? = Aa (.lst (ls.map qM))
 ne:o≠j
def lL {S:ag}(h:bn c o j J S)(q:Q (.loc j) S):Ok (y8 c.Desk "lots" (.loc o) S) Q:=by
 refine⟨_,_,?_,q⟩;have e:yR (.loc o) S=Aa (c.Desk,[(("lots" : Ah),D.loc j)]):=by show (match S[o]? with|some (.ins C Y)=>Aa (C,Y)|_=>Zt)=_;rw[h.ob]
 unfold y8;rw[e];show (if c.Desk=c.Desk then _ else _)=_;rw[Au Z];rfl
def aL {S:ag}(h:bn c o j J S):bn c o j Y (S.set j (.lst (Y.map qM))):=by have U:=(Bv.mp h.ls).1;exact⟨by rw[De (Di h.ne)];exact h.ob,by simp[U],h.ne⟩
def L8 (c:Cl){o j:Aj}{Y:Ab (Ab Pt)}{S:ag}(h:bn c o j Y S)(U:Y.length<1000)(l:Ab Pt):bj c [.loc o,qM l] S=.ok (.str "ok") (S.set j (.lst ((Y++[l]).map qM))):=by
 rw[gL];refine pF (ac:=[Aa (.loc o),Aa (qM l)]) Z ?_;have e:Wo (λJ=>J=.rt (.str "ok") (S.set j (.lst ((Y++[l]).map qM)))) (i_ c [Aa (.loc o),Aa (qM l)] S):=by rfl';refine lL h ?_;rfl';refine⟨by simp[pi,h.ls],?_⟩;rfl';refine xx h.ls (by rw[Ao];unfold bb;lia) ?_;rfl';rw[Dq];rfl
 exact e
def R5 (c:Cl){o j:Aj}{l:Ab Pt}{S:ag}(h:bn c o j [l] S):bw c [.loc o] S=.ex (.ref c.NoDeed) .non S:=by rw[uI];refine y0 (ac:=[Aa (.loc o)]) Z ?_;rfl';refine lL h ?_;rfl';refine C_ h.ls ?_;rfl';refine zV (λ_=>?_) λe=>absurd Z e;exact vR ⟨_,Z⟩
def qAj {j:Aj}{xs:Ab D}{x:D}{S:ag}(h:S[j]? = Aa (.lst (xs++[x])))(q:Q x (S.set j (.lst xs))):Ok (nZ (.loc j) [] S) Q:=by refine⟨_,_,?_,q⟩;simp[nZ,h]
def FF (c:Cl){o j:Aj}{Y:Ab (Ab Pt)}{l:Ab Pt}{S:ag}(h:bn c o j (Y++[l]) S)(J:Y≠[])(G:Y.length<1000):bw c [.loc o] S=.ok (.str "ok") (S.set j (.lst (Y.map qM))):=by
 rw[uI];refine pF (ac:=[Aa (.loc o)]) Z ?_;have e:Wo (λU=>U=.rt (.str "ok") (S.set j (.lst (Y.map qM)))) (iy c [Aa (.loc o)] S):=by
  rfl';refine lL h ?_;rfl';refine C_ h.ls ?_;rfl';refine zV (λe=>?_) λe=>?_
  .have:=Hb.mpr J;rw[Ao,Bj,Df] at e;lia
  .rfl';refine M7 ?_;rfl';refine lL h ?_;refine⟨by simp[pi,h.ls],?_⟩;refine qAj (xs:=Y.map qM) (x:=qM l) (by rw[h.ls,Dq];rfl) ?_;rfl';rfl
 exact e
theorem QD {c:Aj}:∀ {a b x y:Ab Aj},c ∉ a->c ∉ b->a++c::x=b++c::y->a=b/\x=y
 |[],[],x,y,_,_,h=>⟨rfl,(Ho h).2⟩
 |[],b::r,x,y,_,J,h=>absurd (by rw[(Ho h).1];exact .head _) J
 |a::r,[],x,y,Y,_,h=>absurd (by rw[<- (Ho h).1];exact .head _) Y
 |a::r,b::s,x,y,Y,J,h=>by obtain⟨e,k⟩:=Ho h;obtain⟨U,G⟩:=QD (λz=>Y (.tail _ z)) (λz=>J (.tail _ z)) k;exact⟨by rw[e,U],G⟩
def jn (c:Aj):Ab (Ab Aj)->Ab Aj
 |[]=>[]
 |[a]=>a
 |a::b::r=>a++c::jn c (b::r)
theorem U9 {c:Aj}:∀ {A B:Ab (Ab Aj)},A≠[]->B≠[]->(∀ a∈A,c ∉ a)->(∀ b∈B,c ∉ b)->jn c A=jn c B->A=B
 |[],_,G,_,_,_,_=>absurd rfl G
 |_,[],_,O,_,_,_=>absurd rfl O
 |[a],[b],_,_,_,_,h=>by rw[show a=b from h]
 |[a],b::d::r,_,_,J,_,h=>absurd (by rw[show a=b++c::jn c (d::r) from h];simp) (J a (.head _))
 |a::d::r,[b],_,_,_,Y,h=>absurd (by rw[show b=a++c::jn c (d::r) from h.symm];simp) (Y b (.head _))
 |a::d::r,b::e::s,_,_,J,Y,h=>by obtain⟨N,k⟩:=QD (J a (.head _)) (Y b (.head _)) h;rw[N,U9 aA aA (λz U=>J z (.tail _ U)) (λz U=>Y z (.tail _ U)) k]
theorem ZG (c:Aj):∀ l:Ab Ah,(Str.join ⟨#[c]⟩ l).cps.toList=jn c (l.map (·.cps.toList))
 |[]=>rfl
 |[x]=>rfl
 |x::y::r=>by show (x++⟨#[c]⟩++Str.join ⟨#[c]⟩ (y::r)).cps.toList=x.cps.toList++c::jn c ((y::r).map (·.cps.toList));rw[wL,wL,ZG c (y::r)];simp
def oH {x:Ah}{c:Aj}{ps:Y0}(O:ps≠[])(h:∀ p∈ps,c ∉ p.cps.toList)(e:x.cps.toList=jn c (ps.map (·.cps.toList))):Txt.split x ⟨#[c]⟩=ps:=by
 have G:=ZG c (Txt.split x ⟨#[c]⟩);rw[StrLaws.join_split,e] at G;have L:Txt.split x ⟨#[c]⟩≠[]:=λz=>by have:=XC x ⟨#[c]⟩;rw[z] at this;cases this
 have k:=U9 (by simpa using L) (by simpa using O) (λa Y=>by
  obtain⟨p,U,rfl⟩:=Cj.mp Y;exact StrLaws.split_free x c p U) (λa Y=>by
  obtain⟨p,U,rfl⟩:=Cj.mp Y;exact h p U) G.symm
 have J:∀ A B:Ab Ah,A.map (·.cps.toList)=B.map (·.cps.toList)->A=B:=λA B z=>by
  induction A generalizing B with
  |nil=>cases B with
   |nil=>rfl
   |cons b B=>cases z
  |cons a A N=>cases B with
   |nil=>cases z
   |cons b B =>
    have q:=Ho z;rw[vC q.1,N B q.2]
 exact J _ _ k
def MM:(" " : Ah)=⟨#[32]⟩:=by decide
structure q_ (w:Ah):Prop where
 asc:ey w
 len:w.length<=100
 sp:32 ∉ w.cps.toList
 ne:w ≠ ""
def JS {k:Ah}(J:32 ∉ k.cps.toList):Txt.split k " " = [k]:=by rw[MM];exact oH aA (λp Y=>by rw[Cc.mp Y];exact J) Z
def DR (l:Y0):(l.map D.str).all (pl zC)=true:=Bk.mpr λx Y=>by obtain⟨p,_,rfl⟩:=Cj.mp Y;rfl
def NY (l:Y0)(y:Ah)(S:ag):ti (.str y) (.lst (l.map .str)) S=.ok (.bl (decide (y∈l))) S:=by
 unfold ti;have e:s_ (.str y) (.lst (l.map .str))=Aa (decide (y∈l)):=by
  show (if ((l.map D.str).all (pl zC)&&pl zC (.str y))=Vq then Aa ((l.map D.str).any λx=>g_ x (.str y)) else Zt)=_;rw[DR,Au (show (Vq&&pl zC (.str y))=Vq from Z)];congr 1;rw[Ks,Zu,Az];constructor
  .rintro⟨x,Y,e⟩;obtain⟨p,J,rfl⟩:=Cj.mp Y;have U:(p == y)=true:=e;rw[<- eq_of_beq U];exact J
  .intro G;exact⟨.str y,Ha G,(show (y == y)=Vq from En y)⟩
 rw[e]
def oN (h:Dl k T=Aa d)(S:ag):yU T (.str k) S=.ok d S:=by show (match Dl k T with|some x=>ax.ok x S|none=>ax.bad)=_;rw[h]
def FI (c:Cl){x k f:Ah}{ws:Y0}(sp:Txt.split x " " = k::ws)(J:("" : Ah) ∉ k::ws)(Y:Fl k xC=Vq)(U:Dl k xC=Aa (.str f))(G:f.length=ws.length)(O:x.length<=640)(N:ws.length<=5)(S:ag):gc c [.str x] S=.ok (.lst ((k::ws).map .str)) S:=by rw[bV];refine qZ (zB (ac:=[Aa (.str x),Zt]) Z ?_);rfl';refine sS li aC ?_;rw[sp];rfl';refine xZ ?_;rfl';refine qD (NY (k::ws) "" S) ?_;rw[Bq J];rfl';refine⟨(λz=>by cases z),λ_=>?_⟩;refine xZ ?_;rfl';refine x8 (d:=.str k) (pN (D.str k) (ws.map D.str)) ?_;refine qD (d:=.bl (!PyProof.Rows.KTD.inKeys k xC)) (S:=S) rfl ?_;rw[Y];refine⟨_,rfl,(λz=>by cases z),λ_=>?_⟩;rfl';refine x8 (d:=.str k) (pN (D.str k) (ws.map D.str)) ?_;rfl';refine qD (oN U S) ?_;rfl';refine lM li ?_;rfl';refine zV (λ_=>?_) λe=>absurd (by rw[Ao,Aw,G];lia) e;rfl';exact⟨Z,Z⟩
def RD {S:ag}{k f:Ah}{ws:Y0}(e:ac[0]? = Aa (Aa (.lst ((k::ws).map .str))))(J:Dl k xC=Aa (.str f))(N:ws.length<=5)(U:f.cps.all (· < 128)=Vq):xH (nV (qA (d1 (yU xC) (d2 b_ (qB 0) (dC (.int 0)))) (qA (nq (qB 0) (zF (dC (.int 1))) zL) qC))) ac S=.ok (Zt,yB (wU f) (ws.map .str)) S:=by
 have a:Ok (d1 (yU xC) (d2 b_ (qB 0) (dC (.int 0))) ac S) λd Y=>d=.str f/\Y=S:=by refine o_1 (o_2 (o_v e ?_));rfl';refine x8 (d:=.str k) (pN (D.str k) (ws.map D.str)) ?_;exact qD (oN J S) ⟨Z,Z⟩
 have b:nq (qB 0) (zF (dC (.int 1))) zL ac S=.ok (.lst (ws.map .str)) S:=by refine qZ (AE (o_v e ?_));rfl';rw[WA];exact⟨Z,Z⟩
 have G:=qZ a;simp only[xH,nV,qA,qC,G,b,ax.bind,YY,U,Dw];rfl
def X5 (f:DE)(d:D)(S:ag):qL 1 (qO f) [d] S=f [Aa d] S:=by show j9 (qO f [Aa d] S)=_;unfold qO;cases f [Aa d] S <;> rfl
theorem QP {J:Type}{cp:J->D}{g:DG}{S:ag}(dk:J->D)(c_:J->Ar)(B:Ac)(C:qG->Prop):∀ (xs:Ab J) (ac:qG) (ao:Ab D),C ac->ao.length+xs.length<=bb ->
  (∀ x∈xs,∀ ac,C ac->∃ Y,g (cp x) ac S=.ok Y S/\C Y/\fe Y S=(if c_ x=Vq then .ok (dk x) S else .ex B .non S)) ->
  ∃ U,io Zt g zU (qX fe) (xs.map cp) ac S ao=if xs.all c_=Vq then .ok (U,ao++xs.map dk) S else .ex B .non S
 |[],ac,ao,_,_,_=>⟨ac,by simp[io,yK.mpr (show ou Zt S from trivial)]⟩
 |x::xs,ac,ao,E,I,step=>by
  have G:nG Zt S=true:=yK.mpr (show ou Zt S from trivial);obtain⟨Y,L,H,N⟩:=step x (.head _) ac E;rw[Aw] at I;cases O:c_ x with
  |false =>
   refine⟨ac,?_⟩;rw[O] at N;simp only[Ee,io,G,Dw,L,zU,qX,N,Bs,Dp,ax.bind,Ik,O,Gp]
  |true =>
   rw[O] at N;obtain⟨U,M⟩:=QP dk c_ B C xs Y (ao++[dk x]) H (by rw[Bj,Df];lia) λy A=>step y (.tail _ A);refine⟨U,?_⟩;have w:ao.length<bb:=by lia
   simp only[Ee,io,G,Dw,L,zU,qX,N,ax.bind,w,M,Ik,O,AaF,Jj,List.singleton_append]
def vt (w:Ah):Ar:=match ma w with
 |.int _=>Vq
 |_=>Yp
def xo (w:Ah):Ar:=xE (mj w)
def sO (w:Ah):(∃ n:Aq,ma w=.int n)\/ma w=.non:=by
 unfold ma;split
 .split
  .exact .inl ⟨_,Z⟩
  .exact .inr Z
 .exact .inr Z
def ZY (w:Ah):(∃ q,mj w=ay q/\gp 1000 q)\/mj w=.non:=by
 cases h:xE (mj w) with
 |true =>
  obtain⟨q,e,b⟩:=n4 h;exact .inl ⟨q,e,b⟩
 |false=>exact .inr (IR h)
abbrev kY (c:Cl):DE:=ny (bh (d2 fq (qB 0) (dC (.str "P")))) (qI 1 (kf (de c)) (qA (qB 1) qC)) (qI 1 (kf (cj c)) (qA (qB 1) qC))
def OF (c:Cl){w:Ah}(hw:q_ w)(S:ag):kY c [Aa (.str "N"),Aa (.str w)] S=if vt w=Vq then .ok (ma w) S else .ex (.ref c.NoNumber) .non S:=by
 have Y:=hw.len;have e:kY c [Aa (.str "N"),Aa (.str w)] S=cj c [.str w] S:=by kernel_rfl!
 rw[e];unfold vt;rcases sO w with⟨n,h⟩|h
 .rw[LS c hw.asc li S h,h];rfl
 .rw[A9 c hw.asc li S h,h];rfl
def OG (c:Cl){w:Ah}(hw:q_ w)(S:ag):kY c [Aa (.str "P"),Aa (.str w)] S=if xo w=Vq then .ok (mj w) S else .ex (.ref c.NoPoint) .non S:=by
 have Y:=hw.len;have e:kY c [Aa (.str "P"),Aa (.str w)] S=de c [.str w] S:=by kernel_rfl!
 rw[e];unfold xo;rcases ZY w with⟨q,h,b⟩|h
 .rw[DW c hw.asc li S h,h,jK,Cm b];rfl
 .rw[IL c hw.asc li S h,h];rfl
def XN (c:Cl){k f:Ah}{ws:Y0}(kd:Ah)(dk:Ah->D)(c_:Ah->Ar)(Y:Ac)(U:Dl k xC=Aa (.str f))(N:f.cps.all (· < 128)=Vq)(hz:yB (wU f) (ws.map .str)=ws.map λp=>D.tup [.str kd,.str p])(O:ws.length<=5)
  (step:∀ w∈ws,∀ S,kY c [Aa (.str kd),Aa (.str w)] S=if c_ w=Vq then .ok (dk w) S else .ex Y .non S) (S:ag):bz c [.lst ((k::ws).map .str)] S=if ws.all c_=Vq then .ok (.lst (ws.map dk)) S else .ex Y .non S:=by
 rw[gW,ir,X5];have hi:=RD (ac:=[Aa (.lst ((k::ws).map .str))]) (S:=S) rfl U O N;rw[hz] at hi;unfold z0;rw[hi];obtain⟨J,e⟩:=QP (S:=S) (cp:=λp:Ah=>D.tup [.str kd,.str p]) (g:=lc 2 (qY (be 0) (qY (be 1) xD))) (fe:=kY c) dk c_ Y (λac=>∃ x y,ac=[x,y]) ws (zZ [Zt,Zt] [Aa (.lst ((k::ws).map .str))]) [] ⟨Zt,Zt,rfl⟩ (by unfold bb;simp only[Cy];lia) λw G ac ⟨x,y,h⟩=>by subst h;exact⟨_,rfl,⟨_,_,rfl⟩,step w G S⟩
 show xn Yp (io Zt (lc 2 (qY (be 0) (qY (be 1) xD))) zU (qX (kY c)) (ws.map λp:Ah=>D.tup [.str kd,.str p]) (zZ [Zt,Zt] [Aa (.lst ((k::ws).map .str))]) S []) = _;rw[e];cases ws.all c_ <;> rfl
def LK (h:xY d=Vq):∃ l,d=qM l/\fx 40 l:=by
 cases d with
 |tup Y =>
  have e:(decide (1<=Y.length/\Y.length<=40)&&Y.all xE&&(match w5 Y with|some G=>ph G|none=>Yp))=true:=h;rw[Av,Av,Az] at e;obtain⟨N,rfl,O⟩:=_D.k9 e.1.2;have U:=e.2;rw[uY,vQ] at U;have u:=(dB _).mp U;rw[Eh] at u;have J:=e.1.1;rw[Ao] at J;exact⟨N,rfl,λz=>by rw[z] at J;exact absurd J.1 aC,J.2,u,O⟩
 |_=>cases h
def ML {x:Ah}(h:4<=x.length):(Txt.slice x Zt (Aa 4)).cps.toList=x.cps.toList.take 4:=congrArg (·.cps.toList) (StrLaws.sliceText_to (x:=x) (j:=4) ⟨by decide,by rw[zX];lia⟩)
def qBB {x:Ah}(h:4<=x.length):(Txt.slice x (Aa 4) Zt).cps.toList=x.cps.toList.drop 4:=by refine(congrArg (·.cps.toList) (StrLaws.sliceText_from (x:=x) (i:=4) ⟨by decide,by rw[zX];lia⟩)).trans ?_;show AaH _ (x.cps.toList.drop 4)=_;rw[Hc];rw[Hm,zX];show x.length-4<=((x.length:Aq)-4).toNat;lia
def b9:("lot " : Ah).cps.toList=[108,111,116,32]:=by decide
def rJ:("back" : Ah).cps.toList=[98,97,99,107]:=by decide
def d8 (x:Ah):Txt.startswith x "lot " = decide (x.cps.toList.take 4=[108,111,116,32]):=by
 have e:Np x "lot " 0=decide (x.cps.toList.take 4=[108,111,116,32]):=by rw[StrLaws.subAt_eq,b9];show (x.cps.toList.take 4 == [108,111,116,32])=_;by_cases h:x.cps.toList.take 4=[108,111,116,32] <;> simp[h]
 show (decide (0+("lot " : Ah).length<=x.length)&&Np x "lot " 0)=_;rw[e];by_cases h:x.cps.toList.take 4=[108,111,116,32]
 .have:=congrArg Gh h;rw[Fo,zX] at this;rw[Cm h,Cm (show 0+("lot " : Ah).length<=x.length by simp only[Aw,Cy] at this;show 0+4<=_;lia)];rfl
 .rw[Bq h,Hu]
structure eh (x t:Ah):Prop where
 cs:x.cps.toList=[108,111,116,32]++t.cps.toList
 asc:ey x
 len:x.length<=640
section
variable {x t:Ah}
def eh.l4 (h:eh x t):4<=x.length:=by have:=congrArg Gh h.cs;rw[zX,Bj] at this;simp only[Aw,Cy] at this;lia
def eh.tasc (h:eh x t):ey t:=λc Y=>h.asc c (by rw[h.cs];exact Ce _ Y)
def eh.tlen (h:eh x t):t.length<=640:=by have:=congrArg Gh h.cs;rw[zX,Bj,zX] at this;have:=h.len;lia
def eh.t4 (h:eh x t):Txt.slice x Zt (Aa 4) = "lot ":=vC (by rw[ML h.l4,h.cs,b9];rfl)
def eh.f4 (h:eh x t):Txt.slice x (Aa 4) Zt=t:=vC (by rw[qBB h.l4,h.cs];rfl)
def eh.st (h:eh x t):Txt.startswith x "lot " = true:=by rw[d8,h.cs];rfl
def eh.rm (h:eh x t):Txt.removeprefix x "lot " = t:=by
 rw[Tr,Au (show (decide (0+("lot " : Ah).length<=x.length)&&Np x "lot " 0)=Vq from h.st)];refine vC ?_;show AaH _ (x.cps.toList.drop 4)=_;rw[h.cs,Hc]
 .rfl
 .rw[<- h.cs,Hm,zX];exact Ax _
def eh.nb (h:eh x t):x ≠ "back":=λz=>by have:=h.cs;rw[z,rJ] at this;cases this
end
structure Ln (x k:Ah)(ws:Y0):Prop where
 cs:x.cps.toList=k.cps.toList++ws.flatMap λw=>32::w.cps.toList
 wo:∀ w∈ws,q_ w
 two:ws.length<=2
def PL (k:Ah)(ws:Y0):jn 32 ((k::ws).map (·.cps.toList))=k.cps.toList++ws.flatMap λw=>32::w.cps.toList:=by
 induction ws generalizing k with
 |nil=>exact(Gg _).symm
 |cons w ws Y =>
  show k.cps.toList++32::jn 32 ((w::ws).map (·.cps.toList))=_;rw[Y w];rfl
def Ln.spl (h:Ln x k ws)(Y:32 ∉ k.cps.toList):Txt.split x " " = k::ws:=by
 rw[MM];refine oH aA (λp hp=>?_) (h.cs.trans (PL k ws).symm);rcases Ay.mp hp with rfl|hp
 .exact Y
 .exact(h.wo p hp).sp
def Ln.len (h:Ln x k ws)(O:k.length<=100):x.length<=640:=by
 have e:=congrArg Gh h.cs;rw[zX,Bj,zX] at e;have:∀ l:Ab Ah,(∀ w∈l,q_ w)->(l.flatMap λw=>32::w.cps.toList).length<=l.length*101:=λl=>by
  induction l with
  |nil=>intro _;exact Fi _
  |cons w l J =>
   intro Y;have G:=J λy U=>Y y (.tail _ U);have N:=(Y w (.head _)).len;rw[Gv,Bj,Aw,Aw,zX];lia
 have:=this ws h.wo;have:=h.two;lia
def Ln.no4 (h:Ln x k ws){a:Aj}(U:k.cps.toList.head? = Aa a)(J:a≠108):Txt.startswith x "lot " = Yp/\(4<=x.length->Txt.slice x Zt (Aa 4) ≠ "lot "):=by
 have Y:x.cps.toList.head? = Aa a:=by rw[h.cs,Yr,U];rfl
 have n:x.cps.toList.take 4≠[108,111,116,32]:=λz=>by
  cases q:x.cps.toList with
  |nil=>rw[q] at z;cases z
  |cons c r =>
   rw[q] at z Y;cases Y;exact J (Ho z).1
 refine⟨by rw[d8,Bq n],λG z=>n ?_⟩;rw[<- ML G,z,b9]
def ze (x:Ah)(S:ag):zP [.str x,.ty "tuple"] S=.ok (.bl Yp) S:=by kernel_rfl!
def L0 (xs:Ab D)(S:ag):zP [.lst xs,.ty "tuple"] S=.ok (.bl Yp) S:=by kernel_rfl!
def L3 (xs:Ab D)(S:ag):zP [.tup xs,.ty "tuple"] S=.ok (.bl Vq) S:=by kernel_rfl!
def xt (c:Cl):(yF c).contains (.ref c.NoPoint)=Vq/\(yF c).contains (.ref c.NoNumber)=Vq/\(yF c).contains (.ref c.NoText)=Vq/\(yF c).contains (.ref c.NoDeed)=Vq/\(yF c).contains (.ref c.TooMany)=true:=by simp only[Ew];simp[yF]
inductive qq (c:Cl)(F:DF)(k:Ah)(l:Ab Pt)(vs:Ab D):Prop
 |yes (l':Ab Pt) (h1:∀ S,F [qM l,.lst vs] S=.ok (qM l') S) (h2:∀ S,bo [qM l,.str k,.lst vs] S=.ok (qM l') S) (L:fx 40 l')
 |no (C:Af) (x r:D) (h1:∀ S,F [qM l,.lst vs] S=.ex (.ref C) x S) (hc:(yF c).contains (.ref C)=Vq) (hk:∀ S,aw c [gD (.ref C) x] S=.ok r S) (h2:∀ S,bo [qM l,.str k,.lst vs] S=.ok r S) (h3:∀ S,zP [r,.ty "tuple"] S=.ok (.bl Yp) S) (h4:um 2 r)
section
variable {l:Ab Pt}{k:Ah}{vs:Ab D}{S:ag}
def yX (h:Wo (λo=>o=.rt r S) (br [Aa (qM l),Aa (.str k),Aa (.lst vs),Zt] S)):bo [qM l,.str k,.lst vs] S=.ok r S:=by rw[jA];exact pF (ac:=[Aa (qM l),Aa (.str k),Aa (.lst vs),Zt]) Z h
def sU (c:Cl)(nd:(zN c).Nodup){F:DF}(Y:∀ S,F [qM l,.lst vs] S=.ex (.ref c.NoDeed) .non S)(J:∀ S,bo [qM l,.str k,.lst vs] S=.ok (.str "deed") S):qq c F k l vs:=.no c.NoDeed .non _ Y (xt c).2.2.2.1 (tE c nd) J (ze _) trivial
def AI (c:Cl)(nd:(zN c).Nodup)(L:fx 40 l){q:Pt}(U:gp 1000 q):qq c (ik c) "put" l [ay q]:=by
 by_cases h:q∈l
 .exact sU c nd (λS=>IS c S h) λS=>yX (cZ L.len S (λ_=>rfl) (λz=>absurd h z) λz=>absurd h z)
 .by_cases e:l.length=40
  .exact .no c.TooMany _ _ (λS=>BF c S h e) (xt c).2.2.2.2 (i7 c nd _ _) (λS=>yX (cZ L.len S (λz=>absurd z h) (λ_ _=>rfl) λ_ z=>absurd e li)) (L0 _) ⟨Bz Z,λx Y=>by
    simp only[Ay,Cz,Fw] at Y;rcases Y with rfl|rfl|rfl <;> trivial⟩
  .have J:l.length<40:=by have:=L.len;lia
   exact .yes _ (λS=>S9 c S h J) (λS=>yX (cZ L.len S (λz=>absurd z h) (λ_ z=>absurd z e) λ_ _=>rfl)) (DZ L U h J)
def D1 (c:Cl)(nd:(zN c).Nodup)(L:fx 40 l){q:Pt}:qq c (fy c) "take" l [ay q]:=by
 by_cases h:q∈l
 .by_cases e:l.length=1
  .have Y:l=[q]:=by
    obtain⟨a,rfl⟩:=Nv.mp e;rw[Cc.mp h]
   subst Y;exact sU c nd (λS=>F7 c S) λS=>yX (dH L.len S (λ_=>rfl) λ_ z=>absurd e z)
  .exact .yes _ (λS=>F9 c S h e L.len) (λS=>yX (dH L.len S (λz=>absurd z (by simp[h,e])) λ_ _=>rfl)) (F6 L h e)
 .exact sU c nd (λS=>F8 c S h) λS=>yX (dH L.len S (λ_=>rfl) λz=>absurd z h)
def D0 (c:Cl)(nd:(zN c).Nodup)(L:fx 40 l)(a b:Aq):qq c (gt c) "move" l [.int a,.int b]:=by
 by_cases h:∀ q∈l,gp 1000 (kz a b q)
 .exact .yes _ (λS=>(ZM c _ a b S).trans (UP c L a b S h)) (λS=>yX (Q7 L a b S (λ_=>rfl) λz=>absurd h z)) (iJ L h)
 .exact .no c.NoPoint .non _ (λS=>(ZM c _ a b S).trans (B4 c L a b S h)) (xt c).1 (fR c nd) (λS=>yX (Q7 L a b S (λz=>absurd z h) λ_=>rfl)) (ze _) trivial
def D2 (c:Cl)(L:fx 40 l):qq c (gq c) "turn" l []:=.yes _ (R3 c L _) (λS=>yX (TC L _ S Z)) (FC L)
def JA (c:Cl)(L:fx 40 l):qq c (dw c) "mirror" l []:=.yes _ (UO c L _) (λS=>yX (V6 L _ S Z)) (_t L)
end
def mh (l:Ab Pt)(past:Ab (Ab Pt)):D:=.tup [qM l,.tup (past.map qM)]
def sx (r:D):D:=.lst [.str "no",r]
def G4 (xs:Ab D)(x:D):wG (xs++[x]) Zt (Aa (-1))=xs:=by
 unfold wG;have Y:_H.di (xs++[x]).length 0 Zt=0:=Z;have J:_H.di (xs++[x]).length (xs++[x]).length (Aa (-1))=xs.length:=by show (if (-1:Aq)<0 then ((-1:Aq)+((xs++[x]).length:Aq)).toNat else min (-1:Aq).toNat (xs++[x]).length)=_;rw[Au li,Bj];simp only[Aw,Cy];lia
 rw[Y,J];simp
def IJ (l:Ab Pt):∀ n,pl (n+3) (qM l)=true:=λn=>by show (l.map ay).all (pl (n+2))=Vq;rw[Ia,Bk];exact λp _=>rfl
def iX (past:Ab (Ab Pt))(S:ag):fq (.tup (past.map qM)) (.tup []) S=.ok (.bl (decide (past=[]))) S:=by
 have Y:pl zC (.tup (past.map qM))=true:=by show (past.map qM).all (pl 29)=Vq;rw[Ia,Bk];exact λl _=>IJ l 26
 refine(Au (show (pl zC (.tup (past.map qM))&&pl zC (.tup [])) = Vq by rw[Y];rfl)).trans ?_;cases past <;> rfl
def bL {n:Aj}{l:Ab Pt}{S:ag}(h:Wo (λo=>o=.rt r S) (iw [Aa (mh l past),Aa (.str x),Zt,Zt,Zt,Zt,Zt,Zt] S)):bt [mh l past,.str x] S=.ok r S:=by rw[gS];exact pF (ac:=[Aa (mh l past),Aa (.str x),Zt,Zt,Zt,Zt,Zt,Zt]) Z h
def YW (l:Ab Pt)(S:ag):bt [mh l [],.str "back"] S=.ok (.tup [sx (.str "deed"),mh l []]) S:=by refine bL (n:=0) ?_;unfold mh;rfl';refine qD (uV _ S) ?_;rfl';refine uB ?_;rfl';refine qD (iX [] S) ?_;rfl';refine⟨λ_=>?_,λz=>by cases z⟩;rfl';rfl
def K5 (l m:Ab Pt)(p:Ab (Ab Pt))(S:ag):bt [mh l (p++[m]),.str "back"] S=.ok (.tup [.str "ok",mh m p]) S:=by refine bL (n:=0) ?_;unfold mh;rfl';refine qD (uV _ S) ?_;rfl';refine uB ?_;rfl';refine qD (iX (p++[m]) S) ?_;rw[Bq aA,show (p++[m]).map qM=p.map qM++[qM m] by rw[Dq];rfl];rfl';refine⟨(λz=>by cases z),λ_=>?_⟩;rfl';refine xw (_L.cS _ _) ?_;rfl';rw[G4];rfl
def FH (h:eh x t)(l:Ab Pt){past:Ab (Ab Pt)}(hp:past.length<1000)(S:ag):bt [mh l past,.str x] S=.ok (if xY (rd t)=Vq then .tup [.str "ok",.tup [rd t,.tup ((past++[l]).map qM)]] else .tup [sx (.str "text"),mh l past]) S:=by
 refine bL (n:=0) ?_;have Y:=h.len;unfold mh;rfl';refine jF ?_;rw[Bq h.nb];rfl';refine vB ?_;rfl';refine uC li ?_;rw[h.t4];rfl';refine qD (uV _ S) ?_;rfl';refine vB ?_;rfl';refine uC li ?_;rw[h.f4];rfl';refine qD (SJ h.tasc h.tlen S) ?_;cases e:xY (rd t) with
 |false =>
  rw[AT aC,AT aC];rfl';refine uB ?_;rfl';refine qD (d:=.bl Vq) (S:=S) rfl ?_;rfl';refine⟨λ_=>?_,λz=>by cases z⟩;rfl';rfl
 |true =>
  rw[Au rfl,Au rfl];rfl';refine uB ?_;rfl';refine qD (d:=.bl Yp) (S:=S) rfl ?_;rfl';refine⟨(λz=>by cases z),λ_=>?_⟩;rfl';refine fW (by rw[Ao];unfold bb;simp only[Aw,Cy];lia) ?_;rfl';rw[Dq];rfl
def LV {ws:Y0}(hv:∀ w∈ws,(c_ w=Vq/\g_ (dk w) .non=Yp/\pl zC (dk w)=Vq)\/(c_ w=Yp/\dk w=.non))(S:ag):ti .non (.lst (ws.map dk)) S=.ok (.bl (!ws.all c_)) S:=by
 unfold ti;have e:s_ .non (.lst (ws.map dk))=Aa (!ws.all c_):=by
  have p:(ws.map dk).all (pl zC)=true:=by
   rw[Ia,Bk];intro w U;rcases hv w U with⟨_,_,h⟩|⟨_,h⟩
   .exact h
   .show pl zC (dk w)=Vq;rw[h];rfl
  show (if ((ws.map dk).all (pl zC)&&pl zC .non)=Vq then Aa ((ws.map dk).any λx=>g_ x .non) else Zt)=_;rw[p,Au (show (Vq&&pl zC .non)=Vq from Z)];congr 1;clear p
  induction ws with
  |nil=>rfl
  |cons w ws G =>
   have:=G λy N=>hv y (.tail _ N);rw[Ee,We,this,Ik];rcases hv w (.head _) with⟨Y,J,_⟩|⟨Y,J⟩
   .rw[Y,J];rfl
   .rw[Y,J];rfl
 rw[e]
def K6 {x k kd:Ah}(h:Ln x k ws)(j:32 ∉ k.cps.toList)(A:k.length<=100){a:Aj}(G:k.cps.toList.head? = Aa a)(L:a≠108)(I:a≠98)(U:4<=x.length)(hm:(if k = "move" then "number" else "point")=kd){dk:Ah->D}{c_:Ah->Ar}
  (hv:∀ w∈ws,(c_ w=Vq/\g_ (dk w) .non=Yp/\pl zC (dk w)=Vq)\/(c_ w=Yp/\dk w=.non))
  (hs:∀ w∈ws,∀ S,ny (bh (d2 fq (qB 1) (dC (.str "number")))) (qI 1 (kf bg) (qA (qB 0) qC)) (qI 1 (kf ba) (qA (qB 0) qC)) [Aa (.str w),Aa (.str kd)] S=.ok (dk w) S)
  {l:Ab Pt} {past:Ab (Ab Pt)} (hp:past.length<1000) {r:D} {b:Ar} (H:ws.all c_=Vq->(∀ S,bo [qM l,.str k,.lst (ws.map dk)] S=.ok r S)/\∀ S,zP [r,.ty "tuple"] S=.ok (.bl b) S) (S:ag) :
  bt [mh l past,.str x] S=.ok (if ws.all c_=Vq then (if b=Vq then .tup [.str "ok",.tup [r,.tup ((past++[l]).map qM)]] else .tup [sx r,mh l past]) else .tup [sx (.str kd),mh l past]) S:=by
 refine bL (n:=0) ?_;have u:=h.len A;have E:x ≠ "back":=λz=>by have e:=congrArg List.head? h.cs;rw[z,rJ,Yr,G] at e;exact I (Cw e).symm
 unfold mh;rfl';refine jF ?_;rw[Bq E];rfl';refine vB ?_;rfl';refine uC li ?_;rfl';refine jF ?_;rw[Bq ((h.no4 G L).2 U)];rfl';refine sS li aC ?_;rw[h.spl j];rfl';refine qD (d:=.str kd) (S:=S) (qZ (uB ?_)) ?_
 .rfl';refine x8 (d:=.str k) (pN (D.str k) (ws.map D.str)) ?_;rfl';refine jF ?_;rfl';refine⟨λz=>?_,λz=>?_⟩
  .rfl';rw[Au (Bg z)] at hm;exact⟨by rw[hm],Z⟩
  .rfl';rw[AT (Ei z)] at hm;exact⟨by rw[hm],Z⟩
 rfl';have hi:jc (nq (qB 5) (zF (dC (.int 1))) zL) [Aa (.tup [qM l,.tup (past.map qM)]),Aa (.str x),Aa (qM l),Aa (.tup (past.map qM)),Zt,Aa (.lst ((k::ws).map .str)),Aa (.str kd),Zt] S=.ok (Zt,ws.map .str) S:=by
  have e:nq (qB 5) (zF (dC (.int 1))) zL [Aa (.tup [qM l,.tup (past.map qM)]),Aa (.str x),Aa (qM l),Aa (.tup (past.map qM)),Zt,Aa (.lst ((k::ws).map .str)),Aa (.str kd),Zt] S=.ok (.lst (ws.map .str)) S:=by refine qZ (AE ?_);rfl';rw[WA];exact⟨Z,Z⟩
  unfold jc;rw[e];rfl
 refine zY (cp:=D.str) (o:=Zt) ws dk (λac Y=>Y=S/\∃ y,ac=[y,Aa (.str kd)]) hi ⟨Z,Zt,Z⟩ (by have:=h.two;unfold bb;lia) (λ_ _ _=>trivial) (λw B ac Y ⟨J,y,N⟩=>?_) λac Y ⟨J,_⟩=>?_
 .subst J N;rfl';exact qD (hs w B Y) ⟨Z,Z,_,Z⟩
 .subst J;rfl';refine qD (LV hv Y) ?_;cases e:ws.all c_ with
  |false =>
   rw[AT aC];rfl';rfl
  |true =>
   obtain⟨M,O⟩:=H e;rw[Au rfl];rfl';refine x8 (d:=.str k) (pN (D.str k) (ws.map D.str)) ?_;rfl';refine qD (M Y) ?_;rfl';refine qD (O Y) ?_;cases b with
   |false =>
    rfl';rfl
   |true =>
    rfl';refine fW (by rw[Ao];unfold bb;simp only[Aw,Cy];lia) ?_;rfl';rw[Dq];rfl
def mX {t:DT}{S Y:ag}(h:t ac S=.ok Yp Y):qE (cu t a qS) g ac S=g ac Y:=by simp only[qE,cu,h,ax.toS,Bs,Dp,qS]
def JU {t:DT}{g:DS}{S Y:ag}(h:t ac S=.ok Vq Y):qE (cu t (qO f) qS) g ac S=qO f ac Y:=by simp only[qE,cu,h,ax.toS,Dw,qO];cases f ac Y <;> rfl
def d7 {f:DE}{g:DS}{S Y:ag}(h:f ac S=.ok d Y):qE (qV f (be i)) g ac S=g (ac.set i (Aa d)) Y:=by simp only[qE,qV,h,ax.toS,be]
def p8 {S:ag}(h:bn c o j J S):yR (.loc o) S=Aa (c.Desk,[(("lots" : Ah),D.loc j)]):=by show (match S[o]? with|some (.ins C Y)=>Aa (C,Y)|_=>Zt)=_;rw[h.ob]
def qAY {S:ag}(h:bn c o j J S){m:Ah}{F:DF}{ac:qG}(e:ac[i]? = Aa (Aa (.loc o)))(hm:Ev m [(("lots" : Ah),D.loc j)]=Zt):xF c.Desk m 1 F (qB i) qC ac S=F [.loc o] S:=by
 have Y:qB i ac S=.ok (.loc o) S:=by unfold qB;rw[e]
 unfold xF;rw[Y];show (match yR (.loc o) S with|some (U,G)=>_|none=>_)=_;rw[p8 h];show (if c.Desk=c.Desk/\Ev m [(("lots" : Ah),D.loc j)]=Zt then _ else _)=_;rw[Au ⟨Z,hm⟩];rfl
def cF {S:ag}(h:bn c o j U S){m:Ah}{F:DF}{ac:qG}{fe:DE}(e:ac[i]? = Aa (Aa (.loc o)))(hm:Ev m [(("lots" : Ah),D.loc j)]=Zt):xF c.Desk m 2 F (qB i) (qA fe qC) ac S=(fe ac S).bind λd J=>F [.loc o,d] J:=by
 have Y:qB i ac S=.ok (.loc o) S:=by unfold qB;rw[e]
 unfold xF;rw[Y];show (match yR (.loc o) S with|some (G,N)=>_|none=>_)=_;rw[p8 h];show (if c.Desk=c.Desk/\Ev m [(("lots" : Ah),D.loc j)]=Zt then _ else _)=_;rw[Au ⟨rfl,hm⟩];unfold qA qC;cases fe ac S <;> rfl
def CI (x:Ah)(S:ag):zP [.str x,.ty "str"] S=.ok (.bl Vq) S:=by kernel_rfl!
def X9 (c:Cl)(o:Aj)(x:Ah)(S:ag):a_ c [.loc o,.str x] S=j9 (f_ c [Aa (.loc o),Aa (.str x),Zt,Zt,Zt,Zt] S):=by rw[bM];rfl
def ZP (c:Cl)(o:Aj)(x:Ah)(e2 e3 e4 e5:Al D)(S:ag):x5 (bh (qH zP (qA (qB 1) (qA (dC (.ty "str")) qC)))) [Aa (.loc o),Aa (.str x),e2,e3,e4,e5] S=.ok Yp S:=by refine qZ ?_;rfl';exact qD (CI x S) (by rfl';rfl)
def eW (o:Aj)(x:Ah)(S:ag):bh (kj "str" p6 (qB 1) (qA (dC (.str "lot ")) qC)) [Aa (.loc o),Aa (.str x),Zt,Zt,Zt,Zt] S=.ok (Txt.startswith x "lot ") S:=by refine qZ ?_;rfl';refine qD (d:=.bl (Txt.startswith x "lot ")) (S:=S) Z ?_;rfl';rfl
def bK (f:DE)(ac:qG)(S:ag):j9 (qO f ac S)=f ac S:=by unfold qO;cases f ac S <;> rfl
def X8 (c:Cl){x t:Ah}(h:eh x t){o j:Aj}{U:Ab (Ab Pt)}{S:ag}(a:bn c o j U S):a_ c [.loc o,.str x] S=(jj c [.str t] S).bind λd J=>bj c [.loc o,d] J:=by
 rw[X9];unfold f_;rw[mX (ZP c o x _ _ _ _ S),JU (by rw[eW,h.st]),bK,cF a Z Z];have Y:=h.len;have e:kj "str" tV (qB 1) (qA (dC (.str "lot ")) qC) [Aa (.loc o),Aa (.str x),Zt,Zt,Zt,Zt] S=.ok (.str t) S:=by refine qZ ?_;rfl';refine MD Y ?_;rw[h.rm];exact⟨Z,Z⟩
 rw[nR e]
def eT (c:Cl){x k f:Ah}{ws:Y0}(sp:Txt.split x " " = k::ws)(O:("" : Ah) ∉ k::ws)(N:Fl k xC=Vq)(U:Dl k xC=Aa (.str f))(B:f.length=ws.length)(G:x.length<=640)(J:ws.length<=5)(st:Txt.startswith x "lot " = Yp)(o:Aj)(S:ag) :
  a_ c [.loc o,.str x] S=(bz c [.lst ((k::ws).map .str)] S).bind λvs Y=>j9 (qE (cu (bh (d2 fq (d2 b_ (qB 2) (dC (.int 0))) (dC (.str "back")))) (qO (xF c.Desk "undo" 1 (bw c) (qB 0) qC)) qS) (qE (cu (bh (d1 (yG Yp (xS c)) (d2 b_ (qB 2) (dC (.int 0))))) (qE (qV (d1 (yU (xS c)) (d2 b_ (qB 2) (dC (.int 0)))) (be 4)) (qO (xF c.Desk "keep" 2 (bj c) (qB 0) (qA (vZ 4 [(c.put,2,ik c),(c.take,2,fy c),(c.move,2,gt c),(c.turn,2,gq c),(c.mirror,2,dw c),(c.tell_lot,2,cf c)] (qA (d2 b_ (d1 (y8 c.Desk "lots") (qB 0)) (d1 y9 (dC (.int 1)))) (qA (qB 3) qC))) qC)))) qS) (qE (qV (d1 (yU (y7 c)) (d2 b_ (qB 2) (dC (.int 0)))) (be 5)) (qO (vZ 5 [(c.put,2,ik c),(c.take,2,fy c),(c.move,2,gt c),(c.turn,2,gq c),(c.mirror,2,dw c),(c.tell_lot,2,cf c)] (qA (d2 b_ (d1 (y8 c.Desk "lots") (qB 0)) (d1 y9 (dC (.int 1)))) (qA (qB 3) qC)))))) [Aa (.loc o),Aa (.str x),Aa (.lst ((k::ws).map .str)),Aa vs,Zt,Zt] Y):=by
 rw[X9];unfold f_;rw[mX (ZP c o x _ _ _ _ S),mX (by rw[eW,st]),d7 ((nR Z).trans (FI c sp O N U B G J S))];have e:qI 1 (bz c) (qA (qB 2) qC) [Aa (.loc o),Aa (.str x),Aa (.lst ((k::ws).map .str)),Zt,Zt,Zt] S=bz c [.lst ((k::ws).map .str)] S:=nR rfl;show j9 (qE (qV (qI 1 (bz c) (qA (qB 2) qC)) (be 3)) _ [Aa (.loc o),Aa (.str x),Aa (.lst ((k::ws).map .str)),Zt,Zt,Zt] S)=_;cases h:bz c [.lst ((k::ws).map .str)] S with
 |ok d Y=>rw[d7 (e.trans h)];rfl
 |ex v y Y=>rw[HS (e.trans h)];rfl
 |bad =>
  rw[h] at e;unfold qE qV;rw[e];rfl
theorem b8 {β:Type}:∀ (l:Ab (Af × β)) (i:Aj) {p:Af × β},(l.map (·.1)).Nodup->l[i]? = Aa p->l.lookup p.1=Aa p.2
 |[],_,_,_,h=>by simp at h
 |a::r,0,p,_,h=>by
  cases h;rw[Eo,En]
 |a::r,i+1,p,Y,h=>by
  rw[Ee,Gx] at Y;have h:r[i]? = Aa p:=h;rw[Eo];cases q:p.1 == a.1 with
  |true=>exact absurd (Cj.mpr ⟨p,Cb h,eq_of_beq q⟩) Y.1
  |false=>exact b8 r i Y.2 h
def SU {t:DT}{e f:DE}{g:DS}{S J Y:ag}(h:t ac S=.ok Vq J)(U:e ac J=.ok d Y):qE (cu t (qE (qV e (be i)) (qO f)) qS) g ac S=qO f (ac.set i (Aa d)) Y:=by
 have k:cu t (qE (qV e (be i)) (qO f)) qS ac S=qO f (ac.set i (Aa d)) Y:=by rw[<- d7 (i:=i) (g:=qO f) U];simp only[cu,h,ax.toS,Dw]
 unfold qE;unfold qE at k;rw[k];unfold qO;cases f (ac.set i (Aa d)) Y <;> rfl
section
variable {c:Cl}{o j:Aj}{x k:Ah}{ws:Y0}{vs:D}{e4 e5:Al D}{S:ag}{l:Ab Pt}{past:Ab (Ab Pt)}
def rE (o:Aj)(x k:Ah)(ws:Y0)(vs:D)(e4 e5:Al D)(S:ag):bh (d2 fq (d2 b_ (qB 2) (dC (.int 0))) (dC (.str "back"))) [Aa (.loc o),Aa (.str x),Aa (.lst ((k::ws).map .str)),Aa vs,e4,e5] S=.ok (decide (k = "back")) S:=by refine qZ ?_;rfl';refine x8 (d:=.str k) (pN (D.str k) (ws.map D.str)) ?_;rfl';refine jF ?_;rfl';rfl
def MR (T:Ab (Ah × D))(o:Aj)(x k:Ah)(ws:Y0)(vs:D)(e4 e5:Al D)(S:ag):bh (d1 (yG Yp T) (d2 b_ (qB 2) (dC (.int 0)))) [Aa (.loc o),Aa (.str x),Aa (.lst ((k::ws).map .str)),Aa vs,e4,e5] S=.ok (Fl k T) S:=by refine qZ ?_;rfl';refine x8 (d:=.str k) (pN (D.str k) (ws.map D.str)) ?_;refine qD (d:=.bl (Fl k T)) (S:=S) Z ?_;rfl';rfl
def MQ (h:Dl k T=Aa d)(o:Aj)(x:Ah)(ws:Y0)(vs:D)(e4 e5:Al D)(S:ag):d1 (yU T) (d2 b_ (qB 2) (dC (.int 0))) [Aa (.loc o),Aa (.str x),Aa (.lst ((k::ws).map .str)),Aa vs,e4,e5] S=.ok d S:=by refine qZ ?_;rfl';refine x8 (d:=.str k) (pN (D.str k) (ws.map D.str)) ?_;exact qD (oN h S) ⟨Z,Z⟩
def ZH (h:bn c o j (past++[l]) S){ac:qG}(e:ac[0]? = Aa (Aa (.loc o))):d2 b_ (d1 (y8 c.Desk "lots") (qB 0)) (d1 y9 (dC (.int 1))) ac S=.ok (qM l) S:=by refine qZ (o_2 (o_1 (o_v e (lL h ?_))));rfl';refine jG h.ls (d:=qM l) (by rw[Dq];exact _L.cS _ _) ?_;exact⟨Z,Z⟩
def VW {n:Aj}{Y:Ab (Af × Aj × DF)}{F:DF}{J:DA}(e:ac[i]? = Aa (Aa (.obj a)))(h:Y.lookup a=Aa (n,F))(U:J ac S=.ok ds S)(G:ds.length=n):vZ i Y J ac S=F ds S:=by unfold vZ;rw[e];show (match Y.lookup a with|some (n,F)=>_|none=>_)=_;rw[h];show (J ac S).bind _=_;rw[U];show (if ds.length=n then _ else _)=_;rw[Au G]
abbrev tu (c:Cl):Ab (Af × Aj × DF):=[(c.put,2,ik c),(c.take,2,fy c),(c.move,2,gt c),(c.turn,2,gq c),(c.mirror,2,dw c),(c.tell_lot,2,cf c)]
def aK {f g:DE}(Y:f ac S=.ok a S)(J:g ac S=.ok b S):qA f (qA g qC) ac S=.ok [a,b] S:=by simp only[qA,qC,Y,J,ax.bind]
def JY (a:bn c o j (past++[l]) S){g:DS}:j9 (qE (cu (bh (d2 fq (d2 b_ (qB 2) (dC (.int 0))) (dC (.str "back")))) (qO (xF c.Desk "undo" 1 (bw c) (qB 0) qC)) qS) g [Aa (.loc o),Aa (.str x),Aa (.lst ((("back" : Ah)::ws).map .str)),Aa vs,Zt,Zt] S)=bw c [.loc o] S:=by rw[JU (by rw[rE];rfl),bK,qAY a Z Z]
def JZ (J:k ≠ "back"){ad:Af}{F:DF}(G:Dl k (xS c)=Aa (.obj ad))(hi:Fl k (xS c)=Vq)(U:(tu c).lookup ad=Aa (2,F))(a:bn c o j (past++[l]) S){N:DE}{g:DS} :
  j9 (qE (cu (bh (d2 fq (d2 b_ (qB 2) (dC (.int 0))) (dC (.str "back")))) (qO N) qS) (qE (cu (bh (d1 (yG Yp (xS c)) (d2 b_ (qB 2) (dC (.int 0))))) (qE (qV (d1 (yU (xS c)) (d2 b_ (qB 2) (dC (.int 0)))) (be 4)) (qO (xF c.Desk "keep" 2 (bj c) (qB 0) (qA (vZ 4 (tu c) (qA (d2 b_ (d1 (y8 c.Desk "lots") (qB 0)) (d1 y9 (dC (.int 1)))) (qA (qB 3) qC))) qC)))) qS) g) [Aa (.loc o),Aa (.str x),Aa (.lst ((k::ws).map .str)),Aa vs,Zt,Zt] S)=(F [qM l,vs] S).bind λd Y=>bj c [.loc o,d] Y:=by
 rw[mX (by rw[rE,Bq J]),SU (by rw[MR,hi]) (MQ G _ _ _ _ _ _ _),bK,cF a Z Z];rw[VW (S:=S) Z U (aK (ZH a Z) Z) Z]
def F5 (a:bn c o j (past++[l]) S)(nf:(tj c).Nodup){Y:DE}{b:DS}:j9 (qE (cu (bh (d2 fq (d2 b_ (qB 2) (dC (.int 0))) (dC (.str "back")))) (qO Y) qS) (qE (cu (bh (d1 (yG Yp (xS c)) (d2 b_ (qB 2) (dC (.int 0))))) b qS) (qE (qV (d1 (yU (y7 c)) (d2 b_ (qB 2) (dC (.int 0)))) (be 5)) (qO (vZ 5 (tu c) (qA (d2 b_ (d1 (y8 c.Desk "lots") (qB 0)) (d1 y9 (dC (.int 1)))) (qA (qB 3) qC)))))) [Aa (.loc o),Aa (.str x),Aa (.lst ((("lot" : Ah)::ws).map .str)),Aa vs,Zt,Zt] S)=cf c [qM l,vs] S:=by rw[mX (by rw[rE];rfl),mX (by rw[MR];rfl),d7 (MQ (T:=y7 c) (d:=.obj c.tell_lot) Z _ _ _ _ _ _ _),bK];rw[VW (S:=S) Z (b8 (tu c) 5 nf Z) (aK (ZH a Z) Z) Z]
end
section
variable {c:Cl}{o j:Aj}{x:Ah}{S:ag}{ls:Ab (Ab Pt)}
def eS (a:bn c o j ls S):xF c.Desk "say" 2 (a_ c) (qB 0) (qA (qB 1) qC) [Aa (.loc o),Aa (.str x),Zt] S=a_ c [.loc o,.str x] S:=by rw[cF a Z Z];rfl
def rA (a:bn c o j ls S){d:D}{Y:ag}(h:a_ c [.loc o,.str x] S=.ok d Y):bv c [.loc o,.str x] S=.ok d Y:=by rw[uJ];refine pF (ac:=[Aa (.loc o),Aa (.str x),Zt]) Z ?_;unfold gk;simp only[nF,qO,eS a,h,ax.toS]
def mW (a:bn c o j ls S){C:Af}{y r:D}{Y:ag}(h:a_ c [.loc o,.str x] S=.ex (.ref C) y Y)(U:(yF c).contains (.ref C)=Vq)(J:aw c [gD (.ref C) y] Y=.ok r Y):bv c [.loc o,.str x] S=.ok (sx r) Y:=by
 rw[uJ];refine pF (ac:=[Aa (.loc o),Aa (.str x),Zt]) Z ?_;unfold gk;simp only[nF,qO,eS a,h,ax.toS,U,Dw];have z:qI 1 (aw c) (qA (qB 2) qC) ((Cu 3 Zt).set 2 (Aa (gD (.ref C) y))) Y=.ok r Y:=(nR Z).trans J;have G:zJ (qA (dC (.str "no")) (qA (qI 1 (aw c) (qA (qB 2) qC)) qC)) ((Cu 3 Zt).set 2 (Aa (gD (.ref C) y))) Y=.ok (sx r) Y:=by refine qZ ?_;rfl';refine qD J ?_;rfl';rfl
 rw[G]
end
structure Kd (c:Cl)(kd kt:Ah)(val:Ah->D)(good:Ah->Ar)(C:Af):Prop where
 ca:(yF c).contains (.ref C)=Vq
 kn:∀ S,aw c [gD (.ref C) .non] S=.ok (.str kd) S
 pr:∀ w,q_ w->∀ S,kY c [Aa (.str kt),Aa (.str w)] S=if good w=Vq then .ok (val w) S else .ex (.ref C) .non S
 lw:∀ w,q_ w->∀ S,ny (bh (d2 fq (qB 1) (dC (.str "number")))) (qI 1 (kf bg) (qA (qB 0) qC)) (qI 1 (kf ba) (qA (qB 0) qC)) [Aa (.str w),Aa (.str kd)] S=.ok (val w) S
 va:∀ w,(good w=Vq/\g_ (val w) .non=Yp/\pl zC (val w)=Vq)\/(good w=Yp/\val w=.non)
def WS (c:Cl)(nd:(zN c).Nodup):Kd c "point" "P" mj xo c.NoPoint where
 ca:=(xt c).1
 kn:=fR c nd
 pr:=λw Y S=>OG c Y S
 lw:=λw Y S=>by
  have e:ny (bh (d2 fq (qB 1) (dC (.str "number")))) (qI 1 (kf bg) (qA (qB 0) qC)) (qI 1 (kf ba) (qA (qB 0) qC)) [Aa (.str w),Aa (.str "point")] S=kf ba [.str w] S:=by kernel_rfl!
  have:=Y.len;exact e.trans (VN (X0 Y.asc li S))
 va:=λw=>by
  unfold xo;rcases ZY w with⟨q,h,b⟩|h
  .rw[h];exact .inl ⟨by rw[jK,Cm b],Z,Z⟩
  .rw[h];exact .inr ⟨Z,Z⟩
def qBo (c:Cl)(nd:(zN c).Nodup):Kd c "number" "N" ma vt c.NoNumber where
 ca:=(xt c).2.1
 kn:=c0 c nd
 pr:=λw Y S=>OF c Y S
 lw:=λw Y S=>by
  have e:ny (bh (d2 fq (qB 1) (dC (.str "number")))) (qI 1 (kf bg) (qA (qB 0) qC)) (qI 1 (kf ba) (qA (qB 0) qC)) [Aa (.str w),Aa (.str "number")] S=kf bg [.str w] S:=by kernel_rfl!
  have:=Y.len;exact e.trans (VN (JI Y.asc li S))
 va:=λw=>by
  unfold vt;rcases sO w with⟨q,h⟩|h
  .rw[h];exact .inl ⟨Z,Z,Z⟩
  .rw[h];exact .inr ⟨Z,Z⟩
structure Ky (c:Cl)(k f kd:Ah)(n a:Aj)(ad:Af)(F:DF):Prop where
 sp:32 ∉ k.cps.toList
 ne:k ≠ ""
 nb:k ≠ "back"
 hl:k.length<=100
 ha:k.cps.toList.head? = Aa a
 a1:a≠108
 a2:a≠98
 hm:(if k = "move" then "number" else "point")=kd
 fk:Fl k xC=Vq
 fv:Dl k xC=Aa (.str f)
 fa:f.cps.all (· < 128)=Vq
 fl:f.length=n
 d1:Dl k (xS c)=Aa (.obj ad)
 d2:Fl k (xS c)=Vq
 hF:(tu c).lookup ad=Aa (2,F)
inductive zq (c:Cl)(x:Ah)(l:Ab Pt)(past:Ab (Ab Pt)):Prop
 |mk (due:D) (l':Ab Pt) (p':Ab (Ab Pt)) (hw:∀ S,bt [mh l past,.str x] S=.ok (.tup [due,mh l' p']) S)
  (hs:∀ o j S,bn c o j (past++[l]) S->∃ S',bv c [.loc o,.str x] S=.ok due S'/\bn c o j (p'++[l']) S'/\S'.length=S.length/\∀ m,m≠j->S'[m]? = S[m]?)
  (hd:um 3 due) (hl:fx 40 l') (hp:∀ m∈p',fx 40 m) (hn:p'.length<=past.length+1):zq c x l past
section
variable {c:Cl}{x:Ah}{l:Ab Pt}{past:Ab (Ab Pt)}
def iW (L:fx 40 l)(hp:∀ m∈past,fx 40 m):∀ m∈past++[l],fx 40 m:=λm hm=>by
 rcases Cg.mp hm with hm|hm
 .exact hp m hm
 .rw[Cc.mp hm];exact L
def cG (h:um 2 r):um 3 (sx r):=⟨Bz Z,λx Y=>by
 simp only[Ay,Cz,Fw] at Y;rcases Y with rfl|rfl
 .trivial
 .exact h⟩
def keeps {S:ag}(a:bn c o j Y S)(G:Y.length<1000)(d:D){J:Ab Pt}(e:d=qM J):bj c [.loc o,d] S=.ok (.str "ok") (S.set j (.lst ((Y++[J]).map qM)))/\bn c o j (Y++[J]) (S.set j (.lst ((Y++[J]).map qM)))/\(S.set j (.lst ((Y++[J]).map qM))).length=S.length/\∀ m,m≠j->(S.set j (.lst ((Y++[J]).map qM)))[m]? = S[m]?:=by subst e;exact⟨L8 c a G J,aL a,Ov ..,λm U=>De (Di U)⟩
def uZ {k f kd H:Ah}{ws:Y0}{ad:Af}{F:DF}(az:Ky c k f kd ws.length a ad F)(U:Kd c kd H dk c_ C)(h:Ln x k ws)(u:4<=x.length)(hz:yB (wU f) (ws.map .str)=ws.map λp=>D.tup [.str H,.str p])
  (L:fx 40 l) (hp:∀ m∈past,fx 40 m) (hn:past.length<999) (q:ws.all c_=Vq->qq c F k l (ws.map dk)):zq c x l past:=by
 have I:("" : Ah) ∉ k::ws:=λz=>by
  rcases Ay.mp z with z|z
  .exact az.ne z.symm
  .exact(h.wo _ z).ne Z
 have zc:=h.two;have say:=λo S=>eT c (h.spl az.sp) I az.fk az.fv az.fl (h.len az.hl) li (h.no4 az.ha az.a1).1 o S;have J:=XN c H dk c_ (.ref C) az.fv az.fa hz li λw E=>U.pr w (h.wo w E);have Y:=λ(r:D) (b:Ar) n S=>K6 h az.sp az.hl az.ha az.a1 az.a2 u az.hm (λw _=>U.va w) (λw E=>U.lw w (h.wo w E)) (l:=l) (past:=past) li (r:=r) (b:=b) n S;cases e:ws.all c_ with
 |false =>
  rw[e] at J Y;refine⟨sx (.str kd),l,past,λS=>(Y .non Yp (λz=>by cases z) S).trans (by rw[AT aC]),λo j S A=>?_,cG trivial,L,hp,Jt _⟩;have G:=say o S;rw[J S,AT aC] at G;exact⟨S,mW A G U.ca (U.kn S),A,Z,λ_ _=>rfl⟩
 |true =>
  rw[e] at J Y;have q:=q e;have G:∀ o j S,bn c o j (past++[l]) S->a_ c [.loc o,.str x] S=(F [qM l,.lst (ws.map dk)] S).bind λd S'=>bj c [.loc o,d] S':=λo j S A=>by have G:=say o S;rw[J S,Au Z] at G;exact G.trans (JZ az.nb az.d1 az.d2 az.hF A)
  cases q with
  |yes M O B L' =>
   refine⟨.str "ok",M,past++[l],λS=>(Y (qM M) Vq (λ_=>⟨B,L3 _⟩) S).trans (by rw[Au Z,Au Z];rfl),λo j S A=>?_,trivial,L',iW L hp,by simp⟩;have N:=G o j S A;rw[O] at N;obtain⟨v,s,g,q4⟩:=keeps A (by rw[Bj,Df];lia) (qM M) rfl;exact⟨_,rA A (N.trans v),s,g,q4⟩
  |no C' y r O hC hk B t h4 =>
   refine⟨sx r,l,past,λS=>(Y r Yp (λ_=>⟨B,t⟩) S).trans (by rw[Au Z,AT aC]),λo j S A=>?_,cG h4,L,hp,Jt _⟩;have N:=G o j S A;rw[O] at N;exact⟨S,mW A N hC (hk S),A,Z,λ_ _=>rfl⟩
def F3 (nd:(zN c).Nodup){t:Ah}(h:eh x t)(L:fx 40 l)(hp:∀ m∈past,fx 40 m)(H:past.length<999):zq c x l past:=by
 have Y:=λS=>FH h l (past:=past) li S;cases e:xY (rd t) with
 |false =>
  refine⟨sx (.str "text"),l,past,λS=>(Y S).trans (by rw[e,AT aC]),λo j S A=>?_,cG trivial,L,hp,Jt _⟩;have J:=X8 c h A;rw[SK c h.tasc h.tlen S e] at J;exact⟨S,mW A J (xt c).2.2.1 (oW c nd S),A,Z,λ_ _=>rfl⟩
 |true =>
  obtain⟨I,U,B⟩:=LK e;refine⟨.str "ok",I,past++[l],λS=>(Y S).trans (by rw[e,Au rfl,U];rfl),λo j S A=>?_,trivial,B,iW L hp,by simp⟩;have J:=X8 c h A;rw[BP c h.tasc h.tlen S e] at J;obtain⟨E,N,O,G⟩:=keeps A (by rw[Bj,Df];lia) (rd t) U;exact⟨_,rA A (J.trans E),N,O,G⟩
def oE (c:Cl){k:Ah}(sp:32 ∉ k.cps.toList)(U:k ≠ "")(J:Fl k xC=Vq)(Y:Dl k xC=Aa (.str ""))(N:k.length<=640)(st:Txt.startswith k "lot " = Yp)(o:Aj)(S:ag) :
  ∃ g,(a_ c [.loc o,.str k] S=j9 (g [Aa (.loc o),Aa (.str k),Aa (.lst ([k].map .str)),Aa (.lst []),Zt,Zt] S))/\g=qE (cu (bh (d2 fq (d2 b_ (qB 2) (dC (.int 0))) (dC (.str "back")))) (qO (xF c.Desk "undo" 1 (bw c) (qB 0) qC)) qS) (qE (cu (bh (d1 (yG Yp (xS c)) (d2 b_ (qB 2) (dC (.int 0))))) (qE (qV (d1 (yU (xS c)) (d2 b_ (qB 2) (dC (.int 0)))) (be 4)) (qO (xF c.Desk "keep" 2 (bj c) (qB 0) (qA (vZ 4 (tu c) (qA (d2 b_ (d1 (y8 c.Desk "lots") (qB 0)) (d1 y9 (dC (.int 1)))) (qA (qB 3) qC))) qC)))) qS) (qE (qV (d1 (yU (y7 c)) (d2 b_ (qB 2) (dC (.int 0)))) (be 5)) (qO (vZ 5 (tu c) (qA (d2 b_ (d1 (y8 c.Desk "lots") (qB 0)) (d1 y9 (dC (.int 1)))) (qA (qB 3) qC)))))):=by
 refine⟨_,?_,Z⟩;have e:=eT c (x:=k) (ws:=[]) (JS sp) (by simpa using Di U) J Y Z N (Fi _) st o S;rw[XN c (ws:=[]) "P" mj xo .none Y kd rfl (Fi _) (λ_ G=>by cases G) S] at e;exact e
def JV (nd:(zN c).Nodup)(L:fx 40 l)(hp:∀ m∈past,fx 40 m)(O:past.length<999):zq c "back" l past:=by
 have J:∀ o j U m S,bn c o j (U++[m]) S->a_ c [.loc o,.str "back"] S=bw c [.loc o] S:=λo j U m S A=>by obtain⟨g,e,rfl⟩:=oE c (k:="back") aC aC kd (by rfl) aC kd o S;exact e.trans (JY A)
 rcases List.eq_nil_or_concat past with rfl|⟨p,m,rfl⟩
 .refine⟨_,l,[],YW l,λo j S A=>?_,cG trivial,L,hp,Jt _⟩;have Y:=J o j [] l S A;rw[R5 c A] at Y;exact⟨S,mW A Y (xt c).2.2.2.1 (tE c nd S),A,Z,λ_ _=>rfl⟩
 .rw[List.concat_eq_append] at hp O ⊢;refine⟨.str "ok",m,p,K5 l m p,λo j S A=>?_,trivial,hp m aA,λy N=>hp y (Ds _ N),by simp;lia⟩;have Y:=J o j (p++[m]) l S A;rw[FF c A aA li] at Y;exact⟨_,rA A Y,aL A,Ov ..,λq G=>De (Di G)⟩
end
def lF {i:Aq}:32 ∉ (ki i).cps.toList/\ki i ≠ "":=by
 have G:∀ m,32 ∉ (Jc 10 m).map Jd:=λm Y=>by obtain⟨N,h,e⟩:=Cj.mp Y;have:=Sm (Qh aC aC h);lia
 by_cases e:0<=i
 .obtain⟨m,rfl⟩:=Ng e;have J:(ki (m:Aq)).cps.toList=(Jc 10 m).map Jd:=lX m;refine⟨by rw[J];exact G m,λz=>?_⟩;rw[z,yP] at J;exact absurd (Me.mp J.symm) (by simpa using Nat.toDigits_ne_nil)
 .obtain⟨m,rfl⟩:∃ m:Aj,i = -((m+1:Aj):Aq):=⟨(-i).toNat-1,by lia⟩
  have U:(ki (-((m+1:Aj):Aq))).cps.toList=45::(Jc 10 (m+1)).map Jd:=cI m;refine⟨λY=>?_,λz=>?_⟩
  .rw[U] at Y;rcases Ay.mp Y with h|h
   .cases h
   .exact G _ h
  .rw[z,yP] at U;cases U
def K7 {i:Aq}(h : -1000<=i/\i<=1000):q_ (ki i):=⟨(yZ h).1,by have:=(yZ h).2.1;lia,lF.1,lF.2⟩
def MU (h:gp 1000 q):q_ (pw q):=by
 have k:=cH h;refine⟨k.1,by lia,λz=>?_,λz=>?_⟩
 .unfold pw at z;rw[wL,wL] at z;rcases Cg.mp z with z|z
  .rcases Cg.mp z with z|z
   .exact lF.1 z
   .revert z;decide
  .exact lF.1 z
 .have e:=congrArg (·.cps.toList) z;unfold pw at e;rw[wL,wL,yP] at e;have:=(Um.mp (Um.mp e).1).2;revert this;decide
def K0 (q:Pt):tx [q]=pw q:=vC (by
 show (Sc " " [pw q]).cps.toList=_;rw[Om];rfl)
inductive jl (x:Ah):Prop
 |lot (t:Ah) (h:eh x t)
 |back (e:x = "back")
 |put (w:Ah) (h:Ln x "put" [w])
 |take (w:Ah) (h:Ln x "take" [w])
 |move (v w:Ah) (h:Ln x "move" [v,w])
 |turn (e:x = "turn")
 |mir (e:x = "mirror")
def iD {x k w:Ah}{ws:Y0}(h:Ln x k (w::ws))(Y:3<=k.length):4<=x.length:=by have e:=congrArg Gh h.cs;rw[zX,Bj,zX,Gv,Bj,Aw] at e;lia
def step (c:Cl)(nd:(zN c).Nodup)(nf:(tj c).Nodup){x:Ah}(h:jl x){l:Ab Pt}{past:Ab (Ab Pt)}(L:fx 40 l)(hp:∀ m∈past,fx 40 m)(Y:past.length<999):zq c x l past:=by
 have G:∀ {w:Ah},[w].all xo=Vq->∃ q,mj w=ay q/\gp 1000 q:=λ{w} e=>by
  have e:xo w=true:=by simpa using e
  exact n4 e
 cases h with
 |lot t h=>exact F3 nd h L hp Y
 |back e=>subst e;exact JV nd L hp Y
 |put w h =>
  refine uZ (k:="put") (f:="P") (a:=112) ⟨by decide,by decide,by decide,by decide,by decide,by decide,by decide,Z,kd,Z,kd,Z,Z,Z,b8 (tu c) 0 nf Z⟩ (WS c nd) h (iD h aC) Z L hp Y λe=>?_;obtain⟨q,J,U⟩:=G e;rw[show [w].map mj=[mj w] from rfl,J];exact AI c nd L U
 |take w h =>
  refine uZ (k:="take") (f:="P") (a:=116) ⟨by decide,by decide,by decide,by decide,by decide,by decide,by decide,Z,kd,Z,kd,Z,Z,Z,b8 (tu c) 1 nf Z⟩ (WS c nd) h (iD h aC) Z L hp Y λe=>?_;obtain⟨q,J,U⟩:=G e;rw[show [w].map mj=[mj w] from rfl,J];exact D1 c nd L
 |move v w h =>
  refine uZ (k:="move") (f:="NN") (a:=109) ⟨by decide,by decide,by decide,by decide,by decide,by decide,by decide,Z,kd,Z,kd,Z,Z,Z,b8 (tu c) 2 nf Z⟩ (qBo c nd) h (iD h aC) Z L hp Y λe=>?_;have J:vt v=Vq/\vt w=true:=by simpa using e
  have ki:∀ {w:Ah},vt w=Vq->∃ a:Aq,ma w=.int a:=λ{w} h=>by
   rcases sO w with h'|h'
   .exact h'
   .unfold vt at h;rw[h'] at h;cases h
  obtain⟨a,N⟩:=ki J.1;obtain⟨b,O⟩:=ki J.2;rw[show [v,w].map ma=[ma v,ma w] from rfl,N,O];exact D0 c nd L a b
 |turn e =>
  subst e;exact uZ (k:="turn") (f:="") (a:=116) (ws:=[]) ⟨by decide,by decide,by decide,by decide,by decide,by decide,by decide,rfl,kd,rfl,kd,rfl,rfl,rfl,b8 (tu c) 3 nf rfl⟩ (WS c nd) ⟨(Gg _).symm,(λ_ h=>by cases h),Fi _⟩ aC rfl L hp Y λ_=>D2 c L
 |mir e =>
  subst e;exact uZ (k:="mirror") (f:="") (a:=109) (ws:=[]) ⟨by decide,by decide,by decide,by decide,by decide,by decide,by decide,rfl,kd,rfl,kd,rfl,rfl,rfl,b8 (tu c) 4 nf rfl⟩ (WS c nd) ⟨(Gg _).symm,(λ_ h=>by cases h),Fi _⟩ aC rfl L hp Y λ_=>JA c L
def PY (c:Cl)(nf:(tj c).Nodup){o j:Aj}{l:Ab Pt}{past:Ab (Ab Pt)}{S:ag}(A:bn c o j (past++[l]) S)(L:fx 40 l):a_ c [.loc o,.str "lot"] S=.ok (.str (tx l)) S:=by obtain⟨g,e,rfl⟩:=oE c (k:="lot") aC aC kd (by rfl) aC kd o S;exact(e.trans (F5 A nf)).trans (R0 c L _ S)
def vz:Ab Pt:=[(0,0)]
def UI:fx 40 vz:=⟨by decide,by decide,Nc _ _,λq Y=>by rw[Cc.mp Y];exact⟨by decide,by decide,by decide,by decide⟩⟩
def NP {U J:DE}{S S1 Y:ag}{fs:Ab (Ah × D)}(G:J ac S=.ok d S1)(N:U ac S1=.ok (.loc i) Y)(B:Y[i]? = Aa (.ins C fs))(O:fs.length<1000):lV C f U J ac S=.nx ac (Y.set i (.ins C (mV f d fs))):=by simp only[lV,G,ax.toS,N,B];exact Au ⟨trivial,O⟩
def ZL (c:Cl)(ac:qG)(S:ag):∃ S1,kN c.Desk (dh c) ac S=.ok (.loc S.length) S1/\bn c S.length (S.length+1) ([] ++ [vz]) S1/\S1.length=S.length+2/\∀ m,m<S.length->S1[m]? = S[m]?:=by
 have e:dh c [.loc S.length] (S++[MO.ins c.Desk []]) = .ok .non ((S++[MO.ins c.Desk [],MO.lst [qM vz]]).set S.length (.ins c.Desk [("lots",.loc (S.length+1))])):=by
  rw[gK];show j9 (gl c [Aa (.loc S.length)] (S++[MO.ins c.Desk []])) = _;have k:gl c [Aa (.loc S.length)] (S++[MO.ins c.Desk []]) = .nx [Aa (.loc S.length)] ((S++[MO.ins c.Desk [],MO.lst [qM vz]]).set S.length (.ins c.Desk [("lots",.loc (S.length+1))])):=by
   have Y:mI (qA (dC (D.tup [D.tup [D.int 0,D.int 0]])) qC) [Aa (.loc S.length)] (S++[MO.ins c.Desk []]) = .ok (.loc (S.length+1)) (S++[MO.ins c.Desk [],MO.lst [qM vz]]):=by refine qZ ?_;rfl';exact⟨by simp,by simp;rfl⟩
   have J:(S++[MO.ins c.Desk [],MO.lst [qM vz]])[S.length]? = Aa (.ins c.Desk []):=by simp
   exact NP Y Z J aC
  rw[k];rfl
 refine⟨(S++[MO.ins c.Desk [],MO.lst [qM vz]]).set S.length (.ins c.Desk [("lots",.loc (S.length+1))]),?_,⟨?_,?_,by lia⟩,by simp,λm U=>?_⟩
 .unfold kN;rw[e]
 .simp
 .rw[De li];simp
 .rw[De li,Co U]
def MX:ey "lot ":=by intro c Y;revert c;decide
def sG:("lot " : Ah).length=4:=by decide
def iC (Y:ey t)(J:t.length<=600):jl ("lot " ++ t):=.lot t ⟨by rw[wL,b9],w9 MX Y,by rw[zT,sG];lia⟩
def iE {p k w:Ah}(e:p.cps.toList=k.cps.toList++[32])(hw:q_ w):Ln (p++w) k [w]:=⟨by rw[wL,e];simp,(λy Y=>by rw[Cc.mp Y];exact hw),Bz Z⟩
def wc:Ab Ah:=["0","0,01","x","1001,0","0,0,0","-0,0","0,","1,2\n","+1,0","--1,0","01"]
noncomputable def Q_ (l:Ab Aj):Ar:=l.all (λc=>decide (c<128)&&decide (c≠32))&&decide (l.length<=100)&&decide (l≠[])
def MT {w:Ah}(h:Q_ w.cps.toList=Vq):q_ w:=by
 unfold Q_ at h;rw[Av,Av,Az,Az,Bk] at h;obtain⟨⟨J,U⟩,G⟩:=h;have k:∀ c∈w.cps.toList,c<128/\c≠32:=λc Y=>by have:=J c Y;rw[Av,Az,Az] at this;exact this
 exact⟨λc Y=>(k c Y).1,by rw[<- zX];exact U,λz=>(k 32 z).2 rfl,λz=>G (by rw[z];exact yP)⟩
def D7:(wc.all λw=>Q_ w.cps.toList)=true:=kd
def K8 {w:Ah}(h:w∈wc):q_ w:=MT (Bk.mp D7 w h)
def AC {l:Ab Pt}{S:ag}(h:yD S p)(L:fx 40 l)(q:∀ x S',Kp p S S'->jl x->Q (.str x) S'):Ok (fw [.loc p,mh l past] S) Q:=by
 rw[gN];refine zB (ac:=[Aa (.loc p),Aa (mh l past),Zt,Zt,Zt,Zt,Zt,Zt,Zt,Zt,Zt,Zt]) Z ?_;unfold mh;have hl:=L.len;have zl:=Hb.mpr L.ne;rfl';refine xO h li λG S1 k1 zc=>?_;rfl';refine xO k1.pen li λr S2 k2 h2=>?_;refine bA (show r<4 by lia) λd J=>?_;obtain⟨wide,rfl,I⟩:∃ w:Aq,d=.int w/\1<=w/\w<=1000:=by simp only[Ay,Cz,Fw] at J;rcases J with rfl|rfl|rfl|rfl <;> exact⟨_,rfl,by lia⟩
 rfl';refine qAe k2.pen λany S3 k3 m=>?_;rfl';refine jZ (a:=l.map ay) ?_;rfl';refine xO k3.pen (by rw[Ao];lia) λn S4 s h4=>?_;rw[Ao] at h4;obtain⟨z,ez,hz⟩:∃ z,_L.ji (l.map ay) (n:Aq)=Aa (ay z)/\z∈l:=by
  have hn:n<(l.map ay).length:=by rw[Ao];lia
  exact⟨l[n]' li,by rw[W3 hn,Ls],Il _⟩
 refine xw ez ?_;rfl';refine sR I s.pen λy S5 o hy=>?_;have Y:gp 1000 y:=by unfold Bx at hy;unfold gp;lia
 rfl';refine xO o.pen li λa S6 H h6=>?_;refine bA (show a<10 by lia) λod O=>?_;obtain⟨ow,rfl,B⟩:∃ w:Ah,od=.str w/\q_ w:=by simp only[Ay,Cz,Fw] at O;rcases O with rfl|rfl|rfl|rfl|rfl|rfl|rfl|rfl|rfl|rfl <;> exact⟨_,rfl,K8 (by simp[wc])⟩
 rfl';refine xO H.pen li λb S7 k7 h7=>?_;refine bA (show b<2 by lia) λwd E=>?_;have U:Kp p S S7:=(((((k1.trans k2).trans k3).trans s).trans o).trans H).trans k7;clear k1 k2 k3 s o H k7;obtain⟨ww,rfl,N⟩:∃ w:Ah,wd=.str w/\w.length<=5/\∀ v,q_ v->jl (w++v):=by
  simp only[Ay,Cz,Fw] at E;rcases E with rfl|rfl
  .exact⟨_,Z,by decide,λv hv=>.put v (iE aC hv)⟩
  .exact⟨_,Z,by decide,λv hv=>.take v (iE aC hv)⟩
 rfl';refine zV (λe=>?_) λe=>?_
 .have zn:=m.len;have f:=cM (M:=41) (Ax _) (l:=any) li m.box;rfl';refine pB (l:=any) li m.box (vG Z) ?_;rfl';refine AB f.1 f.2 U.pen λx S8 j A c=>?_;rfl';have hb:∀ p∈l++[(999,999)],gp 1000 p:=λp hp=>by
   rcases Cg.mp hp with hp|hp
   .exact L.box p hp
   .rw[Cc.mp hp];exact⟨by decide,by decide,by decide,by decide⟩
  have tl:=cM (M:=41) (Ax _) (l:=l++[(999,999)]) (by rw[Bj,Df];lia) hb;refine fW (by rw[Ao];unfold bb;simp only[Aw,Cy];lia) ?_;rw[show D.tup (l.map ay++[D.tup [D.int 999,D.int 999]])=qM (l++[(999,999)]) by unfold qM;rw[Dq];rfl];rfl';refine pB (l:=l++[(999,999)]) (by rw[Bj,Df];lia) hb (vG Z) ?_;rfl';refine bA (show G<3 by lia) λd J=>?_;obtain⟨t,rfl,t1,t2⟩:∃ t:Ah,d=.str t/\ey t/\t.length<=600:=by
   simp only[Ay,Cz,Fw] at J;rcases J with rfl|rfl|rfl
   .exact⟨_,Z,f.1,by lia⟩
   .exact⟨_,Z,A,c⟩
   .exact⟨_,Z,tl.1,by lia⟩
  refine xA (a:="lot ") (by rw[sG];lia) ?_;rfl';exact q _ _ (U.trans j) (iC t1 t2)
 rfl';refine zV (λe=>?_) λe=>?_
 .rfl';refine pB (l:=[y]) (Bz Z) (λp hp=>by rw[Cc.mp hp];exact Y) (WQ Z) ?_;rw[K0];have k:=MU Y;refine xA (a:="put ") (by have:=k.len;rw[show ("put " : Ah).length=4 by decide];lia) ?_;rfl';exact q _ _ U (.put _ (iE aC k))
 rfl';refine zV (λe=>?_) λe=>?_
 .rfl';refine pB (l:=[z]) (Bz Z) (λp hp=>by rw[Cc.mp hp];exact L.box z hz) (WQ Z) ?_;rw[K0];have k:=MU (L.box z hz);refine xA (by have:=k.len;lia) ?_;rfl';exact q _ _ U (N.2 _ k)
 rfl';refine zV (λe=>?_) λe=>?_
 .rfl';refine xA (by have:=B.len;lia) ?_;rfl';exact q _ _ U (N.2 _ B)
 rfl';refine zV (λe=>?_) λe=>?_
 .have n1:=yZ (i:=y.1) ⟨Y.1,Y.2.1⟩;have n2:=yZ (i:=y.2) ⟨Y.2.2.1,Y.2.2.2⟩;have lm:("move " : Ah).length=5:=by decide
  have ls:(" " : Ah).length=1:=by decide
  rfl';refine fX n1.2.2 ?_;refine xA (a:="move ") (b:=ki y.1) li ?_;rfl';refine xA (a:="move " ++ ki y.1) (b:=" ") (by rw[zT];lia) ?_;rfl';refine fX n2.2.2 ?_;rfl';refine xO U.pen li λu S8 j h8=>?_;rfl';refine qD (d:=.int ((if decide ((u:Aq)=0)=Vq then 1 else 0:Aj):Aq)) (S:=S8) (by generalize decide ((u:Aq)=0)=b;cases b <;> rfl) ?_;refine bA (show (if decide ((u:Aq)=0)=Vq then 1 else 0)<2 by split <;> lia) λd J=>?_;obtain⟨t,rfl,ht⟩:∃ t:Ah,d=.str t/\q_ t:=by
   simp only[Ay,Cz,Fw] at J;rcases J with rfl|rfl
   .exact⟨ki y.2,Z,K7 ⟨Y.2.2.1,Y.2.2.2⟩⟩
   .exact⟨_,Z,K8 (by simp[wc])⟩
  refine xA (by have:=ht.len;rw[zT,zT];lia) ?_;rfl';refine q _ _ (U.trans j) (.move (ki y.1) t ⟨?_,λw I=>?_,Bz Z⟩)
  .rw[wL,wL,wL,show ("move " : Ah).cps.toList=("move" : Ah).cps.toList++[32] by decide,show (" " : Ah).cps.toList=[32] by decide];simp
  .simp only[Ay,Cz,Fw] at I;rcases I with rfl|rfl
   .exact K7 ⟨Y.1,Y.2.1⟩
   .exact ht
 rfl';have g:((G:Aq)-15)=((G-15:Aj):Aq):=by simp at *;lia
 rw[g];refine bA (show G-15<5 by lia) λd J=>?_;simp only[Ay,Cz,Fw] at J;rfl';rcases J with rfl|rfl|rfl|rfl|rfl
 .exact q _ _ U (.turn Z)
 .exact q _ _ U (.mir Z)
 all_goals exact q _ _ U (.back Z)
section
variable {c:Cl}{o j p:Aj}{S S':ag}
def QF (h:bn c o j Y S)(k:Kp p S S')(J:o≠p)(U:j≠p):bn c o j Y S':=⟨(k.same o (Bv.mp h.ob).1 J).trans h.ob,(k.same j (Bv.mp h.ls).1 U).trans h.ls,h.ne⟩
def UX {x:Ah}{J:Ab Pt}{U:Ab (Ab Pt)}{Y:D}{a b u s:Aj}{Q:Ar->ag->Prop}(nf:(tj c).Nodup)
  (e:bv c [.loc o,.str x] S=.ok Y S') (A:bn c o j (U++[J]) S') (E:um 3 Y) (L:fx 40 J)
  (G:ac[a]? = Aa (Aa (.loc o))) (I:ac[b]? = Aa (Aa (.str x))) (O:ac[u]? = Aa (Aa Y)) (es:ac[s]? = Aa (Aa (mh J U))) (q:Q Yp S') :
  Ok (w6 (x5 (bh (qI 2 bu (qA (qI 2 (bv c) (qA (qB a) (qA (qB b) qC))) (qA (qB u) qC))))) (bh (d2 jo (xF c.Desk "say" 2 (a_ c) (qB a) (qA (dC (.str "lot")) qC)) (qI 1 bc (qA (d2 b_ (qB s) (dC (.int 0))) qC)))) ac S) Q:=by
 have N:qI 2 bu (qA (qI 2 (bv c) (qA (qB a) (qA (qB b) qC))) (qA (qB u) qC)) ac S=.ok (.bl Vq) S':=
  qZ (lK (yI (lK (yI (o_v G (yI (o_v I (bB ⟨Z,qD e (yI (o_v O (bB ⟨Z,qD (O1 S' E) ⟨Z,Z⟩⟩)))⟩))))))))
 have B:d2 jo (xF c.Desk "say" 2 (a_ c) (qB a) (qA (dC (.str "lot")) qC)) (qI 1 bc (qA (d2 b_ (qB s) (dC (.int 0))) qC)) ac S'=.ok (.bl Yp) S':=by refine qZ (o_2 (qD ((cF A G Z).trans (PY c nf A L)) (lK (yI (o_2 (o_v es (o_c (xw (d:=qM J) Z (bB ⟨Z,?_⟩)))))))));exact pB (l:=J) (by have:=L.len;lia) L.box (vG Z) (qD (A6 _ _) ⟨Z,Z⟩)
 exact xZ (AD (AH (qD N ⟨Vq,rfl,(λz=>by cases z),λ_=>AH (qD B ⟨Yp,rfl,q⟩)⟩)))
def AG (nd:(zN c).Nodup)(nf:(tj c).Nodup){xs:Y0}(H:∀ x∈xs,jl x)(hl:xs.length<=900){Q:D->ag->Prop}(q:∀ S',Q (.bl Vq) S'):Ok (ce c [.lst (xs.map .str)] S) Q:=by
 rw[vT];refine zB (ac:=[Aa (.lst (xs.map .str)),Zt,Zt,Zt,Zt]) rfl ?_;obtain⟨a,w,n,-⟩:=ZL c [Aa (.lst (xs.map .str)),Zt,Zt,Zt,Zt] S;rfl';refine qD w ?_;rfl';refine j3 (cp:=D.str) (λJ ac S'=>∃ l Y N G,ac=[Aa (.lst (xs.map .str)),Aa (.loc S.length),Aa (mh l Y),N,G]/\bn c S.length (S.length+1) (Y++[l]) S'/\fx 40 l/\(∀ m∈Y,fx 40 m)/\(∀ y∈J,jl y)/\Y.length+J.length<=998) ?_ ?_ ⟨vz,[],Zt,Zt,rfl,n,UI,(λ_ h=>by cases h),H,by simp;lia⟩
 .rintro y J _ O ⟨l,Y,N,G,rfl,A,L,t,E,s⟩;rw[Aw] at s;obtain⟨M,f,k,u,v,b,B,U,d⟩:=step c nd nf (E y (.head _)) L t li;rfl';refine qD (u O) ?_;rfl';obtain⟨S3,e,I,-,-⟩:=v _ _ _ A;refine UX nf e I b B rfl rfl rfl rfl ?_;rfl';exact dE ⟨f,k,_,_,rfl,I,B,U,λz g=>E z (.tail _ g),by lia⟩
 .rintro _ O ⟨l,Y,N,G,rfl,-⟩;rfl';exact q O
end
def yV (m:Aj):Ab Pt:=(Ch m).map λ(i:Aj)=>((i:Aq)/8,(i:Aq) % 8)
def dX {m:Aj}(h:m<=41):∀ p∈yV m,gp 1000 p:=λp Y=>by obtain⟨i,hi,rfl⟩:=Cj.mp Y;have:=Fg.mp hi;unfold gp;dsimp only;lia
def tX (m:Aj):(yV m).length=m:=by unfold yV;rw[Ao,Et]
def qAQ {n:Aj}{S:ag}(h:n<=1000000):xH (u4 (qA (dC (.int (n:Aq))) qC)) ac S=.ok (Zt,(Ch n).map λ(i:Aj)=>D.int (i:Aq)) S:=qZ (zA (xu (yI (o_c (bB ⟨_,YH n h,_,_,Z,Z,Z⟩)))))
def ZQ {S:ag}(m:Aj)(h:m<=41)(q:Q (.lst ((yV m).map ay)) S):Ok (z0 Yp [Zt] (xH (u4 (qA (dC (.int (m:Aq))) qC))) (be 0) zU (qX (zO (qA (d2 jU (qB 0) (dC (.int 8))) (qA (d2 uL (qB 0) (dC (.int 8))) qC)))) ac S) Q:=by
 refine zY (cp:=λi:Aj=>D.int (i:Aq)) (o:=Zt) (Ch m) (λi=>ay ((i:Aq)/8,(i:Aq) % 8)) (λac Y=>Y=S/\∃ a,ac=[a]) (qAQ li) ⟨Z,Zt,Z⟩ (by rw[Et];unfold bb;lia) (λ_ _ _=>trivial) (λx G ac Y ⟨J,a,U⟩=>?_) λac Y ⟨J,_⟩=>?_
 .subst J U;rfl';exact⟨_,Z⟩
 .subst J;rw[show (Ch m).map (λi:Aj=>ay ((i:Aq)/8,(i:Aq) % 8))=(yV m).map ay by unfold yV;rw[Dk];rfl];exact q
def ZR {S:ag}{m:Aj}(h:m<=41)(q:Q (.str (tx (yV m))) S):Ok (bc [.lst ((yV m).map ay)] S) Q:=pB (l:=yV m) (by rw[tX];exact h) (dX h) (WQ Z) q
def UY {S:ag}{m:Aj}(h:m<=41)(q:Q (.str ("lot " ++ tx (yV m))) S):Ok (qW (.str "lot ") (.str (tx (yV m))) S) Q:=by have Y:=cM (M:=41) (Ax _) (l:=yV m) (by rw[tX];exact h) (dX h);exact xA (by rw[sG];lia) q
def UE {m:Aj}(h:m<=41):jl ("lot " ++ tx (yV m)):=by have Y:=cM (M:=41) (Ax _) (l:=yV m) (by rw[tX];exact h) (dX h);exact iC Y.1 li
def V_ (x k:Ah)(ws:Y0):Ar:=x.cps.toList == (k.cps.toList++ws.flatMap λw=>32::w.cps.toList)&&ws.all (λw=>Q_ w.cps.toList)&&decide (ws.length<=2)
def qAW (h:V_ x k ws=Vq):Ln x k ws:=by unfold V_ at h;rw[Av,Av,Az,Ig,Bk] at h;exact⟨h.1.1,λw Y=>MT (h.1.2 w Y),h.2⟩
def WI:Ab (Ah × Ah × Ab Ah):=[("take 0,0","take",["0,0"]),("put 0,0","put",["0,0"]),("put 9,9","put",["9,9"]),("put 9,10","put",["9,10"]),("move 1000 0","move",["1000","0"]),("take 7,7","take",["7,7"]),("move 0 " ++ yW "9" 31,"move",["0",yW "9" 31]),("move 0 -" ++ yW "9" 30,"move",["0","-" ++ yW "9" 30]),("move x -1","move",["x","-1"]),("move 01 1","move",["01","1"]),("move -0 1","move",["-0","1"]),("move 1 -","move",["1","-"]),("move 2000 0","move",["2000","0"]),("move -2000 0","move",["-2000","0"]),("move 990 0","move",["990","0"]),("move 1 0","move",["1","0"]),("move -1 x","move",["-1","x"]),("put 5,9","put",["5,9"]),("move 0 " ++ yW "9" 30,"move",["0",yW "9" 30])]
noncomputable def GU (k:Ah)(ws:Y0):Ar:=(decide (k = "take")||decide (k = "put"))&&decide (ws.length=1)||decide (k = "move")&&decide (ws.length=2)
def VS (Y:V_ x k ws=Vq)(h:GU k ws=Vq):jl x:=by
 have l:=qAW Y;unfold GU at h;simp only[Ow,Av,Az] at h;rcases h with⟨e|e,n⟩|⟨e,n⟩
 .obtain⟨w,rfl⟩:=Nv.mp n;exact .take w (e▸l)
 .obtain⟨w,rfl⟩:=Nv.mp n;exact .put w (e▸l)
 .match ws,n,l with
  |[v,w],_,l=>exact .move v w (e▸l)
def NO:(WI.all λp=>V_ p.1 p.2.1 p.2.2&&GU p.2.1 p.2.2)=true:=kd
def VT {x:Ah}(h:x∈WI.map (·.1)):jl x:=by obtain⟨⟨y,k,J⟩,Y,rfl⟩:=Cj.mp h;have h:=Bk.mp NO _ Y;rw[Av] at h;exact VS h.1 h.2
def iR {S:ag}(n:Aj)(h:2<=n/\n<=1000/\(yW "9" n).length<=1000)(q:Q (.str (yW "9" n)) S):Ok (pU (.str "9") (.int (n:Aq)) S) Q:=by refine⟨_,_,?_,q⟩;show (if (2<=(n:Aq)/\(n:Aq)<=1000/\("9" : Ah).length=1/\(yW "9" ((n:Aq).toNat)).length<=1000) then ax.ok (D.str (yW "9" (n:Aq).toNat)) S else .bad)=_;rw[EQ];exact Au ⟨by lia,by lia,by decide,h.2.2⟩
def M9 {C:Ac}{Y:DA}{S:ag}(h:Ok (Y ac S) λds S1=>ds.length=ns.length/\Q (.exl C ns ds) S1):Ok (aJ C ns Y ac S) Q:=zA (zQ h λ_ _ k=>by
 rw[Au k.1];exact⟨_,_,Z,k.2⟩)
def l1:Ab Ah:=["take 0,0","put 0,0","lot " ++ tx (yV 40),"put 9,9","put 0,0","take 0,0","put 9,9","put 9,10","move 1000 0","take 7,7","move 0 " ++ yW "9" 31,"move 0 -" ++ yW "9" 30,"move x -1","move 01 1","move -0 1"]
def l2:Ab Ah:=["move 1 -","lot -1000,0","move 2000 0","move -2000 0","back","back","back","lot " ++ tx (yV 41)]
def l3:Ab Ah:=["back","lot ","lot  0,0","lot 0,0 0,0","move 990 0","move 1 0","move -1 x","back","back","back","put 5,9","move 0 " ++ yW "9" 30,"turn","mirror","back"]
noncomputable def si:Ab (Ah × Ah):=[("lot -1000,0","-1000,0"),("lot ",""),("lot  0,0"," 0,0"),("lot 0,0 0,0","0,0 0,0")]
def LL:(si.all λp=>p.1.cps.toList == ([108,111,116,32]++p.2.cps.toList)&&p.1.cps.toList.all (λc=>decide (c<128))&&decide (p.1.length<=640))=true:=kd
def kT {x t:Ah}(h:(x,t)∈si):jl x:=by have h:=Bk.mp LL _ h;rw[Av,Av,Az,Ig,Bk] at h;exact .lot t ⟨h.1.1,λc Y=>Bg (h.1.2 c Y),h.2⟩
def PR:∀ x∈l1++l2++l3,jl x:=λx hx=>by
 have f:x∈WI.map (·.1)->jl x:=VT;have g:=λm (h:m<=41)=>UE h;have b:jl "back":=.back rfl;have t:jl "turn":=.turn rfl;have r:jl "mirror":=.mir rfl;simp only[l1,l2,l3,WI,Ee,Xf,Cg,Ay,Cz,Fw] at hx f;rcases hx with (hx|hx)|hx
 .rcases hx with h|h|h|h|h|h|h|h|h|h|h|h|h|h|h
  .exact f (by simp[h])
  .exact f (by simp[h])
  .exact h▸g 40 aC
  all_goals exact f (by simp[h])
 .rcases hx with h|h|h|h|h|h|h|h
  .exact f (by simp[h])
  .exact h▸kT (t:="-1000,0") (by simp[si])
  .exact f (by simp[h])
  .exact f (by simp[h])
  .exact h▸b
  .exact h▸b
  .exact h▸b
  .exact h▸g 41 aC
 .rcases hx with h|h|h|h|h|h|h|h|h|h|h|h|h|h|h
  .exact h▸b
  .exact h▸kT (t:="") (by simp[si])
  .exact h▸kT (t:=" 0,0") (by simp[si])
  .exact h▸kT (t:="0,0 0,0") (by simp[si])
  .exact f (by simp[h])
  .exact f (by simp[h])
  .exact f (by simp[h])
  .exact h▸b
  .exact h▸b
  .exact h▸b
  .exact f (by simp[h])
  .exact f (by simp[h])
  .exact h▸t
  .exact h▸r
  .exact h▸b
def IvL (ns:Ab Aq)(_:Ab Aq)(ac:qG)(_:ag):Prop:=∃ B E H N O U L G I Y J,ac=[Aa (.lst (ns.map D.int)),B,E,H,N,O,U,L,G,I,Y,J]
def PQ (c:Cl)(nd:(zN c).Nodup)(nf:(tj c).Nodup):∀ ns:Ab Aq,ns.length<=63->∃ S,qL 12 (ue c) [.lst (ns.map D.int)] [] = .ok (.bl Vq) S:=λns hl=>by
 have H:Ok (qL 12 (ue c) [.lst (ns.map D.int)] []) λd _=>d=.bl true:=by
  refine zB (ac:=[Aa (.lst (ns.map D.int)),Zt,Zt,Zt,Zt,Zt,Zt,Zt,Zt,Zt,Zt,Zt]) Z ?_;unfold ue;rfl';refine M9 ?_;rfl';refine M9 ?_;rfl';refine kW Z Z ?_;rfl';refine kW Z Z ?_;rfl';refine kW Z Z ?_;rfl';refine kW Z Z ?_;rfl';refine kW Z Z ?_;rfl';refine kW Z Z ?_;rfl';refine qD (d:=.bl Yp) (S:=[]) (by kernel_rfl!) ?_;rfl';refine ZQ 40 aC ?_;rfl';refine ZR aC ?_;refine UY aC ?_;rfl';refine iR 31 kd ?_;refine xA (a:="move 0 ") kd ?_;rfl';refine iR 30 kd ?_;refine xA (a:="move 0 -") kd ?_;rfl';refine wC (Bz Z) ?_;rfl';refine UW Z Z (Bz Z) ?_;rfl';refine ZQ 41 aC ?_;rfl';refine ZR aC ?_;refine UY aC ?_;rfl';refine xx (mD _ _) (Bz Z) ?_;rw[BW];rfl';refine AA (qAU (mD _ _)) Z (Bz Z) ?_;rfl';refine iR 30 kd ?_;refine xA (a:="move 0 ") kd ?_;rfl';refine wC (Bz Z) ?_;rfl';refine AG nd nf (xs:=l1++l2++l3) PR (Bz Z) λS1=>?_;refine⟨Vq,Z,qBM (w_t (OR (OS (MS (qBL (SI ns hl 3 rfl λms=>?_))))))⟩;refine j3 (IvL ns) ?_ ?_ ⟨_,_,_,_,_,_,_,_,_,_,_,Z⟩
  .rintro y xs _ S ⟨O,B,M,I,e5,e6,u,w,G,J,U,rfl⟩;rfl';refine qAi λp N g=>?_;rfl';obtain⟨S3,e,A,zn,hm⟩:=ZL c [Aa (.lst (ns.map D.int)),O,B,M,I,Aa (.int y),Aa (.loc p),u,w,G,J,U] N;refine qD e ?_;rfl';have lp:=JE g;have p3:yD S3 p:=by
    obtain⟨v,f,e⟩:=g;exact⟨v,f,(hm p lp).trans e⟩
   refine xO p3 li λn S4 o s=>?_;rfl';refine⟨by lia,by lia,?_⟩;refine j3 (cp:=λ(i:Aj)=>D.int (i:Aq)) (λz ac q=>∃ l Y G J U,ac=[Aa (.lst (ns.map D.int)),O,B,M,I,Aa (.int y),Aa (.loc p),Aa (.loc N.length),Aa (mh l Y),G,J,U]/\bn c N.length (N.length+1) (Y++[l]) q/\yD q p/\fx 40 l/\(∀ m∈Y,fx 40 m)/\Y.length+z.length<=998) ?_ ?_ ⟨vz,[],G,J,U,rfl,QF A o li li,o.pen,UI,(λ_ h=>by cases h),by rw[Et,Cy];lia⟩
   .rintro i z _ S5 ⟨l,Y,G,J,U,rfl,A5,p5,L,hp,s⟩;rw[Aw] at s;rfl';refine AC p5 L λx S6 k b=>?_;obtain⟨zc,l',p',hw,hs,hd,j,E,zl⟩:=step c nd nf b L hp li;rfl';refine qD (hw S6) ?_;rfl';obtain⟨S7,e,t,-,h7⟩:=hs _ _ _ (QF A5 k li li);refine UX nf e t hd j rfl rfl rfl rfl ?_;rfl';have p7:yD S7 p:=by
     obtain⟨v,f,e⟩:=k.pen;exact⟨v,f,(h7 p li).trans e⟩
    exact dE ⟨l',p',_,_,_,Z,t,p7,j,E,by lia⟩
   .rintro _ S5 ⟨l,Y,G,J,U,rfl,-⟩;exact dE ⟨_,_,_,_,_,_,_,_,_,_,_,Z⟩
  .rintro _ S ⟨O,B,M,I,e5,e6,u,w,G,J,U,rfl⟩;rfl';exact qBK Z
 obtain⟨d,S,e,rfl⟩:=H;exact⟨S,e⟩
end _K
namespace _K
open _L _D
set_option hygiene false
end _K
set_option hygiene false in
local macro_rules|`(tactic|subst_eqs)=>do
 let I (x:String):=Lean.mkIdent (if x.contains '.' then x else "_D."++x).toName
 let F (s:String):Lean.MacroM (Lean.TSyntax `Lean.Parser.Tactic.tacticSeq):=do
  let l←(s.splitOn " ").toArray.mapM λx=>match x.splitOn ":" with
   |[a,b]=>do
    let s:=I ("PySem.F.slot_"++a)
    `(Lean.Parser.Tactic.tacticSeq|first|(apply _D.qDm;(case slot=>apply $s);(case' hm=>apply $(I b)))|(apply _D.qCv;(case slot=>apply $s);(case' hm=>apply $(I b))))
   |_=>`(Lean.Parser.Tactic.tacticSeq|apply $(I x))
  `(Lean.Parser.Tactic.tacticSeq|first $[|$l]*)
 `(tactic|(intros; repeat' first | ((with_reducible intro z); revert z; first | exact λ_ => ⟨rfl, rfl, rfl⟩ | (intro h; cases h; done) | exact _D.qDY U (.head _) _D.ck | exact _D.qDY U (.tail _ (.head _)) _D.ck | exact T.cls | exact V.dk_Desk.fld _ (.head _) | (intros; rfl) | (intro _ h; cases h <;> rfl) | intros) | with_reducible exact _D.ck | ((with_reducible show _D.QE _ _ _); with_reducible first | $(←F "aV qC0 qDp qC5 qBy aN") | (apply _D.aB; first | $(←F "qD4 qD2 qDy qCP qDS")) | $(←F "qDo qC6 qC1") | (apply _D.aT; first | $(←F "qCj qDU qD1 qDX qDR")) | $(←F "qB0 aBt qDl qC2 qDn qCw aCl qB1 qCx qBO qC4 qCu qDq aGi qCy qCz str_split:qCi list_append:qCN qCV qBz qC3 qCU OV str_join:qDT qB2 str_removeprefix:qEA list_count:qCe list_index:qCf list_pop:qDW str_isdecimal:qDz str_startswith:qCQ")) | ((with_reducible show _D.QA _ _ _); with_reducible $(←F "qCr qCS qCq")) | ((with_reducible show _ = _); first | exact T.nb _D.ck | with_reducible apply PySem.F.plainAttrs_dict | with_reducible apply PySem.F.plainAttrs_list | with_reducible apply PySem.F.plainAttrs_str | with_reducible apply PySem.F.type_dict_get | with_reducible apply PySem.F.type_dict_setdefault | with_reducible apply PySem.F.type_list_append | with_reducible apply PySem.F.type_list_count | with_reducible apply PySem.F.type_list_index | with_reducible apply PySem.F.type_list_pop | with_reducible apply PySem.F.type_str_isdecimal | with_reducible apply PySem.F.type_str_join | with_reducible apply PySem.F.type_str_removeprefix | with_reducible apply PySem.F.type_str_split | with_reducible apply PySem.F.type_str_startswith | exact nomark _ | exact rfl | with_unfolding_all rfl) | ((with_reducible show _D.ZOp _ _ _); with_reducible $(←F "qDx qDP qDQ qEC qCg qDV qD7 qD0 qD6 qD9 qEd qEc qEY qEX qEW qEe qEa qD5 qCO qEZ qCh")) | ((with_reducible show _D.RoomC _ _ _); first | assumption | exact _D.RoomC.mono (by assumption) | exact _D.RoomC.mono (_D.RoomC.any (by assumption)) | exact _D.RoomC.mark (by assumption) _ | exact _D.RoomC.mono (_D.RoomC.mark (by assumption) _)) | ((with_reducible show _D.St1 _ _ _ _); exact ⟨rfl, rfl⟩) | ((with_reducible show _D.DfS _ _ _ _ _ _ _ _ _ _); assumption) | ((with_reducible show _D.QS _ _ _); first | (with_reducible first | $(←F "qDH qDr qCb aRs qDG aP2") | apply _D.aRf (cm := Vq) | $(←F "qDF aP3 aTr")) | ((with_reducible apply _D.qED); case hsw => exact rfl) | ((with_reducible apply _D.aSt); case hs => exact rfl) | with_reducible apply _D.qDE) | ((with_reducible show _D.Fn1 _); first | exact ⟨rfl, rfl, rfl⟩ | exact T.ct) | (with_reducible first | $(←F "qCt qCT aNm qEb qCs qB3 qCc qB6 qCa qC8 qCW qC9 qCZ qDJ jTi jTn qDI qB7") | (apply _D.qDs; first | $(←F "qCd qDM qDL qDt")) | $(←F "qDK qCd qDM qDL qDt PySem.F.plainAttrs_str qDA qDB qCY qD8 PySem.F.plainAttrs_list PySem.F.type_str_split qB4 iMt PySem.F.type_list_append iTx qB8 PySem.F.type_str_join aFv qC7 qEB PySem.F.plainAttrs_dict iGs") | apply _D.iXv (cm := Vq) | $(←F "iMk qDD qDC qD3 PySem.F.type_dict_setdefault PySem.F.type_str_removeprefix iGt qEG qB5 qCX PySem.F.type_dict_get PySem.F.type_list_count PySem.F.type_list_index PySem.F.type_list_pop PySem.F.type_str_isdecimal PySem.F.type_str_startswith qDZ")) | exact T.cl (by kernel_rfl) | exact T.rz (by kernel_rfl) | exact T.ct | exact T.gi (by kernel_rfl) | ((with_reducible apply _D.aLm1); (case _D.D => assumption)) | ((with_reducible show _D.ClA _ _ _ _); first | assumption | exact _D.ClA.tr (by assumption)) | ((with_reducible show _D.LmX _ _ _ _ _ _ _ _ _ _); assumption) | ((with_reducible show _D.DfL _ _ _ _ _ _ _ _ _ _ _ _ _); assumption) | ((with_reducible show _D.LmK _ _); refine _D.lmK N (by assumption) ?_ rfl) | ((with_reducible show _D.ZF _ _ _ _); first | apply _D.aFn | apply _D.qEE) | exact λ_ => ⟨rfl, rfl, rfl⟩ | (intro h; cases h; done) | ((with_reducible show _D.FcOk _ _ _ _ _); exact (U _ (.head _)).toFcOk) | ((with_reducible show _D.FcOk _ _ _ _ _); exact (U _ (.tail _ (.head _))).toFcOk) | exact _D.qDY U (.head _) _D.ck | exact _D.qDY U (.tail _ (.head _)) _D.ck | exact T.cls | ((with_reducible show _D.DkK _ _); exact ⟨V.dk_Desk.cls⟩) | exact V.dk_Desk.fld _ (.head _) | ((with_reducible show _D.MDfS _ _ _ _ _ _ _ _ _ _ _); assumption) | ((with_reducible show _D.MIfS _ _ _ _ _ _ _ _); assumption) | exact V.tab_FORMS | exact V.tab_DEEDS | exact V.tab_QUESTIONS | exact V.str_LOT_AND_BLANK | exact V.tup_FIRST_LOT | ((with_reducible show _D.ZPass _); first | assumption | exact _D.qCk) | exact ⟨rfl, rfl⟩ | exact ⟨rfl, rfl, rfl⟩ | apply _D.qCt | apply _D.qCT | decide | (intros; rfl) | (intro _ h; cases h <;> rfl) | intro _))
namespace _K
open _D
set_option hygiene true
variable {K:Ag}{mg:J8}{P:Ba}{w:Bu}{c:Cl}
def uD {base:Bb}(T:Txt K mg c){k:Aj}{F:DF}(d:DfS F P w K mg base Vq k "_law_same" 2):DfS (qL 4 (d_ F)) P w K mg base Vq (k+1) "_law_same" 2:=by
 refine dq P w base k 67 T Z ck Z ?_
 subst_eqs
abbrev Ed (P:Ba)(w:Bu)(K:Ag)(mg:J8)(base:Bb)(F:DF)(k:Aj)(x:Ah)(n:Aj):Prop:=DfS F P w K mg base Vq k x n
def G0 (P:Ba)(w:Bu)(K:Ag)(mg:J8)(base:Bb)(c:Cl):Prop:=Ed P w K mg base av 1 "_law_draw" 2/\MIfS (dh c) P w K mg base 1 c.Desk/\DfS (aw c) P w K mg base Yp 1 "_law_kind_of" 1/\Ed P w K mg base ec 1 "number_in" 1/\Ed P w K mg base fg 1 "is_whole" 1/\Ed P w K mg base fr 2 "is_within" 3/\Ed P w K mg base dz 3 "is_point" 1/\Ed P w K mg base ff 4 "point_in" 1/\Ed P w K mg base ft 1 "is_rising" 1/\Ed P w K mg base gx 4 "is_lot" 1/\Ed P w K mg base (jj c) 5 "read" 1/\MDfS (bj c) P w K mg base Vq 1 c.Desk "keep" 2/\Jg
def qAx {base:Bb}(T:Txt K mg c)(nd:(zN c).Nodup)(V:yr K mg c)(nf:(tj c).Nodup)(U:uy K mg (ym c))(N:(sD.all λy=>(Dm K y).isSome)=Vq):G0 P w K mg base c:=by
 have d:=@Z0 _ _ _ _ _ _ _ _ _ _ P w base T;refine d 0 65 Z ck gO (λL=>?_) ?_;refine hv (λG=>?_) (iq (P:=P) (w:=w) (mg:=mg) (base:=base) 0 (L4 V.m_Desk_init V.dk_Desk iG) ck (gK c) ?_);refine hv (λI=>?_) (dq (cm:=Yp) P w base 0 68 T Z ck (yT c) ?_);refine d 0 33 Z ck gV (λE=>?_) ?_;refine d 0 0 rfl ck bQ (λA=>?_) ?_;refine d 1 1 rfl ck gU (λC=>?_) ?_;refine d 2 5 rfl ck bP (λO=>?_) ?_;refine d 3 34 Z ck bT (λB=>?_) ?_;refine d 0 2 rfl ck gT (λH=>?_) ?_;refine d 3 6 rfl ck mY (λJ=>?_) ?_;refine d 4 36 Z ck (f9 c) (λQ=>?_) ?_;refine hv (λY=>?_) (mq (P:=P) (w:=w) (mg:=mg) (base:=base) (cm:=Vq) 0 (sN V.m_Desk_keep iH) ck (gL c) ?_);refine⟨L,G,I,E,A,C,O,B,H,J,Q,Y,trivial⟩
 all_goals subst_eqs
def G1 (P:Ba)(w:Bu)(K:Ag)(mg:J8)(base:Bb)(c:Cl):Prop:=Ed P w K mg base (cj c) 2 "number_of" 1/\Ed P w K mg base (de c) 5 "point_of" 1/\Ed P w K mg base (bz c) 6 "values_of" 1/\Ed P w K mg base (gc c) 1 "words_of" 1/\Ed P w K mg base (cw c) 2 "need_number" 1/\Ed P w K mg base (dj c) 4 "need_point" 1/\Ed P w K mg base (df c) 5 "need_lot" 1/\Ed P w K mg base (fj c) 6 "moved" 3/\Ed P w K mg base (gt c) 7 "move" 2/\Ed P w K mg base (ke c) 6 "shown" 1/\Ed P w K mg base (cf c) 7 "tell_lot" 2/\MDfS (bw c) P w K mg base Vq 1 c.Desk "undo" 1/\Ed P w K mg base (dc c) 6 "turned_about" 1/\Jg
def qAy {base:Bb}(T:Txt K mg c)(nd:(zN c).Nodup)(V:yr K mg c)(nf:(tj c).Nodup)(U:uy K mg (ym c))(N:(sD.all λy=>(Dm K y).isSome)=Vq)(z:G0 P w K mg base c): G1 P w K mg base c:=by
 obtain⟨_,_,_,_,_,_,_,_,_,_,_,_,_⟩:=z;have d:=@Z0 _ _ _ _ _ _ _ _ _ _ P w base T;refine d 1 43 rfl ck (uK c) (λO=>?_) ?_;refine d 4 42 rfl ck (j6 c) (λG=>?_) ?_;refine d 5 62 rfl ck (gW c) (λC=>?_) ?_;refine d 0 61 rfl ck (bV c) (λL=>?_) ?_;refine d 1 3 rfl ck (jP c) (λB=>?_) ?_;refine d 3 7 rfl ck (vU c) (λH=>?_) ?_;refine d 4 8 rfl ck (bS c) (λI=>?_) ?_;refine d 5 30 rfl ck (pL c) (λA=>?_) ?_;refine d 6 46 rfl ck (rF c) (λM=>?_) ?_;refine d 5 35 rfl ck (nO c) (λE=>?_) ?_;refine d 6 50 rfl ck (bU c) (λQ=>?_) ?_;refine hv (λY=>?_) (mq (P:=P) (w:=w) (mg:=mg) (base:=base) (cm:=Vq) 0 (sN V.m_Desk_undo iI) ck (uI c) ?_);refine d 5 31 rfl ck (jB c) (λJ=>?_) ?_;refine⟨O,G,C,L,B,H,I,A,M,E,Q,Y,J,trivial⟩
 all_goals subst_eqs
def G2 (P:Ba)(w:Bu)(K:Ag)(mg:J8)(base:Bb)(c:Cl):Prop:=Ed P w K mg base (gq c) 7 "turn" 2/\Ed P w K mg base (ge c) 6 "mirrored" 1/\Ed P w K mg base (dw c) 7 "mirror" 2/\Ed P w K mg base (fy c) 1 "take" 2/\Ed P w K mg base (ik c) 3 "put" 2/\MDfS (a_ c) P w K mg base Vq 12 c.Desk "say" 2/\Ed P w K mg base (bv c) 13 "_law_said" 2/\Ed P w K mg base ef 1 "_law_cell" 2/\Ed P w K mg base cn 2 "_law_point" 2/\Ed P w K mg base cg 2 "_law_bent_text" 2/\Ed P w K mg base bc 1 "_law_text" 1/\Ed P w K mg base gg 3 "_law_lot" 2/\Jg
def qAz {base:Bb}(T:Txt K mg c)(nd:(zN c).Nodup)(V:yr K mg c)(nf:(tj c).Nodup)(U:uy K mg (ym c))(N:(sD.all λy=>(Dm K y).isSome)=Vq)(z:G0 P w K mg base c)(O:G1 P w K mg base c): G2 P w K mg base c:=by
 obtain⟨_,_,_,_,_,_,_,_,_,_,_,_,_⟩:=z;obtain⟨_,_,_,_,_,_,_,_,_,_,_,_,_,_⟩:=O;have d:=@Z0 _ _ _ _ _ _ _ _ _ _ P w base T;refine d 6 47 rfl ck (rG c) (λG=>?_) ?_;refine d 5 32 rfl ck (bR c) (λJ=>?_) ?_;refine d 6 48 rfl ck (mZ c) (λC=>?_) ?_;refine d 0 45 rfl ck (kK c) (λL=>?_) ?_;refine d 2 44 rfl ck (pM c) (λB=>?_) ?_;refine hv (λH=>?_) (mq (P:=P) (w:=w) (mg:=mg) (base:=base) (cm:=Vq) 11 (sN V.m_Desk_say oX) ck (bM c) ?_);refine d 12 78 rfl ck (uJ c) (λI=>?_) ?_;refine d 0 63 rfl ck gM (λA=>?_) ?_;refine d 1 69 rfl ck kI (λM=>?_) ?_;refine d 1 77 rfl ck uG (λE=>?_) ?_;refine d 0 73 rfl ck gR (λQ=>?_) ?_;refine d 2 70 rfl ck bN (λY=>?_) ?_;refine⟨G,J,C,L,B,H,I,A,M,E,Q,Y,trivial⟩
 all_goals subst_eqs
def G3 (P:Ba)(w:Bu)(K:Ag)(mg:J8)(base:Bb)(c:Cl):Prop:=Ed P w K mg base fw 4 "_law_deed" 2/\Ed P w K mg base et 1 "_law_whole" 1/\Ed P w K mg base cb 2 "_law_is_point" 1/\Ed P w K mg base bg 1 "_law_number" 1/\Ed P w K mg base ba 3 "_law_point_in" 1/\Ed P w K mg base cx 3 "_law_is_lot" 1/\Ed P w K mg base fu 4 "_law_read" 1/\Ed P w K mg base bo 4 "_law_changed" 3/\Ed P w K mg base bt 5 "_law_went" 2/\Ed P w K mg base bu 4 "_law_same" 2/\Ed P w K mg base (ce c) 14 "_law_told_right" 1/\Ed P w K mg base gf 1 "_law_pen" 1/\Jg
def qA0 {base:Bb}(T:Txt K mg c)(nd:(zN c).Nodup)(V:yr K mg c)(nf:(tj c).Nodup)(U:uy K mg (ym c))(N:(sD.all λy=>(Dm K y).isSome)=Vq)(k:G0 P w K mg base c)(C:G1 P w K mg base c)(M:G2 P w K mg base c): G3 P w K mg base c:=by
 obtain⟨_,_,_,_,_,_,_,_,_,_,_,_,_⟩:=k;obtain⟨_,_,_,_,_,_,_,_,_,_,_,_,_,_⟩:=C;obtain⟨_,_,_,_,_,_,_,_,_,_,_,_,_⟩:=M;have d:=@Z0 _ _ _ _ _ _ _ _ _ _ P w base T;refine d 3 81 rfl ck gN (λO=>?_) ?_;refine d 0 66 rfl ck kJ (λG=>?_) ?_;refine d 1 71 rfl ck uR (λB=>?_) ?_;refine d 0 74 rfl ck jO (λE=>?_) ?_;refine d 2 75 rfl ck uS (λL=>?_) ?_;refine d 2 72 rfl ck jN (λH=>?_) ?_;refine d 3 76 rfl ck gP (λI=>?_) ?_;refine d 3 79 rfl ck jA (λA=>?_) ?_;refine d 4 80 rfl ck gS (λz=>?_) ?_;have j:DfS (lY 0) P w K mg base Vq 0 "_law_same" 2:=⟨TY (T.src 67 rfl)⟩;have Q:DfS bu P w K mg base Vq 4 "_law_same" 2:=gQ▸uD T (uD T (uD T (uD T j)));refine d 13 82 rfl ck (vT c) (λY=>?_) ?_;refine d 0 64 rfl ck bO (λJ=>?_) ?_;refine⟨O,G,B,E,L,H,I,A,z,Q,Y,J,trivial⟩
 all_goals subst_eqs
def LB {base:Bb}(T:Txt K mg c)(nd:(zN c).Nodup)(V:yr K mg c)(nf:(tj c).Nodup)(U:uy K mg (ym c))(N:(sD.all λy=>(Dm K y).isSome)=Vq):∃ F,cO P w K mg base Vq 15 "law" ["_law_script"] F/\∀ ns:Ab Aq,ns.length<=63->∃ S,F [.lst (ns.map D.int)] [] = .ok (.bl Vq) S:=by
 have g0:=qAx (base:=base) (P:=P) (w:=w) T nd V nf U N ;have g1:=qAy (base:=base) (P:=P) (w:=w) T nd V nf U N g0;have g2:=qAz (base:=base) (P:=P) (w:=w) T nd V nf U N g0 g1;have g3:=qA0 (base:=base) (P:=P) (w:=w) T nd V nf U N g0 g1 g2;obtain⟨_,_,_,_,_,_,_,_,_,_,_,_,_⟩:=g0;obtain⟨_,_,_,_,_,_,_,_,_,_,_,_,_,_⟩:=g1;obtain⟨_,_,_,_,_,_,_,_,_,_,_,_,_⟩:=g2;obtain⟨_,_,_,_,_,_,_,_,_,_,_,_,_⟩:=g3;refine⟨_,dqP 14 83 T rfl ck ?_,PQ c nd nf⟩
 subst_eqs
end _K
namespace _K
open _L _D
variable {K:Ag}
def bdf:_e top tab:=by
 repeat (refine⟨?_,?_⟩;(intro _ _ _ _ _ _ Q h;first|(obtain⟨_,rfl⟩:=S_ h;rfl)|(obtain⟨_,_,rfl⟩:=R_ h;rfl)|(obtain⟨_,_,_,rfl⟩:=_f h;rfl)))
 exact trivial
def OW {o q c l d u k p y g N Y Q A j O M C I w L z U G J B E T H:Af}(q0:Bp K Bi "FarError" = Aa (Aa (.ref o)))(q1:Bp K Bi "NoPoint" = Aa (Aa (.ref q)))(q2:Bp K Bi "NoLot" = Aa (Aa (.ref c)))(q3:Bp K Bi "NoNumber" = Aa (Aa (.ref l)))(q4:Bp K Bi "NoCircle" = Aa (Aa (.ref d)))(q5:Bp K Bi "NoMarks" = Aa (Aa (.ref u)))(q6:Bp K Bi "NoFars" = Aa (Aa (.ref k)))(q7:Bp K Bi "NoText" = Aa (Aa (.ref p)))(q8:Bp K Bi "NoLine" = Aa (Aa (.ref y)))(q9:Bp K Bi "NoDeed" = Aa (Aa (.ref g)))(q10:Bp K Bi "Alike" = Aa (Aa (.ref N)))(q11:Bp K Bi "TooMany" = Aa (Aa (.ref Y)))(q12:Bp K Bi "Desk" = Aa (Aa (.ref Q)))(q13:Bp K Bi "put" = Aa (Aa (.ref A)))(q14:Bp K Bi "take" = Aa (Aa (.ref j)))(q15:Bp K Bi "move" = Aa (Aa (.ref O)))(q16:Bp K Bi "turn" = Aa (Aa (.ref M)))(q17:Bp K Bi "mirror" = Aa (Aa (.ref C)))(q18:Bp K Bi "tell_lot" = Aa (Aa (.ref I)))(q19:Bp K Bi "tell_fars" = Aa (Aa (.ref w)))(q20:Bp K Bi "tell_many" = Aa (Aa (.ref L)))(q21:Bp K Bi "tell_often" = Aa (Aa (.ref z)))(q22:Bp K Bi "tell_threes" = Aa (Aa (.ref U)))(q23:Bp K Bi "tell_unlike" = Aa (Aa (.ref G)))(q24:Bp K Bi "tell_round" = Aa (Aa (.ref J)))(q25:Bp K Bi "tell_square" = Aa (Aa (.ref B)))(q26:Bp K Bi "tell_fits" = Aa (Aa (.ref E)))(q27:Bp K Bi "tell_bar" = Aa (Aa (.ref T)))(q28:Bp K Bi "tell_spare" = Aa (Aa (.ref H))):XS K (qo ⟨o,q,c,l,d,u,k,p,y,g,N,Y,Q,A,j,O,M,C,I,w,L,z,U,G,J,B,E,T,H⟩):=⟨q0,q1,q2,q3,q4,q5,q6,q7,q8,q9,q10,q11,q12,q13,q14,q15,q16,q17,q18,q19,q20,q21,q22,q23,q24,q25,q26,q27,q28,trivial⟩
def OX (U:Bp K Bi "LEAST_NUMBER" = Aa (Aa (.int (-1000) k0)))(Y:Bp K Bi "MOST_NUMBER" = Aa (Aa (.int (1000) k1)))(Q:Bp K Bi "MOST_POINTS" = Aa (Aa (.int (40) k2)))(J:Bp K Bi "MOST_FIGURES" = Aa (Aa (.int (30) k3))):XT K tw:=⟨⟨_,U⟩,⟨_,Y⟩,⟨_,Q⟩,⟨_,J⟩,trivial⟩
def CV {P:Ba}{w:Bu}(T:Txt K mg c)(nd:(zN c).Nodup)(V:yr K mg c)(nf:(tj c).Nodup)(U:uy K mg (ym c))(hT:(sD.all λy=>(Dm K y).isSome)=Vq)(hfa:mg "law" = Aa (.ref fa)) :
  ∃ fd:Ft,(∀ (s:Ai) (v:Ac),Nz s fd ⟨[v],[]⟩ [("_law_script",v)])/\∀ base:Bb,K.In base->base.Ns Bi mg->qt P w K mg base (pf P w) 15 fa fd ["_law_script"] (cJ K):=
 LC (T.src 83 Z) hfa (λkV doc pm an cdv ct s v=>.of_eq Z) λbase=>LB T nd V nf U hT
end _K
structure PySem.W.Fast:Prop where(tw10779670336081300878 tw7383511444934067017 tw9521865893407940143 tw7948115302267798196 tw10221165777294265240 tw8656348757272917317 tw4693257223895751563 tw6824147038297513978 tw4590580988193342457 tw7833872402794234321 tw2822385252512258896 tw11355948569954607051 tw8257528178638525938 tw13424663055446014686 tw7945830303176165406 tw13495090986822960035 tw5576811414230694212 tw14841032779272900602 tw11910152908281008155 tw13668357265149617457 tw4247166995376536885 tw3311603107564501931 tw5848019576061901941 tw14468545163944111575 tw5665181287561923956 tw10485349070160598012 tw13909301141934426131 tw1394630554938491019 tw9772920190907136880 tw12422565874550962003 tw6515344450393430717 tw455166877789855742 tw11999463758849466958 tw18270743990354836401 tw3366764162373045815 tw8177341422604720571 tw1568019468401828736 tw1090427918459768874 tw8031767563631169696 tw10861118217317530993 tw7997093273515879063 tw13367829543656978109 tw3561870026359176532 tw11273326439791903372 tw1375989334575148505 tw17312421470916619218 tw13936474238015773128 tw17755805723709926699 tw2545427865342359466 tw12250509215054541271 tw16434525680906101795 tw16621923942303615037 tw10984223008164726304 tw13214236746962079500 tw2291813840528036679 tw2533974277397329987 tw12269883089370016257 tw12654148548245527788 tw17113535401501155685 tw6938579734570713743 tw14122346274544761794 tw9405155436234706834 tw2248674499586094461 tw6775844576067672038 tw15560660546266597760 tw9052312571541172792 tw6665779748470885924 tw1140844675082529469 tw8049078879647548056 tw13041849906937144307 tw11996185522860390004 tw1348224709078364208 tw9444299909078591626 tw12636952368876896743 tw1395730010077410780 tw8501075805943222449 tw180514513054742161 tw16628091346892232165 tw14040829684554640565 tw17825673319196913335 tw11197014900136185888 tw7854964901235986233 tw2566446789696592168 tw13792198168597964658 tw12790595292591655214 tw15266093024890217526 tw12315940459829861481 tw4366400545523780002 tw18268833831934569944 tw18417349181220654126 tw10795012838729662264 tw17125205873797399364 tw18402017722840076107 tw16991877011282335418 tw7784580982318265310 tw7824608809218325812 tw7379662427321661430 tw15749425933245770705 tw14050431233331222223 tw17203859251973579697 tw1271739437099119532 tw2138848421149104798 tw15264869923705095380 tw14213377638442814894 tw3627164897229618039 tw6579929759666430376 tw6726262250390080004 tw12846958836395620699 tw17648374278407376807 tw9515301135859792107 tw1737346662033673538 tw6504523378490837068 tw16021290045792599732 tw6137444905404910955 tw16962492919166869731 tw11993760951601143393 tw18413431822371416954 tw5473169369429847206 tw10531764642803403218 tw2947461412970451 tw1129929615417622697 tw7460184392195900002 tw11635308847594483407 tw10239607323427768898 tw7457304713326559527 tw5088461066577833410 tw5936753077489282957 tw3038221545590726550 tw8536097867455219629 tw1334410574925763789 tw17048866083973720326 tw10255897297595526244 tw385353001313820496 tw3019298546184482799 tw17076495161311028508 tw9522938965981652153 tw8320664277972884020 tw15993564989867986048 tw5094383504818645358 tw8809775225449764298 tw11426573817044133758 tw8022616643021002121 tw2726304414854048352 tw15804889192716636170 tw7037230095681881561 tw7825811940406169333 tw12493685922628583161 tw9896550041634590208 tw17586696354941670129 tw8289097668124223929 tw6281476957294810762 tw763020167175738913 tw14907247305391886653 tw11325606747127443357 tw15715899565835567062 tw12897294596904012953 tw12269211937806183573 tw11018006966803637313 tw17264036320951022350 tw9991272216742598715 tw11385229934263921506 tw4141423431345844468 tw3558926743121451409 tw7410581117886151634 tw7383828666678663911 tw12132391468996430288 tw2026480171966605833 tw18262215968611281868 tw12872490610503228318 tw18339797947119570753 tw16586994176269925131 tw7009787572457483430 tw17887070236523110626 tw3180278607116371908 tw10406818005350055697 tw12215757468222030586 tw12684427788616561726 tw16805568314574629551 tw9870697209749685536 tw4207953363946143469 tw9544653059135299573 tw3816115758177530867 tw16637658689183057260 tw12824480374379696526 tw3634244206983260435 tw9192894934278425642 tw6764574313344033695 tw16404968990267311090 tw16561327999764847242 tw11208631317576801252 tw221239268981277730 tw239641327638706143 tw8873234141615161502 tw13477717722087719916 tw3328959019427615984 tw12422764114614361924 tw3254386776409113511 tw9074198578466737472 tw16133400327421759845 tw14342009021054699437 tw10434337883017314334 tw14699398842785533529 tw10853281889715864200:True)
open PySem.W
set_option maxRecDepth 100000 in
set_option maxHeartbeats 0 in
theorem PySem.Challenge.cw_fewdistances_k96_deeds_at_the_desk_holds : PySem.Challenge.rw_fewdistances_k96_deeds_at_the_desk.Holds := by
 w_on;o_law;k_head;(case hw=>w_witness2)
 k_fill
 refine _D.qBN (l:=Qi) (k:=15) (x:="_law_script") Z Z ⟨Z,by decide,by decide,Z⟩ (λ_=>by kernel_rfl) (λw h az=>PySem.W.km_in_of az) ?F
 case F =>
  intro w mg fa h KX G hmg;refine' _K.CV (_D.qBH _K.bdf ?hp Z KX G ?s ?z (_K.OW ?q0 ?q1 ?q2 ?q3 ?q4 ?q5 ?q6 ?q7 ?q8 ?q9 ?q10 ?q11 ?q12 ?q13 ?q14 ?q15 ?q16 ?q17 ?q18 ?q19 ?q20 ?q21 ?q22 ?q23 ?q24 ?q25 ?q26 ?q27 ?q28) (_K.OX ?gi0 ?gi1 ?gi2 ?gi3) ?e1 ?e2 ?e3 ?e4 ?e5 ?e6) ?nd ⟨(_D.qAG ?dk_Desk ?df_Desk),(_D.ug.mk ?ma_Desk_init ?ml_Desk_init ?mc_Desk_init ?mn_Desk_init ?mk_Desk_init),(_D.ug.mk ?ma_Desk_say ?ml_Desk_say ?mc_Desk_say ?mn_Desk_say ?mk_Desk_say),(_D.ug.mk ?ma_Desk_keep ?ml_Desk_keep ?mc_Desk_keep ?mn_Desk_keep ?mk_Desk_keep),(_D.ug.mk ?ma_Desk_undo ?ml_Desk_undo ?mc_Desk_undo ?mn_Desk_undo ?mk_Desk_undo),(_D.GZ KX G ?tq_FORMS ?tl_FORMS ?tn_FORMS ?tr_FORMS),(_D.GZ KX G ?tq_DEEDS ?tl_DEEDS ?tn_DEEDS ?tr_DEEDS),(_D.GZ KX G ?tq_QUESTIONS ?tl_QUESTIONS ?tn_QUESTIONS ?tr_QUESTIONS),(_D.qBi KX G ?sq_LOT_AND_BLANK),(_D.qBj KX G ?uq_FIRST_LOT ?ul_FIRST_LOT ?um_FIRST_LOT)⟩ ?nf (_D.aX _K.VR KX G ?qx0 ?gx0 (_D.K_.mk ?bx0 ?ix0 ?lx0 ?cx0 ?kx0 ?ex0) (_D.aX _K.oV KX G ?qx1 ?gx1 (_D.K_.mk ?bx1 ?ix1 ?lx1 ?cx1 ?kx1 ?ex1) _D.NM)) ?hT hmg
  (case s=>(repeat (refine' ⟨_D.x_.mk ?a ?l ?c ?k,?_⟩;(case a=>k_is);(case l=>k_is);(case c=>k_is);(case k=>k_is)));exact trivial)
  (case z=>rfl)
  (case q0|q1|q2|q3|q4|q5|q6|q7|q8|q9|q10|q11|q12|q13|q14|q15|q16|q17|q18|q19|q20|q21|q22|q23|q24|q25|q26|q27|q28|gi0|gi1|gi2|gi3=>k_is)
  (case hp=>intro y hy;revert hy;simp;grind)
  (case e1|e2|e3|e4|e5|e6=>rfl)
  (case nd=>decide)
  (case dk_Desk|df_Desk=>rfl)
  (case ma_Desk_init|ml_Desk_init|mc_Desk_init|mn_Desk_init|mk_Desk_init|ma_Desk_say|ml_Desk_say|mc_Desk_say|mn_Desk_say|mk_Desk_say|ma_Desk_keep|ml_Desk_keep|mc_Desk_keep|mn_Desk_keep|mk_Desk_keep|ma_Desk_undo|ml_Desk_undo|mc_Desk_undo|mn_Desk_undo|mk_Desk_undo|tq_FORMS|tl_FORMS=>k_is)
  (case tn_FORMS|tr_FORMS=>rfl)
  (case tq_DEEDS|tl_DEEDS=>k_is)
  (case tn_DEEDS|tr_DEEDS=>rfl)
  (case tq_QUESTIONS|tl_QUESTIONS=>k_is)
  (case tn_QUESTIONS|tr_QUESTIONS=>rfl)
  (case sq_LOT_AND_BLANK|uq_FIRST_LOT|ul_FIRST_LOT|um_FIRST_LOT=>k_is)
  (case nf=>decide)
  (case qx0=>k_is)
  (case gx0=>rfl)
  (case bx0|ix0|lx0|cx0|kx0=>k_is)
  (case ex0=>rfl)
  (case qx1=>k_is)
  (case gx1=>rfl)
  (case bx1|ix1|lx1|cx1|kx1=>k_is)
  (case ex1|hT=>rfl)
