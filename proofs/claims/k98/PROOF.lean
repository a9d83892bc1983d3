import PyProof.Rows.All
import KE.KSortTup
import KE.KTab
import KE.KIntText
import KE.KNestM
import KE.KTryMore
import KE.KLam
import PySem.Challenge.RW_fewdistances_k98_lines_that_are_none
set_option Elab.async false
set_option linter.all false
set_option maxRecDepth 100000
set_option maxHeartbeats 0
set_option tactic.hygienic false
set_option bootstrap.genMatcherCode false
set_option genSizeOf false
set_option compiler.extract_closed false
open _root_ renaming rfl->Z
open Array renaming getElem?_toList->By,getElem?_eq_some_iff->Cq,getElem?_eq_getElem->Dk,length_toList->Dp,getD->Jd,toList_push->Jo,getElem?_eq_none->Kx,mem_toList_iff->Ou,getD_eq_getD_getElem?->Qf,all_toList->Sr,size_map->Ve,find?_toList->Ww,forIn_toList->Xa,toList_inj->Zs,toList->AaK
open Array.Perm renaming refl->Mr
open Bool renaming and_eq_true->Ax,false_eq_true->Bt,and_eq_true_iff->Ct,false_ne_true->Es,noConfusion->Gr,false_and->Gv,and_false->Hu,not_eq_true'->Jn,or_eq_true->Kt,eq_iff_iff->Kv,not_true->Mh,not_false->Aa5,true_and->AaG
open Char renaming toNat->Jf
open Classical renaming byContradiction->Ez,choose_spec->Le,choose->Lx
open False renaming elim->Am
open ForInStep renaming yield->Kr
open Int renaming toNat_natCast->Fk,emod_lt_of_pos->Kl,le_refl->Lh,emod_nonneg->Mp,eq_ofNat_of_zero_le->Nm,not_lt->Ps,le_trans->Tj,le_of_lt->Tk,toNat_of_nonneg->Wq,ediv_one->Xf,le_antisymm->wP
open List renaming length_map->Ao,mem_cons->Av,length_cons->Aw,length_append->Az,getElem?_eq_getElem->Be,all_eq_true->Bg,size_toArray->Bk,prefix_refl->Bm,mem_cons_of_mem->Bn,getElem?_eq_some_iff->Bw,mem_singleton->Bz,mem_append_right->Cb,mem_of_getElem?->Cd,mem_map->Cf,mem_append->Ch,getElem?_append_left->Cn,range->Cp,mem_cons_self->Cr,length_singleton->Cu,length_nil->Cy,not_mem_nil->Cz,replicate->Da,mem_append_left->Dh,getElem?_set_ne->Di,map_map->Dl,map_append->Ds,mem_iff_getElem->Eb,getElem?_append_right->Ec,pairwise_map->Ee,map_cons->Ej,lookup_cons->En,getElem?_map->Er,lookup->Eu,contains_iff_mem->Ev,pairwise_cons->Fc,mem_range->Fe,length_range->Fl,getElem?_set_self->Fn,length_take->Fo,getElem_mem->Fx,take_of_length_le->Fy,length_pos_iff->Gg,length->Gm,length_drop->Gq,flatMap_cons->Ha,filterMap_cons->Hb,append_nil->Hc,nodup_cons->Hd,replicate_succ->He,mem_map_of_mem->Hi,all_map->Hm,append_assoc->Ia,all_cons->Ik,mem_filterMap->Ir,prefix_append->Iu,getElem?_eq_none->Iy,map_id->Jc,nil_append->Ji,flatten_cons->Jm,getElem_map->Kc,map_congr_left->Ke,length_eq_zero_iff->Kg,zip_cons_cons->Kj,range_succ_eq_map->Ks,length_filter_le->Lj,mem_of_mem_take->Lv,getD->Mg,map_eq_nil_iff->Mj,forIn_cons->Mn,getElem?_replicate->Nc,toArray->Ni,getElem?_cons_succ->Nj,pairwise_singleton->Nk,forIn_nil->Np,mem_filter->Ow,length_set->Pb,eq_nil_of_length_eq_zero->Pe,filterMap_map->Qk,exists_cons_of_ne_nil->Qw,set_comm->Qz,nodup_append->Ri,drop_eq_getElem_cons->Rj,pairwise_iff_getElem->Ro,map_take->Rx,getElem?_take_of_lt->Sb,length_erase_of_mem->Se,getElem_inj->Sl,ext_getElem->Sw,map_fst_zip->Sy,eraseIdx_cons_succ->Tf,of_mem_zip->Tu,foldl_cons->Tw,drop_eq_nil_of_le->Tx,length_pos_of_mem->Ub,length_zip->Uf,filter_eq_nil_iff->Ug,append_eq_nil_iff->Ui,mem_iff_getElem?->Uq,countP_mono_left->Ux,eq_nil_or_concat->Uz,concat_eq_append->Va,pairwise_append->Vk,mem_erase_of_ne->Vl,mem_of_mem_drop->Vn,append_toArray->We,any_cons->Wf,map_drop->Wr,dropWhile_cons->Ws,toList_toArray->Wt,lookup_append->WF,getElem?_drop->WP,any_map->Xj,take->Yr,head?_append->Ys,zipIdx_cons->Zj,nodup_range->Zo,filter_cons->Zp,countP_cons->Zr,cons_append->Zu,any_eq_true->Zx,zipIdx_nil->sK,map->xL,head?_cons->Aa0,foldl->Aa1,filterMap->Aa7
open List.Pairwise renaming nil->Nt,imp_of_mem->Sd
open List.Perm renaming refl->Aa6
open List.cons renaming inj->Gh
open Nat renaming le_refl->Ay,lt_of_lt_of_le->Bq,le_of_ble_eq_true->Bv,le_trans->Ca,ne_of_lt->Cm,zero_le->EQ,lt_irrefl->Fg,lt_succ_self->Fv,le_of_lt->Hk,ne_of_gt->Hl,toDigits->Je,le_succ->Jx,succ_pos->Ki,le_of_lt_succ->Lf,not_lt->Me,lt_trans->Ng,mod_lt->Oa,add_comm->Pl,isDigit_of_mem_toDigits->Qh,lt_of_le_of_lt->Ql,add_right_comm->Qm,zero_add->Tg,mul_le_mul_right->Vm,min_self->Xi,lt_trichotomy->Ye,lt_succ_of_lt->Yh,le_add_right->Zg
open Nat.succ renaming inj->AaL
open Ne renaming symm->Dm
open Option renaming some->Aa,bind_eq_some_iff->Eg,map_eq_some_iff->Eo,map_eq_none_iff->Ku,isSome_iff_exists->Mt,bind_some->On,getD_some->Su,map_some->Uc,getD_none->Zc
open Option.some renaming inj->Cw
open Or renaming inr->Ze,inl->Aa8
open Prod renaming ext->ZB
open Prod.mk renaming injEq->AaI
open PyProof.Rows renaming seqObj->Eh,slot_tuple_getitem->Fi,envOfC->Fw,callWith_type1->Gw,part_short->Ib,assignInOrder_cons->Iq,IntsAre->Lm,get?_update_seq->Ms,AllBare->Oc,callWith_builtin1->Ot,assignInOrder_nil->Qy,subscriptTail->Rg,digit_range->Sk,IsTup->Tc,subscriptTail_builtinR->Tv,isBoolOf->Ua,lt_int->Vt,entry_tuple_getitem->Vv,Subscript_->Vx,args_tuple_getitem->Wy,unpackItems_tuple->Xs,toString_length_le->Aaa,entry_list_sort->wS
open PyProof.Rows.F renaming plain_set_update_loop->Im,entry_set_update_loop->Mq
open PyProof.Rows.IsTup renaming new->Ul
open PyProof.Rows.KTD renaming datumAt->Dc,inKeys->Fm,isSome_datumAt->Os
open PySem renaming Value->Ac,wpAny_bind->Ad,Addr->Af,Str->Ah,Shared->Ai,wpAny_pure->An,wpAny->Ap,model->As,Program->Ba,Heap->Bc,mainGlobals->Bi,starEach->Bj,Expr->Bl,Around->Bp,World->Bu,Obj->Ce,compareOp->Cs,wpAny_holding->Df,wpAny_newObj_type->Dj,wpAny_field->Dt,Stmt->Du,wpAny_callSpecial?_slot->Dv,wpAny_call_entry->Dw,Comprehension->Dy,Pos->Ea,sizeLine_eq->El,binaryOp->Et,Scope->Ey,backTo->Fh,cLine->Fj,SetTable->Fq,FuncData->Ft,wpAny_mono->Ga,attributeBase->Gc,mem_of_lookup->Ge,wpAny_setState_of->Gf,bootBuiltins->Gi,wpAny_setField->Gj,assignEach->Gp,codeAny->Gs,wpAny_seqItems->Gx,foldedSetIterable->Gy,wpAny_pyIter_list->Gz,Env->Hn,wpAny_Call_Name_kw->Hr,NameKind->Hz,cellsFrom->HT,swappedStores->Ic,swapsWithSole->Ie,wpAny_standAt->Ig,Builtin->Ih,intKind->Ip,wpAny_pyIter_tuple->Iw,wpAny_setField_rec->Ix,wpAny_passesOwn->Jg,codeAny_builtin->Jh,codeAny_call_builtin->Jp,rawInt->Ju,call_meets->Jz,wpAny_of_eq->Ka,wpAny_askSetting->Kb,noteFrame->Kf,IsPair->Kk,Sem->Km,letOwnedTupleGo->Kn,wpAny_attempt->Kq,wpAny_rule->KT,excClassObj->Ld,ofAClassStatement->Lg,wpAny_loadPart_at->Li,firstArgMember->Lo,bindName->Lp,codeAny_mono->Lq,wpAny_typeOf->Lr,sysModules->Ly,behindInMarks->Lz,wpAny_call->L2,typeIs_str->Mb,standAt->Mc,swapsWith->Md,wpAny_execs_nil->Ml,sliceBounds->Mm,Tok->Mx,Within->Nb,wpAny_bindName->No,Model->Nq,wpAny_truthy_bool->Nr,assignInOrder->Od,BindsTo->Oe,wpAny_forIn_list->Of,getItem->Og,wpAny_isTrue_Compare1->Oh,keywordEach->Om,plainObj_wpAny_Assign_Attribute->Oo,wpAny_updateSeq_pair->Ov,PassesOwn->Ox,codeAny_of_tree->Pd,pickOrder->Pg,pyNext->Pi,pyIter->Pj,IsPart->Pk,builtinsNs->Po,wpAny_loadPart->Py,IsZip->Qb,slot_dict_contains->Qo,Result->Qr,hashByValue->Qv,getMethod->Ra,wpAny_sequenceKey->Rf,callerA->Rh,setFlight->Rl,wpAny_onRaise->Rn,setSearchFrom->Rq,plainId_quiet->Rr,slot_dict_getitem->Rw,wpAny_comprehension_free->Sj,wpAny_lookBehind->Sm,pastItsLine_dict->Sn,noFill_tuple_add->So,checkBuiltinCall->Ss,wpAny_isInstance->Sv,IsTupleKey->Sx,tupleKeyHash->Th,wpAny_getItem_str_slice->Tl,GenState->Tr,bindArgs->Tt,backToKw->TD,wpAny_Call_method_late->TW,wpAny_specialOf->Ud,wpAny_ite_split->Ue,wpAny_throw->Us,wpAny_letGo->Ut,builtinLookup_eq_fast->Uv,recursionLimit->Vb,newFunctionEnv->Vd,isSubtype_type->Vf,CmpOp->Aab,bindL->Vr,bindC->Vs,seq_tuple_add->Vu,evalPart_none->Vw,OwnTail->Wa,isInstance->Wc,PlainAttrs->Wg,wpAny_handled->Wh,wpAny_setEntries_of->Wk,wpAny_newList->Wl,wpAny_isSubtype_exc->Wm,setState->Wu,callWith->Wv,wpAny_pyIter_ascii->Xb,wpAny_nsSet1->Xc,concat_meets->Xe,ExcBaseFacts->Xn,passOn->Xo,wpAny_assign_Name->Xq,slot_list_getitem->Xw,list_append->Xx,lastMarks->Xy,ClassData->Xz,pushCells->Ya,searchCouldBeSeen->Yd,wpAny_storeSet_of->Yg,wpAny_pyIter_slot->Yi,wpAny_collect_seq->Yl,DictEntry->Ym,Ctx->Aac,wpAny_pyHash_str->Yt,wpAny_eqBool_int->Yu,wpAny_execs_cons->Yw,unaryOp->Yx,getAttr->Yz,seqIndex_of->Zb,callGetattribute->Zf,newExc->Zi,wpAny_pyIter_zip->Zm,wpAny_alloc->Zn,exec_Assign_arm->Zy,Operator->dL,getAttrByItsOwn->f8,raiseNew->sB,compTurn->t0,typeLookup_type->v4,wpAny_updateSeq->v6,call->Aa2,isTrue->AaN
open PySem.Around renaming under_plainId->Jq,under->Te,frames_deeper->Vh
open PySem.Builtin.Frozenset renaming sizeOf->Sf,updateFrom->Aa3,newClass->AaA
open PySem.Builtin.Getset_descriptor renaming descrCheckInstance->To,descrNameAndClass->T0,descrGetter->Wb,descrGet->Xh
open PySem.Builtin.List renaming listTooLong->Mv,listLengthHint->Qc,listExtendWith->Qe,listSameRef->Sg
open PySem.Builtin.ObjectAttr renaming bindTo->Rm,dataDescriptor?->Xg,storeInOwnDict->Yn,getOf->AaJ,find->AaM
open PySem.Builtin.Slice renaming slicePlaces->Jl,sliceAdjust->Ma,sliceApplied->Qs
open PySem.Builtin.SmallTypes renaming nextOf->Co,ownedTupleIsFree->Gn,ownedTupleHandOut->Mo
open PySem.Builtin.Str renaming occurrences->Gu,strSliceIndices->Io,subAt->Nw,strSub->Qp,glued->Sa,partsBetween->Si,strKind->Wn
open PySem.Builtin.Tuple renaming tupleExact->Jr,tupleItemsOf->Qt,tupleCompareSizes->Za
open PySem.Calls renaming spliced_cons->Hq,spliced_nil->Lc,evalArgs_plain->Lu,callWith_builtin->NE,Constant_str->Qj,Name_function_global->Qq,call_function_entry->Rt
open PySem.Challenge renaming pw_fewdistances_k98_lines_that_are_none->Pv,rw_fewdistances_k98_lines_that_are_none->Pw
open PySem.Code renaming quiet_builtin->Na,isFrame->Xd,compLoop->AaD
open PySem.EntryCells renaming newEntry->Vz
open PySem.F renaming called_set->Go,slot_str_ascii_iterator_next->Hw,excBase_ValueError->Ja,slot_tuple_iterator_next->Jb,attr_ValueError->Kh,args_tuple_add_2->Mu,entry_tuple_add->Nd,slot_tuple_add->Nz,args_str_ascii_iterator_next_1->Ob,entry_str_ascii_iterator_next->Op,slot_zip_next->Pc,args_tuple_iterator_next_1->Pq,entry_tuple_iterator_next->Pz,args_str_split_2->Qn,entry_str_split->Rv,slot_str_split->Ta,plain_list_iadd->Ti,entry_bexc_ga->Uo,plain_set_new->Uu,slot_set_iter->Uw,args_list_append_2->Vi,args_bexc_ga->Vj,entry_list_append->Vy,slot_list_append->Wz,args_zip_next_1->XV,entry_zip_next->Zl,slot_int_rmul->u8
open PySem.Flow renaming next->Xr
open PySem.Heap renaming get?_push_of_some->Ak,get?_push_size->Bf,lt_size->Bh,get?_update_other->Cj,get?_update_self->Dx,size_push->Ep,SameBut->Ew,get?_none_of_le->Hx,ExtBut->Ur,MadeExcOf->Vg,get?_push_at->Yo,IsList->Zk
open PySem.Heap.IsSliceOf renaming new->AaP
open PySem.Heap.Ns1 renaming of_empty->Xt
open PySem.Heap.SameBut renaming update->Hg,refl->Yf
open PySem.IsL renaming update->Zd
open PySem.MeetsSeq renaming list_index->AaC,EqGives->AaO
open PySem.NameKind renaming free->Ho,cell->Ol
open PySem.Obj renaming mapSeq->Ex,data_mapFields->Hs,isFreed_of_fields->IN,mapFields->Ko,cls_mapFields->Rk
open PySem.P renaming add_list->Zh
open PySem.SeqAt.EqAt renaming bool_bool->Aa9,same->AaB
open PySem.SetTable renaming below->Cg,insertAt->Dz,sizeAbove->Fd,runEnd->Hj,grown->Hv,insertAt_perm->Kw,Probe->Nu,fill->Rp,toList_insertAt->Sc,laid->Wi,has->Xk,layClean->Yc,tooFull->Zq,slot->AaE,fits->AaF
open PySem.SetTable.below renaming go->Yb
open PySem.SetTable.layClean renaming free->Il
open PySem.SetTable.probe renaming go->Nv
open PySem.Shared renaming heap->Qu,TypeIs->Wj
open PySem.Str renaming ofString->Fb,length->Jy,empty->Pa
open PySem.StrLaws renaming partsBetween_eq->Nn,glued_eq_join->Oq,partsFrom->Rz,removeprefix_eq->Tn,sliceText_from->Uh,sliceText_to->Vo,subAt_one->Yq
open PySem.Unicode renaming isDecimal->Ry
open PySem.Value renaming ref->Cc,none->Ei,bool->Fa,type->Ht,builtin->Mf,int->Uj,str->Xp,float->Yv
open PySem.W renaming Frag->Ag,nsIn->Br,keepIn->Dd,findIn->De,tabIn->Do,kia_one->DL,fnOf->Fp,emptyDict->Gb,hideAll->Gk,instObj->Hy,codeIn->Js,exmOne->Jt,mg_of->Kz,hasDictIn->Lb,kitOne->Ll,hideAll_none->Ls,plainGet->Lw,kas_rev->Mi,nsMap_none_of_in->Mw,callWith_K->My,isNs_of_in->Mz,looks_findIn->Nh,cellsFrom_some->Ny,makesIn->Oy,kas_sort->Ph,hideAll_get->Pm,plainGet_of->Pp,lookIn->Px,tabObj->Qg,of_hideAll->Qi,methodObj->Qx,plainOver->Rb,kitx_list->Re,clsIn->Ru,isFn->Td,takerIn->Ts,funFrames_hide->Tz,looks_mroIn->Um,methodCall_KW->Uy,nsOkIn->Vc,mroIn->Vq,callWith_K0->Wp,kitx_tuple->Wx,kas_descPart->Xm,specialIn->Xu,kitx_dict->Xv,kas_count->Yj,kas_place->Yk,handedIn->Yy,looks_clsIn->Zt,takesIn->Zz,kas_desc->wE,OpenLaw->wT,CodeHd->Aa4,WalkO->AaH
open PySem.Within renaming cons->Rc,nil->Sz
open PySem.pickOrder renaming go->Xl
open Sum renaming inl->Tp,inr->Tq
open True renaming intro->Jw
open _root_ renaming List->Ab,Nat->Aj,Option->Al,Int->Aq,Bool->Ar,if_pos->Au,if_neg->AT,decide_eq_true_eq->Bb,of_decide_eq_true->Bd,decide_eq_false->Bo,Array->Bs,decide_eq_true->Ci,if_false->Dq,if_true->Dr,of_decide_eq_false->Ef,String->Ek,beq_self_eq_true->Em,beq_eq_false_iff_ne->Ff,or_false->Fu,False->Fz,Decidable->Jj,True->Jk,beq_iff_eq->Jv,decide_eq_false_iff_not->Nl,Unit->Nx,ne_true_of_eq_false->Pu,DecidableEq->Uk,decide_eq_decide->Zv
open Option renaming none->Zw
open Bool renaming true->Vp
open Bool renaming false->Yp
open PySem PySem.Spec PyProof.Rows
local macro_rules|`(tactic|fin2)=>`(tactic|omega)
abbrev J0:=Ab (Af × Ce)
abbrev J7:=Ac->Ai->Prop
abbrev J8:=Ah->Al Ac
abbrev J9:=Ab Af
abbrev Y0:=Ab Ac
abbrev Y8:=Ab Ah
noncomputable section
def om {p:Prop}(h:p:=by fin2):p:=h
def aC {p:Prop}[Decidable p](h:p:=by decide):p:=h
def ak {p:Prop}(h:p:=by lia):p:=h
def aA {p:Prop}(h:p:=by simp):p:=h
def li {p:Prop}(h:p:=by lia):p:=h
def kd {p:Prop}[Jj p](h:p:=by decide +kernel):p:=h
section
namespace _L
abbrev ku:=Sum Aq Ah
def T4:ku->Ac->Ar
 |.inl k,v=>Value.isInt k v
 |.inr x,v=>Value.isStrOf x v
noncomputable def qCW (w:Bu):ku->Aq
 |.inl k=>hashInt k
 |.inr x=>hashStr w x
def xM:∀ {k:ku} {v:Ac},T4 k v=Vp->(∃ i t,k=Tp i/\v=Uj i t)\/(∃ x t,k=Tq x/\v=Xp x t)
 |.inl i,v,h=>by
  obtain⟨t,e⟩:=Value.isInt_shape (k:=i) (v:=v) h;exact .inl ⟨i,t,rfl,e⟩
 |.inr x,v,h=>by obtain⟨t,e⟩:=Value.isStrOf_shape (x:=x) (v:=v) h;exact .inr ⟨x,t,rfl,e⟩
def IH (a b:Aq):decide ((Tp a:ku)=Tp b)=(a == b):=by
 by_cases e:a=b;subst e;simp;have h:¬ (Tp a:ku)=Tp b:=λq=>e (Sum.inl.inj q);rw[Bo h];exact(Ff.mpr e).symm
def IK (a b:Ah):decide ((Tq a:ku)=Tq b)=decide (a=b):=by
 by_cases e:a=b;subst e;simp;have h:¬ (Tq a:ku)=Tq b:=λq=>e (Sum.inr.inj q);rw[Bo h,Bo e]
def II (a:Aq)(b:Ah):decide ((Tp a:ku)=Tq b)=false:=Bo (λq=>nomatch q)
def IJ (a:Ah)(b:Aq):decide ((Tq a:ku)=Tp b)=false:=Bo (λq=>nomatch q)
def rK (prog:Ba)(w:Bu):PySem.KeyKind prog w ku where
 is:=T4
 hash:=qCW w
 inj:=λv a b J Y=>by
  rcases xM J with⟨i,t,rfl,rfl⟩|⟨x,t,rfl,rfl⟩
  .rcases xM Y with⟨j,u,rfl,e⟩|⟨y,u,rfl,e⟩
   .injection e with Q _;rw[Q]
   .exact nomatch e
  .rcases xM Y with⟨j,u,rfl,e⟩|⟨y,u,rfl,e⟩
   .exact nomatch e
   .injection e with Q _;rw[Q]
 byValue:=λk v h=>by rcases xM h with⟨i,t,rfl,rfl⟩|⟨x,t,rfl,rfl⟩ <;> rfl
 pyHash:=λhv h=>by
  rcases xM hv with⟨i,t,rfl,rfl⟩|⟨x,t,rfl,rfl⟩
  .exact wpAny_pyHash_int h
  .exact Yt h
 eqBool:=λU hv h=>by
  rcases xM U with⟨i,t,rfl,rfl⟩|⟨x,t,rfl,rfl⟩
  .rcases xM hv with⟨j,u,rfl,rfl⟩|⟨y,u,rfl,rfl⟩
   .rw[IH] at h;exact Yu h
   .rw[II] at h;exact SeqAt.EqAt.int_str i t y u _ _ _ _ h
  .rcases xM hv with⟨j,u,rfl,rfl⟩|⟨y,u,rfl,rfl⟩
   .rw[IJ] at h;exact SeqAt.EqAt.str_int x t j u _ _ _ _ h
   .rw[IK] at h;exact wpAny_eqBool_str h
 «strs»:=λk x t v h=>by
  rcases xM h with⟨i,u,rfl,e⟩|⟨y,u,rfl,e⟩
  .exact nomatch e
  .injection e with Q _
   subst Q;cases v <;> rfl
end _L
namespace _L
variable {us:Y0}{b:Af}
inductive V where
 |non|bl (b:Ar)|int (i:Aq)|str (x:Ah)|byt (b:Bs UInt8)|flt (b:UInt64)|ref (a:Af)|ty (n:Ek)
 deriving Uk
def qT:V->Ac->Prop
 |.non,u=>u=Ei
 |.bl b,u=>u=Fa b
 |.int i,u=>∃ t,u=Uj i t
 |.str x,u=>∃ t,u=Xp x t
 |.byt b,u=>∃ t,u=Value.bytes b t
 |.flt b,u=>∃ t,u=Yv b t
 |.ref a,u=>u=Cc a
 |.ty n,u=>u=Ht n
abbrev qQ:Ab V->Ab Ac->Prop:=Paired qT
def qQ.length (r:qQ xs us):xs.length=us.length:=Paired.length r
theorem qQ.get:∀ {xs:Ab V} {us:Y0} {i:Aj} {x:V},qQ xs us->xs[i]? = Aa x->∃ u,us[i]? = Aa u/\qT x u
 |_,_,_,_,.nil,e=>by simp at e
 |_,_,0,_,.cons r _,e=>by simp at e;subst e;exact⟨_,rfl,r⟩
 |_,_,i+1,x,.cons _ t,e=>by obtain⟨u,Q,Y⟩:=qQ.get (i:=i) (x:=x) t (by simpa using e);exact⟨u,by simpa using Q,Y⟩
theorem qQ.set (r:qT x u):∀ {xs:Ab V} {us:Y0} (i:Aj),qQ xs us->qQ (xs.set i x) (us.set i u)
 |_,_,_,.nil=>.nil
 |_,_,0,.cons _ t=>.cons r t
 |_,_,i+1,.cons q t=>.cons q (qQ.set r i t)
def qQ.append (h:qQ xs us)(s:qQ ys ws):qQ (xs++ys) (us++ws):=by
 induction h with
 |nil=>exact s
 |cons r t Q=>exact .cons r Q
theorem qQ.take:∀ {xs:Ab V} {us:Y0} (n:Aj),qQ xs us->qQ (xs.take n) (us.take n)
 |_,_,0,_=>.nil
 |_,_,_+1,.nil=>.nil
 |_,_,n+1,.cons r t=>.cons r (qQ.take n t)
theorem qQ.drop:∀ {xs:Ab V} {us:Y0} (n:Aj),qQ xs us->qQ (xs.drop n) (us.drop n)
 |_,_,0,r=>r
 |_,_,_+1,.nil=>.nil
 |_,_,n+1,.cons _ t=>qQ.drop n t
def uH:Al V->Al Ac->Prop
 |some v,Aa u=>qT v u
 |none,Zw=>Jk
 |_,_=>Fz
def KV {κ:Type}:Ab (κ × V)->Ab (κ × Ac)->Prop:=Paired λ(p:κ × V) (q:κ × Ac)=>p.1=q.1/\qT p.2 q.2
def kV:ku->V
 |.inl i=>.int i
 |.inr x=>.str x
inductive HO where
  |lst (xs:Ab V)
  |tup (xs:Ab V)
  |dK (kvs:Ab (ku × V))|dT (kvs:Ab (Ab ku × V))
  |set (S:Aq->Ar) (n:Aj)
  |ins (C dx:Af) (fs:Ab (Ah × V))
  |own (x:Af)
  |xd (fs:Ab (Ah × V))
  |met (f x:Af)
  |rng (lo hi:Aq)
  |frz (o:Ce) (u:HO)
  |tbl (ps:Bs Ac)
  |ext (φ : Bc->Prop)
abbrev Hp:=Af->Al HO
noncomputable def bz (H:Hp)(a:Af)(o:HO):Hp:=λb=>if b=a then Aa o else H b
def qX:bz H a o a=Aa o:=by unfold bz;rw[Au Z]
def qP {a:Af}(h:b≠a):bz H a o b=H b:=by unfold bz;rw[AT h]
def EE:bz (bz H a o) a u=bz H a u:=by funext b;unfold bz;split <;> rfl
def zG {H:Hp}(h:H a=Aa o)(h':H b=Zw):a≠b:=by intro e;subst e;rw[h] at h';cases h'
section
variable (P:Ba)(w:Bu)
def zR (H:Hp)(h:Bc)(a:Af):HO->Prop
 |.lst Y=>Y.length<=sizeLine/\∃ (G:Y0) (n:Aj),qQ Y G/\h.get? a=Aa { cls:=.type "list",data:=.seq G.toArray n }
 |.tup Y=>Y.length<=sizeLine/\∃ G:Ab Ac,qQ Y G/\Tc h a G.toArray
 |.dK Q=>Q.length<=sizeLine/\(a == Ly)=Yp/\∃ L,KV Q L/\h.DictOf (rK P w) a L
 |.dT Q=>Q.length<=sizeLine/\(a == Ly)=Yp/\∃ Y:Ab (Ab ku × Af × Ac),
   Paired (λ(p:Ab ku × V) (q:Ab ku × Af × Ac)=>p.1=q.1/\H q.2.1=Aa (.tup (p.1.map kV))/\qT p.2 q.2.2) Q Y /\
   ∃ o B I,h.get? a=Aa o/\o.ExactDict/\o.data=.dict B I/\B.toList=Y.map (entryOfKey (tupleKind (rK P w)))/\(Y.map (·.1)).Nodup
 |.set S n=>h.SetOf (Ip P w) a S n
 |.ins C N U=>H N=Aa (.own a)/\U.length<=1000/\N≠a/\h.get? a=Aa (Hy C N) /\
   ∃ J,h.Ns1 N J/\(∀ f,uH (U.lookup f) (J f))/\Nb J (U.map (·.1))
 |.own _=>∃ o,h.get? a=Aa o
 |.xd U=>∃ J,h.Ns1 a J/\∀ f,uH (U.lookup f) (J f)
 |.rng lo E=>∃ t u v,h.get? a=Aa { cls:=.type "range",data:=.fields #[.int lo t,.int E u,.int 1 v] }
 |.frz o u=>h.get? a=Aa o/\zR H h a u
 |.tbl A=>h.get? a=Aa { cls:=.none,data:=.fields A }
 |.met f x=>h.get? a=Aa (Qx (.ref f) (.ref x))
 |.ext φ => φ h/\(∃ o,h.get? a=Aa o)/\∀ T O:Bc,φ T->(∀ o,T.get? a=Aa o->O.get? a=Aa o)->φ O
def jp (H:Hp)(h:Bc):Prop:=∀ a o,H a=Aa o->zR P w H h a o
end
section
variable {P:Ba}{w:Bu}{H H':Hp}{h h':Bc}{a:Af}{o:HO}
theorem zR.lt (x:zR P w H h a o):a<h.objs.size:=by
 cases o with
 |lst J=>obtain⟨_,_,_,_,e⟩:=x;exact Bh e
 |tup J=>obtain⟨_,_,_,p⟩:=x;exact p.lt
 |dK Q=>obtain⟨_,_,_,_,o,_,_,e,_⟩:=x;exact Bh e
 |dT Q=>obtain⟨_,_,_,_,o,_,_,e,_⟩:=x;exact Bh e
 |set S n=>obtain⟨o,_,_,_,e,_⟩:=x;exact Bh e
 |ins C N Y=>obtain⟨_,_,_,e,_⟩:=x;exact Bh e
 |own y=>obtain⟨_,e⟩:=x;exact Bh e
 |xd Y=>obtain⟨_,⟨_,_,_,e,_⟩,_⟩:=x;exact Bh e
 |rng lo G=>obtain⟨_,_,_,e⟩:=x;exact Bh e
 |frz U u=>obtain⟨e,_⟩:=x;exact Bh e
 |tbl O=>exact Bh (show h.get? a=Aa _ from x)
 |met f y=>exact Bh (show h.get? a=Aa _ from x)
 |ext φ => obtain⟨_,⟨_,e⟩,_⟩:=x;exact Bh e
def Paired.mapP {J β:Type}{F G:J->β->Prop}{Q:Ab J}{Y:Ab β}(h:Paired F Q Y)(f:∀ a b,F a b->G a b):Paired G Q Y:=by
 induction h with
 |nil=>exact .nil
 |cons r t U=>exact .cons (f _ _ r) U
def zR.stay (x:zR P w H h a o)(k:∀ b u,(b=a\/H b=Aa (.own a))->h.get? b=Aa u->h'.get? b=Aa u)
  (L:∀ b,H b=Aa (.own a)->H' b=Aa (.own a)) (j:∀ b xs,H b=Aa (.tup xs)->H' b=Aa (.tup xs)):zR P w H' h' a o:=by
 induction o with
 |lst xs=>obtain⟨z,U,n,r,e⟩:=x;exact⟨z,U,n,r,k _ _ (.inl rfl) e⟩
 |tup xs=>obtain⟨z,U,r,Q,e,c⟩:=x;exact⟨z,U,r,Q,k _ _ (.inl rfl) e,c⟩
 |dK G=>obtain⟨z,y,M,r,Q,Y,J,e,c⟩:=x;exact⟨z,y,M,r,Q,Y,J,k _ _ (.inl rfl) e,c⟩
 |dT G =>
  obtain⟨z,y,xs,r,Q,Y,J,e,c⟩:=x;exact⟨z,y,xs,Paired.mapP r λp q z=>⟨z.1,j _ _ z.2.1,z.2.2⟩,Q,Y,J,k _ _ (.inl rfl) e,c⟩
 |set S n=>obtain⟨Q,Y,J,t,e,c⟩:=x;exact⟨Q,Y,J,t,k _ _ (.inl rfl) e,c⟩
 |ins C g A =>
  obtain⟨d,z,T,e,O,⟨N,Y,J,I,c⟩,r⟩:=x;exact⟨L _ d,z,T,k _ _ (.inl rfl) e,O,⟨N,Y,J,k _ _ (.inr d) I,c⟩,r⟩
 |own y=>obtain⟨Q,e⟩:=x;exact⟨Q,k _ _ (.inl rfl) e⟩
 |xd A=>obtain⟨O,⟨N,Y,J,e,c⟩,r⟩:=x;exact⟨O,⟨N,Y,J,k _ _ (.inl rfl) e,c⟩,r⟩
 |rng lo l=>obtain⟨t,u,v,e⟩:=x;exact⟨t,u,v,k _ _ (.inl rfl) e⟩
 |frz Q u E=>obtain⟨e,q⟩:=x;exact⟨k _ _ (.inl rfl) e,E q⟩
 |tbl B =>
  have e:h.get? a=Aa { cls:=.none,data:=.fields B }:=x;show h'.get? a=Aa { cls:=.none,data:=.fields B };exact k a _ (.inl Z) e
 |met f y =>
  have e:h.get? a=Aa (Qx (.ref f) (.ref y)):=x;show h'.get? a=Aa (Qx (.ref f) (.ref y));exact k a _ (.inl Z) e
 |ext φ => obtain⟨p,⟨o,e⟩,st⟩:=x;exact⟨st _ _ p λo q=>k _ _ (.inl rfl) q,⟨o,k _ _ (.inl rfl) e⟩,st⟩
def jp.lt (x:jp P w H h)(e:H a=Aa o):a<h.objs.size:=(x a o e).lt
def jp.fresh (x:jp P w H h)(e:h.objs.size<=a):H a=none:=by
 cases q:H a with
 |none=>rfl
 |some u=>exact absurd (Bq (x.lt q) e) (Fg _)
def jp.kept (x:jp P w H h)(k:∀ b u,h.get? b=Aa u->h'.get? b=Aa u):jp P w H h':=λa o e =>
 (x a o e).stay (λb u _ q=>k b u q) (λ_ q=>q) λ_ _ q=>q
def jp.laid (x:jp P w H h)(k:∀ b u,h.get? b=Aa u->h'.get? b=Aa u)(hp:h.objs.size<=a)(Q:zR P w (bz H a o) h' a o):jp P w (bz H a o) h':=λb u e=>by
 have Y:=x.fresh hp;by_cases J:b=a;subst J;rw[qX] at e;cases e;exact Q;rw[qP J] at e;exact(x b u e).stay (λc v _ q=>k c v q) (λc q=>by rw[qP (zG q Y)];exact q) λc U q=>by rw[qP (zG q Y)];exact q
end
def Rd (H:Hp)(a:Af)(u:HO):Prop:=H a=Aa u\/∃ o,H a=Aa (.frz o u)
def Rd.ok {P:Ba}(r:Rd H a u)(x:jp P w H h):zR P w H h a u:=by
 rcases r with r|⟨o,r⟩
 .exact x a u r
 .obtain⟨_,q⟩:=x a _ r;exact q
def Z5:Al HO->Prop
 |some (.lst _)=>Jk
 |some (.dK _)=>Jk
 |some (.dT _)=>Jk
 |some (.set _ _)=>Jk
 |some (.ins _ _ _)=>Jk
 |some (.ext _)=>Jk
 |_=>Fz
section
variable {P:Ba}{w:Bu}{H:Hp}{h h':Bc}{x e:Af}{o':HO}
def jp.write (ok:jp P w H h)(U:Z5 (H x))(B:e=x\/H e=Aa (.own x))(k:∀ b u,b≠e->h.get? b=Aa u->h'.get? b=Aa u)(O:∃ u,h'.get? e=Aa u)
  (C:zR P w (bz H x o') h' x o'):jp P w (bz H x o') h':=λb u q=>by
 have Y:∀ c y,H c=Aa (.own y)->c≠x:=λc y r z=>by subst z;rw[r] at U;exact U
 have J:∀ c G,H c=Aa (.tup G)->c≠x:=λc G r z=>by subst z;rw[r] at U;exact U
 by_cases N:b=x;subst N;rw[qX] at q;cases q;exact C
 .rw[qP N] at q;by_cases Q:b=e
  .have L:H b=Aa (.own x):=by
    rcases B with z|z
    .exact absurd (Q.trans z) N
    .rw[Q];exact z
   rw[q] at L;cases L;obtain⟨v,hv⟩:=O;exact⟨v,by rw[Q];exact hv⟩
  .refine(ok b u q).stay (λc v hc r=>k c v ?_ r) (λc r=>by rw[qP (Y c b r)];exact r) λc G r=>by rw[qP (J c G r)];exact r
   rcases hc with rfl|hc
   .exact Q
   .rintro rfl;rcases B with z|z
    .exact Y c b hc z
    .rw[hc] at z;cases z;exact N rfl
end
structure Un (fs ex:J9)(H H':Hp)(h h':Bc):Prop where
 keep:∀ b o,h.get? b=Aa o->H b=Zw->b ∉ fs->b ∉ ex->h'.get? b=Aa o
 slot:∀ b o,h.get? b=Aa o->H b=Zw->b∈fs->b ∉ ex->∃ sl,h'.get? b=Aa { o with slots:=sl }
 free:∀ b o,h.get? b=Aa o->H b=Zw->b ∉ ex->H' b=Zw
 there:∀ b o,h.get? b=Aa o->b ∉ ex->∃ o',h'.get? b=Aa o'
 tups:∀ b xs,H b=Aa (.tup xs)->H' b=Aa (.tup xs)
 frzs:∀ b o u,H b=Aa (.frz o u)->H' b=Aa (.frz o u)
 tbls:∀ b ps,H b=Aa (.tbl ps)->∃ more,H' b=Aa (.tbl (ps++more))
section
variable {fs ex:J9}{H H1:Hp}{h h1 h':Bc}{a x e:Af}{o:HO}
def Un.any (u:Un fs ex H H1 h h1){b:Af}{Q:Ce}(q:h.get? b=Aa Q)(n:H b=Zw)(Y:b ∉ ex):∃ U,h1.get? b=Aa { Q with slots:=U }:=by
 by_cases J:b∈fs;exact u.slot b Q q n J Y;exact⟨Q.slots,u.keep b Q q n J Y⟩
def Un.kept (k:∀ b u,h.get? b=Aa u->h'.get? b=Aa u):Un fs ex H H h h':=
 ⟨λb Q q _ _ _=>k b Q q,λb Q q _ _ _=>⟨Q.slots,k b Q q⟩,λ_ _ _ n _=>n,λb Q q _=>⟨Q,k b Q q⟩,λ_ _ q=>q,λ_ _ _ q=>q,λ_ Y q=>⟨#[],by rw[q];simp⟩⟩
def Un.refl:Un fs ex H H h h:=Un.kept λ_ _ q=>q
def Un.laid (k:∀ b u,h.get? b=Aa u->h'.get? b=Aa u)(hp:h.objs.size<=a)(Q:H a=Zw):Un fs ex H (bz H a o) h h' where
 keep:=λb u q _ _ _=>k b u q
 slot:=λb u q _ _ _=>⟨u.slots,k b u q⟩
 free:=λb u q n _=>by rw[qP (Cm (Bq (Bh q) hp))];exact n
 there:=λb u q _=>⟨u,k b u q⟩
 tups:=λb Y q=>by rw[qP (zG q Q)];exact q
 frzs:=λb u Y q=>by rw[qP (zG q Q)];exact q
 tbls:=λb J q=>⟨#[],by rw[qP (zG q Q),q];simp⟩
def Un.write (Y:Z5 (H x))(B:e=x\/H e=Aa (.own x))(k:∀ b u,b≠e->h.get? b=Aa u->h'.get? b=Aa u)(J:∃ u,h'.get? e=Aa u):Un fs ex H (bz H x o) h h':=by
 have G:∀ b,H b=Zw->b≠x:=λb n z=>by subst z;rw[n] at Y;exact Y
 have N:∀ b,H b=Zw->b≠e:=λb n z=>by
  subst z;rcases B with r|r
  .exact G b n r
  .rw[n] at r;cases r
 have U:∀ b u,H b=Aa u->¬ Z5 (Aa u)->b≠x:=λb u q O z=>by subst z;rw[q] at Y;exact O Y
 refine⟨λb u q n _ _=>k b u (N b n) q,λb u q n _ _=>⟨u.slots,k b u (N b n) q⟩,λb u q n _=>by rw[qP (G b n)];exact n,λb u q _=>?_,
  λb C q=>by rw[qP (U b _ q λz=>z)];exact q,λb u C q=>by rw[qP (U b _ q λz=>z)];exact q,λb L q=>⟨#[],by rw[qP (U b _ q λz=>z),q];simp⟩⟩
 by_cases Q:b=e;subst Q;exact J;exact⟨u,k b u Q q⟩
end
noncomputable def P_ (h:Bc)(H:Hp):Ab Af:=(Cp h.objs.size).filter λa=>(H a).isSome
def bK (h:Bc)(H:Hp):Bc:=Gk h (P_ h H)
theorem US (h:Bc)(H:Hp):(bK h H).objs.size=h.objs.size:=PySem.W.hideAll_size _ _
def BG {h:Bc}{H:Hp}(e:h.get? b=Aa o)(n:H b=Zw):(bK h H).get? b=Aa o:=
 Pm _ e λQ=>by have q:(H b).isSome=true:=(Ow.mp Q).2;rw[n] at q;simp at q
def SY (e:(bK h H).get? b=Aa o):h.get? b=Aa o/\H b=none:=by
 have Q:h.get? b=Aa o:=Qi (P_ h H) e;refine⟨Q,?_⟩;cases q:H b with
 |none=>rfl
 |some x =>
  have Y:b∈P_ h H:=Ow.mpr ⟨Fe.mpr (Bh Q),by simp[q]⟩;have z:(bK h H).get? b=none:=Ls (P_ h H) Y;rw[z] at e;cases e
end _L
namespace _L
variable {ch:J9}{E:J7}{t':Aj}{g':Bs Tr}{d':Drawn}{M:Nq}{Q:Nx->Ai->Prop}
noncomputable def uA:Ab Ah:=["law","_law_right","by_hull","pair_bound","hub","greatest_often"]
def EO (mg:J8)(h:Bc):Prop:=∃ Y o,mg "__builtins__" = Aa (.ref Y)/\Y≠Po/\h.get? Y=Aa o/\o.cls=.type "module" /\ o.dict=Aa Po/\o.data=.plain
structure Mod (K:Ag)(mg:J8)(base:Bc):Prop where
 kin:K.In base
 glob:base.Ns Bi mg
 blt:∃ mb,base.Ns Po mb/\∀ x:Ah,x ≠ "__name__" -> mb x=Gi x
 nolimit:base.NoLimit
 bm:EO mg base
 code:∀ x∈uA,∀ c T,Do K x=Aa (c,T)->Aa4 base c T
 inj:∀ x∈uA,∀ y∈uA,∀ c d T,Do K x=Aa (c,T)->Do K y=Aa (d,T)->x=y
structure Cx where
 prog:Ba
 w:Bu
 K:Ag
 mg:Ah->Al Ac
 base:Bc
 A:Bp
 N:Ab Ah
 s₀:Ai
 H₀:Hp
 env:Hn
 outer:Ab Hn
 stack:Ab Hn
 ex:Ab Af
 fn:Ah->Ar
 calm:Ar
 pn:Ab (Af × Ce)
 xe:Ac->Ai->Prop
noncomputable def gx (l:Ab Hn):Ab Af:=l.filterMap (·.frame)
abbrev Cx.fs (X:Cx):Ab Af:=gx X.outer
def qi (Y:Ey)(x:Ah):Prop:=Y.names.lookup x=Aa .local \/ Y.names.lookup x=Aa .cell\/Y.names.lookup x=Aa .free
def Loc (Y:Ey)(x:Ah):Prop:=Y.names.lookup x=Aa .local \/ Y.names.lookup x=Aa .cell
def EU (ac:Hn)(h:Bc)(m:J8)(x:Ah)(u:Ac):Prop:=
 (ac.kindOf x=Aa .local /\ m x=Aa u)\/((ac.kindOf x=Aa .cell\/ac.kindOf x=Aa .free)/\∃ c,ac.cells.lookup x=Aa c/\h.IsCell c (Aa u))
structure Cx.Ok (X:Cx):Prop where
 mod:Mod X.K X.mg X.base
 kind:X.env.scope.kind=.function
 glob:X.env.globals=Bi
 blt:X.env.builtins=Po
 above:X.s₀.heap.objs.size<=X.env.locals
 inj:∀ x y c,X.env.cells.lookup x=Aa c->X.env.cells.lookup y=Aa c->x=y
 has:∀ x,(X.env.kindOf x=Aa .cell\/X.env.kindOf x=Aa .free)->∃ c,X.env.cells.lookup x=Aa c
 cab:∀ x c,X.fn x=Vp->X.env.cells.lookup x=Aa c->X.s₀.heap.objs.size<=c
 hd:X.calm=Vp->X.A.handled=Zw
 frames:X.A.frames=Aa X.stack
 stk:X.stack=X.outer\/(X.stack=X.env::X.outer/\X.env.frame=Aa X.env.locals)
 exf:∀ b∈X.ex,b≠X.env.locals/\∀ x c,X.env.cells.lookup x=Aa c->c≠b
 bs:∀ b o,X.base.get? b=Aa o->X.s₀.heap.get? b=Aa o/\X.H₀ b=Zw
 bsz:X.base.objs.size<=X.s₀.heap.objs.size
 noex:∀ b o,X.base.get? b=Aa o->b ∉ X.ex
 exfs:∀ b∈X.ex,b ∉ X.fs
 funs:X.s₀.heap.FunFrames X.base X.outer
 frf:∀ b∈X.fs,X.H₀ b=Zw
structure Inv (X:Cx)(pins:J0)(Y : Ab (Al V))(H:Hp)(s:Ai):Prop where
 ok:X.Ok
 os:s.os=X.s₀.os
 bare:Oc s.gens
 base:Un X.fs X.ex X.H₀ H X.s₀.heap s.heap
 loc:∃ m,s.heap.Ns X.env.locals m/\∀ (i:Aj) (x:Ah) (v:V),X.N[i]? = Aa x->Y[i]? = Aa (Aa v)->qi X.env.scope x->∃ u,qT v u/\EU X.env s.heap m x u
 cell:∀ x c,X.env.cells.lookup x=Aa c->∃ v,s.heap.IsCell c v
 free:H X.env.locals=Zw
 freeC:∀ x c,X.env.cells.lookup x=Aa c->H c=Zw
 pin:∀ p∈X.pn++pins,s.heap.get? p.1=Aa p.2/\H p.1=Zw/\p.1≠X.env.locals/\p.1 ∉ X.fs/\∀ v,p.2.data≠.cell v
 hok:jp X.prog X.w H s.heap
 len:Y.length=X.N.length
section
variable {X:Cx}{aa:J0}{Y: Ab (Al V)}{H H':Hp}{s:Ai}{h':Bc}
def Cx.Ok.nofr (ok:X.Ok){b:Af}{o:Ce}(e:X.base.get? b=Aa o):b ∉ X.fs:=λJ=>by have:=(ok.funs.mem J).1;rw[e] at this;cases this
def Inv.bs (I:Inv X aa Y H s):∀ b o,X.base.get? b=Aa o->s.heap.get? b=Aa o/\H b=none:=λb o e =>
 ⟨I.base.keep b o (I.ok.bs b o e).1 (I.ok.bs b o e).2 (I.ok.nofr e) (I.ok.noex b o e),I.base.free b o (I.ok.bs b o e).1 (I.ok.bs b o e).2 (I.ok.noex b o e)⟩
def Inv.bk (I:Inv X aa Y H s):∀ b o,X.base.get? b=Aa o->s.heap.get? b=Aa o:=λb o e=>(I.bs b o e).1
def Inv.mod (I:Inv X aa Y H s):Mod X.K X.mg X.base:=I.ok.mod
def Inv.kIn (I:Inv X aa Y H s):X.K.In s.heap:=I.ok.mod.kin.keeps I.bk
def Inv.lt (I:Inv X aa Y H s):X.env.locals<s.heap.objs.size:=let ⟨_,J,_⟩:=I.loc;J.lt
def Inv.sz (I:Inv X aa Y H s):X.s₀.heap.objs.size<=s.heap.objs.size:=Ca I.ok.above (Hk I.lt)
def Inv.nofs (I:Inv X aa Y H s){a:Af}(h:s.heap.objs.size<=a):a ∉ X.fs:=λU=>by obtain⟨_,o,J,_⟩:=I.ok.funs.mem U;exact absurd (Bq (Bh J) (Ca I.sz h)) (Fg _)
def Inv.cne (I:Inv X aa Y H s):∀ x c,X.env.cells.lookup x=Aa c->c≠X.env.locals:=λx c e z=>by obtain⟨v,o,N,G⟩:=I.cell x c e;obtain⟨m,⟨B,O,C,J,U,_⟩,_⟩:=I.loc;rw[z,J] at N;cases N;rw[U] at G;cases G
def Inv.funs (I:Inv X aa Y H s):s.heap.FunFrames X.base X.outer:=by
 have all:∀ (l:Ab Hn),(∀ b∈gx l,b∈X.fs)->X.s₀.heap.FunFrames X.base l->s.heap.FunFrames X.base l:=by
  intro l
  induction l with
  |nil=>intro _ _;trivial
  |cons y r T =>
   intro N A;obtain⟨O,⟨L,o,U,w,B,j⟩,C⟩:=A;have J:L∈X.fs:=N L (by unfold gx;rw[Hb,U];exact Cr);obtain⟨k,e⟩:=I.base.slot L o B (I.ok.frf L J) J λz=>I.ok.exfs L z J;exact⟨O,⟨L,_,U,w,e,j⟩,T (λb G=>N b (by unfold gx;rw[Hb,U];exact Bn _ G)) C⟩
 exact all X.outer (λ_ G=>G) I.ok.funs
def Inv.stack (I:Inv X aa Y H s):s.heap.FunFrames X.base X.stack:=by
 rcases I.ok.stk with e|⟨e,J⟩
 .rw[e];exact I.funs
 .rw[e];obtain⟨m,U,_⟩:=I.loc;refine .cons (by rw[I.ok.kind];decide) J U ?_ I.funs;exact Hx (Ca I.ok.bsz I.ok.above)
def Inv.stkSub (I:Inv X aa Y H s):∀ b∈gx X.stack,b∈X.env.locals::X.fs:=λb J=>by
 rcases I.ok.stk with e|⟨e,U⟩
 .rw[e] at J;exact Bn _ J
 .rw[e] at J;unfold gx at J;rw[Hb,U] at J;exact J
def Inv.stkFree (I:Inv X aa Y H s):∀ b∈gx X.stack,H b=none:=λb hb=>by
 rcases Av.mp (I.stkSub b hb) with e|hb
 .rw[e];exact I.free
 .obtain⟨_,o,J,_⟩:=I.ok.funs.mem hb;exact I.base.free b o J (I.ok.frf b hb) λz=>I.ok.exfs b z hb
def Inv.step {g':Bs Tr}{t':Aj}{d':Drawn}(I:Inv X aa Y H s)
  (G:∀ b∈ch,(b∈X.ex\/X.s₀.heap.objs.size<=b)/\b≠X.env.locals/\(∀ x c,X.env.cells.lookup x=Aa c->c≠b)/\∀ p∈X.pn++aa,p.1≠b)
  (O:∀ b o,b≠X.env.locals->b ∉ X.fs->b ∉ ch->s.heap.get? b=Aa o->H b=Zw->h'.get? b=Aa o)
  (slot:∀ b o,b≠X.env.locals->b∈X.fs->b ∉ ch->s.heap.get? b=Aa o->H b=Zw->∃ sl,h'.get? b=Aa { o with slots:=sl }) (U:∀ b o,b ∉ ch->s.heap.get? b=Aa o->H b=Zw->H' b=Zw)
  (T:∀ b o,b ∉ ch->s.heap.get? b=Aa o->∃ o',h'.get? b=Aa o')
  (t:∀ b xs,H b=Aa (.tup xs)->H' b=Aa (.tup xs)) (j:∀ b o u,H b=Aa (.frz o u)->H' b=Aa (.frz o u)) (f:∀ b ps,H b=Aa (.tbl ps)->∃ jf,H' b=Aa (.tbl (ps++jf)))
  (ns:∀ m,s.heap.Ns X.env.locals m->h'.Ns X.env.locals m) (a:jp X.prog X.w H' h') (hg:Oc g') :
  Inv X aa Y H' { s with heap:=h',gens:=g',drawn:=d',toks:=t' }:=by
 have y:∀ b o,X.s₀.heap.get? b=Aa o->b≠X.env.locals:=λb o e=>Cm (Bq (Bh e) I.ok.above);have L:∀ b o,X.s₀.heap.get? b=Aa o->b ∉ X.ex->b ∉ ch:=λb o e J A=>by
  rcases (G b A).1 with z|z
  .exact J z
  .exact absurd (Bq (Bh e) z) (Fg _)
 have C:∀ x c,X.env.cells.lookup x=Aa c->∀ v,s.heap.IsCell c v->h'.IsCell c v:=λx c e v ⟨o,w,hd⟩=>by
  have N:c ∉ ch:=λz=>(G c z).2.2.1 x c e Z;by_cases hc:c∈X.fs;obtain⟨sl,q⟩:=slot c o (I.cne x c e) hc N w (I.freeC x c e);exact⟨_,q,hd⟩;exact⟨o,O c o (I.cne x c e) hc N w (I.freeC x c e),hd⟩
 refine⟨I.ok,I.os,hg,⟨λb o e n A J=>?_,λb o e n A J=>?_,λb o e n J=>?_,λb o e J=>?_,λb xs e=>t b xs (I.base.tups b xs e),λb o xs e=>j b o xs (I.base.frzs b o xs e),λb ps e=>?_⟩,?_,λx c e=>?_,?_,λx c e=>?_,λp hp=>?_,a,I.len⟩;exact O b o (y b o e) A (L b o e J) (I.base.keep b o e n A J) (I.base.free b o e n J);obtain⟨sl,B⟩:=I.base.slot b o e n A J;obtain⟨h,g⟩:=slot b _ (y b o e) A (L b o e J) B (I.base.free b o e n J);exact⟨h,g⟩;obtain⟨o',B⟩:=I.base.there b o e J;exact U b o' (L b o e J) B (I.base.free b o e n J);obtain⟨o',B⟩:=I.base.there b o e J;exact T b o' (L b o e J) B;obtain⟨m1,B⟩:=I.base.tbls b ps e;obtain⟨m2,g⟩:=f b _ B;exact⟨m1++m2,by rw[g,Array.append_assoc]⟩
 .obtain⟨m,hn,hl⟩:=I.loc;refine⟨m,ns m hn,λi x v B g e3=>?_⟩;obtain⟨u,r,l⟩:=hl i x v B g e3;refine⟨u,r,?_⟩;rcases l with l|⟨k,c,e,z⟩
  .exact .inl l
  .exact .inr ⟨k,c,e,C x c e _ z⟩
 .obtain⟨v,z⟩:=I.cell x c e;exact⟨v,C x c e v z⟩
 .obtain⟨m,⟨o,_,_,w,_⟩,_⟩:=I.loc;exact U _ o (λz=>(G _ z).2.1 rfl) w I.free
 .obtain⟨v,o,w,hd⟩:=I.cell x c e;exact U c o (λz=>(G c z).2.2.1 x c e Z) w (I.freeC x c e)
 .obtain⟨e,n,ne,nf,d⟩:=I.pin p hp;have N:p.1 ∉ ch:=λz=>(G p.1 z).2.2.2 p hp Z;exact⟨O p.1 p.2 ne nf N e n,U p.1 p.2 N e n,ne,nf,d⟩
theorem Inv.un {t':Aj}(I:Inv X aa Y H s)(u:Un X.fs [] H H' s.heap h')(U:jp X.prog X.w H' h'):Inv X aa Y H' { s with heap:=h',toks:=t' }:=by
 obtain⟨m,⟨o,w,j,O,r⟩,_⟩:=id I.loc;obtain⟨k,C⟩:=u.any O I.free aA;exact I.step (g':=s.gens) (d':=s.drawn) (ch:=[]) (λ_ z=>nomatch z) (λb o _ G _ e n=>u.keep b o e n G aA) (λb o _ G _ e n=>u.slot b o e n G aA) (λb o _ e n=>u.free b o e n aA) (λb o _ e=>u.there b o e aA) u.tups u.frzs u.tbls (λy T=>by
  obtain⟨A,B,N,J,L⟩:=T;rw[O] at J;cases J;exact⟨_,B,N,C,L⟩) U I.bare
theorem Inv.call {t':Aj}{d':Drawn}(I:Inv X aa Y H s)(u:Un (gx X.stack) ch H H' s.heap h')(N:jp X.prog X.w H' h')(A:Oc g')
  (U:∀ b∈ch,(b∈X.ex\/X.s₀.heap.objs.size<=b)/\b≠X.env.locals/\(∀ x c,X.env.cells.lookup x=Aa c->c≠b)/\∀ p∈X.pn++aa,p.1≠b) :
  Inv X aa Y H' { s with heap:=h',gens:=g',drawn:=d',toks:=t' }:=by
 obtain⟨m,⟨o,l,g,B,r⟩,_⟩:=id I.loc;obtain⟨q,O⟩:=u.any B I.free λz=>(U _ z).2.1 rfl;exact I.step (ch:=ch) U (λb o O L J e n=>u.keep b o e n (λz=>(Av.mp (I.stkSub b z)).elim O L) J) (λb o _ _ J e n=>u.any e n J) (λb o J e n=>u.free b o e n J) (λb o J e=>u.there b o e J) u.tups u.frzs u.tbls (λk w=>by
  obtain⟨y,T,C,G,j⟩:=w;rw[B] at G;cases G;exact⟨_,T,C,O,j⟩) N A
def Inv.turned {t':Aj}{it:Af}(I:Inv X aa Y H s)(k:∀ b o,b≠it->s.heap.get? b=Aa o->h'.get? b=Aa o)(B:H it=Zw)(G:it≠X.env.locals)
  (w:it∈X.ex\/X.s₀.heap.objs.size<=it) (O:∀ x c,X.env.cells.lookup x=Aa c->c≠it) (N:∀ p∈X.pn++aa,p.1≠it):Inv X aa Y H { s with heap:=h',toks:=t' }:=by
 have U:∀ b u,H b=Aa u->b≠it:=λb u e z=>by rw[z,B] at e;cases e
 refine I.step (g':=s.gens) (d':=s.drawn) (ch:=[it]) (λb A=>?_) (λb o _ _ J e _=>k b o (λz=>J (by simp[z])) e) (λb o _ _ J e _=>⟨o.slots,k b o (λz=>J (by simp[z])) e⟩) (λ_ _ _ _ n=>n)
  (λb o J e=>⟨o,k b o (λz=>J (by simp[z])) e⟩) (λ_ _ e=>e) (λ_ _ _ e=>e) (λb y e=>⟨#[],by rw[e];simp⟩) (λm j=>?_) (λb u e=>?_) I.bare
 .have e:b=it:=by simpa using A
  subst e;exact⟨w,G,O,N⟩
 .obtain⟨o,L,T,C,r⟩:=j;exact⟨o,L,T,k _ o (Dm G) C,r⟩
 .refine(I.hok b u e).stay (λc v J q=>k c v ?_ q) (λ_ q=>q) λ_ _ q=>q;rcases J with z|z
  .rw[z];exact U b u e
  .exact U c _ z
def Inv.tok (I:Inv X aa Y H s)(t:Aj):Inv X aa Y H { s with toks:=t }:=I.un (h':=s.heap) (t':=t) Un.refl I.hok
def Inv.kept {t':Aj}(I:Inv X aa Y H s)(k:∀ b u,s.heap.get? b=Aa u->h'.get? b=Aa u):Inv X aa Y H { s with heap:=h',toks:=t' }:=I.un (Un.kept k) (I.hok.kept k)
def Inv.laid {a:Af}{t':Aj}(I:Inv X aa Y H s)(k:∀ b u,s.heap.get? b=Aa u->h'.get? b=Aa u)(hp:s.heap.objs.size<=a)(J:zR X.prog X.w (bz H a o) h' a o) :
  Inv X aa Y (bz H a o) { s with heap:=h',toks:=t' }:=I.un (Un.laid k hp (I.hok.fresh hp)) (I.hok.laid k hp J)
def Inv.write {x e:Af}{o:HO}{t':Aj}(I:Inv X aa Y H s)(G:Z5 (H x))(N:e=x\/H e=Aa (.own x))(k:∀ b u,b≠e->s.heap.get? b=Aa u->h'.get? b=Aa u)(J:∃ u,h'.get? e=Aa u)
  (U:zR X.prog X.w (bz H x o) h' x o):Inv X aa Y (bz H x o) { s with heap:=h',toks:=t' }:=I.un (Un.write G N k J) (I.hok.write G N k J U)
def Inv.pins_of {J:J0}(I:Inv X aa Y H s)(h:∀ p∈J,s.heap.get? p.1=Aa p.2/\H p.1=Zw/\p.1≠X.env.locals/\p.1 ∉ X.fs/\∀ v,p.2.data≠.cell v):Inv X J Y H s:=
 ⟨I.ok,I.os,I.bare,I.base,I.loc,I.cell,I.free,I.freeC,λp U=>(Ch.mp U).elim (λz=>I.pin p (Dh _ z)) (h p),I.hok,I.len⟩
def l9 {N:Y8}(J:N.Nodup){i j:Aj}{x:Ah}(a:N[i]? = Aa x)(b:N[j]? = Aa x):i=j:=by obtain⟨C,G⟩:=Bw.mp a;obtain⟨O,U⟩:=Bw.mp b;exact(Sl J).mp (G.trans U.symm)
theorem cM {A:Bp}{i:Aj}(I:Inv X aa Y H s)(hN:X.N.Nodup)(l:X.N[i]? = Aa x)(N:Loc X.env.scope x)(r:qT v u)
  (h:∀ s',Inv X aa (Y.set i (Aa v)) H s'->(∃ a,Ew a s.heap s'.heap/\(a=X.env.locals\/X.env.cells.lookup x=Aa a))->Q () s') (hf:X.fn x=Vp\/X.env.scope.names.lookup x=Aa .local:=by first|exact .inl rfl|exact .inr rfl|assumption):Ap M A (storeName X.env x u) Q E s:=by
 obtain⟨m,hn,hl⟩:=id I.loc;have zl:(X.env.scope.kind == .class||(X.env.scope.kind == .module&&X.env.locals != X.env.globals))=false:=by rw[I.ok.kind];rfl
 have g:i<Y.length:=by rw[I.len];exact(Bw.mp l).1
 have L:=I.cne;have U:∀ {a:Af} {h':Bc},(∃ o,s.heap.get? a=Aa o/\H a=Zw)->Ew a s.heap h'->jp X.prog X.w H h':=λ{a h'} ha J b ob e=>by
  obtain⟨_,_,O⟩:=ha;refine(I.hok b ob e).stay (λc w' hc q=>(J.2 c ?_).trans q) (λ_ q=>q) λ_ _ q=>q;rintro rfl;rcases hc with rfl|hc
  .rw[O] at e;cases e
  .rw[O] at hc;cases hc
 rcases N with hk|hk
 .refine wpAny_storeName_local hk hn (λh' zs J=>?_) zl;obtain⟨oL,_,_,zo,_⟩:=id hn;refine h _ ⟨I.ok,I.os,I.bare,⟨λb o e n w N=>?_,λb o e n w N=>?_,I.base.free,λb o e N=>?_,I.base.tups,I.base.frzs,I.base.tbls⟩,⟨_,zs,λj y v' G C e3=>?_⟩,λy c e=>?_,I.free,I.freeC,λp hp=>?_,U ⟨oL,zo,I.free⟩ J,by simpa using I.len⟩ ⟨_,J,.inl rfl⟩
  .exact(J.2 b (Cm (Bq (Bh e) I.ok.above))).trans (I.base.keep b o e n w N)
  .obtain⟨sl,G⟩:=I.base.slot b o e n w N;exact⟨sl,(J.2 b (Cm (Bq (Bh e) I.ok.above))).trans G⟩
  .obtain⟨o',G⟩:=I.base.there b o e N;exact⟨o',(J.2 b (Cm (Bq (Bh e) I.ok.above))).trans G⟩
  .by_cases T:j=i
   .subst T;rw[l] at G;cases G;rw[Fn g] at C;cases C;exact⟨u,r,.inl ⟨hk,by simp⟩⟩
   .rw[Di (Dm T)] at C;obtain⟨u',r',q⟩:=hl j y v' G C e3;refine⟨u',r',?_⟩;rcases q with⟨k,e⟩|⟨k,c,e,z⟩
    .refine .inl ⟨k,?_⟩;have:y≠x:=λe=>T (l9 hN G (e▸l));simp[this,e]
    .exact .inr ⟨k,c,e,z.sameBut J (L y c e)⟩
  .obtain⟨w',z⟩:=I.cell y c e;exact⟨w',z.sameBut J (L y c e)⟩
  .obtain⟨e,n,ne,nf,d⟩:=I.pin p hp;exact⟨(J.2 p.1 ne).trans e,n,ne,nf,d⟩
 .have B:X.fn x=true:=by
   rcases hf with z|z
   .exact z
   .rw[z] at hk;cases hk
  obtain⟨c,hc⟩:=I.ok.has x (.inl hk);obtain⟨w',z⟩:=I.cell x c hc;refine wpAny_storeName_cell I.ok.kind hk hc z (λh' zn J=>?_);obtain⟨oc,t,f⟩:=id z;refine h { s with heap:=h' } ⟨I.ok,I.os,I.bare,⟨λb o e n w N=>?_,λb o e n w N=>?_,I.base.free,λb o e N=>?_,I.base.tups,I.base.frzs,I.base.tbls⟩,⟨m,hn.sameBut J (Dm (L x c hc)),λj y v' G C e3=>?_⟩,λy c' e=>?_,I.free,I.freeC,λp hp=>?_,U ⟨oc,t,I.freeC x c hc⟩ J,by simpa using I.len⟩ ⟨c,J,.inr hc⟩;exact(J.2 b (Cm (Bq (Bh e) (I.ok.cab x c B hc)))).trans (I.base.keep b o e n w N);obtain⟨sl,G⟩:=I.base.slot b o e n w N;exact⟨sl,(J.2 b (Cm (Bq (Bh e) (I.ok.cab x c B hc)))).trans G⟩;obtain⟨o',G⟩:=I.base.there b o e N;exact⟨o',(J.2 b (Cm (Bq (Bh e) (I.ok.cab x c B hc)))).trans G⟩
  .by_cases T:j=i
   .subst T;rw[l] at G;cases G;rw[Fn g] at C;cases C;exact⟨u,r,.inr ⟨.inl hk,c,hc,zn⟩⟩
   .rw[Di (Dm T)] at C;obtain⟨u',r',q⟩:=hl j y v' G C e3;refine⟨u',r',?_⟩;rcases q with q|⟨k,c',e,z'⟩
    .exact .inl q
    .refine .inr ⟨k,c',e,z'.sameBut J ?_⟩;rintro rfl;exact T (l9 hN G (I.ok.inj _ _ _ e hc▸l))
  .by_cases zc:c'=c
   .subst zc;exact⟨_,zn⟩
   .obtain⟨w2,z2⟩:=I.cell y c' e;exact⟨w2,z2.sameBut J zc⟩
  .obtain⟨e,n,ne,nf,d⟩:=I.pin p hp;refine⟨(J.2 p.1 ?_).trans e,n,ne,nf,d⟩;intro q;rw[q,t] at e;have q':oc=p.2:=Cw e;exact d w' (by rw[<- q'];exact f)
def yU {A:Bp}{i:Aj}(I:Inv X aa Y H s)(J:X.N.Nodup)(G:X.N[i]? = Aa x)(U:Loc X.env.scope x)(r:qT v u)
  (h:∀ s',Inv X aa (Y.set i (Aa v)) H s'->Q () s') (N:X.fn x=Vp\/X.env.scope.names.lookup x=Aa .local:=by first|exact .inl rfl|exact .inr rfl|assumption):Ap M A (storeName X.env x u) Q E s:=
 cM I J G U r (λs' O _=>h s' O) N
def Inv.call' {s':Ai}(I:Inv X aa Y H s)(N:s'.os=s.os)(u:Un (gx X.stack) ch H H' s.heap s'.heap)(J:jp X.prog X.w H' s'.heap)(O:Oc s'.gens)
  (U:∀ b∈ch,(b∈X.ex\/X.s₀.heap.objs.size<=b)/\b≠X.env.locals/\(∀ x c,X.env.cells.lookup x=Aa c->c≠b)/\∀ p∈X.pn++aa,p.1≠b):Inv X aa Y H' s':=by
 obtain⟨h',g',d',t',G⟩:=s';have e:G=s.os:=N;subst e;exact I.call (g':=g') (t':=t') (d':=d') u J O U
end
abbrev XK:=Ac->Al Af->Hp->Prop
abbrev St:=Ab (Al V)
abbrev VK:=V->Hp->Prop
abbrev TE:=St->Hp->VK->Prop
abbrev TT:=St->Hp->(Ar->Hp->Prop)->Prop
abbrev TA:=St->Hp->(Ab V->Hp->Prop)->Prop
structure Ends where
 nx:St->Hp->Prop
 rt:VK
 bk:St->Hp->Prop:=λ_ _=>Fz
 ct:St->Hp->Prop:=λ_ _=>Fz
abbrev TS:=Ends->St->Hp->Prop
inductive EP (X:Cx)(pins:J0)(Y : St)(Q:VK)(u:Ac)(s':Ai):Prop
 |mk (v:V) (H':Hp) (I:Inv X pins Y H' s') (r:qT v u) (q:Q v H'):EP X pins Y Q u s'
inductive TP (X:Cx)(pins:J0)(Y : St)(Q:Ar->Hp->Prop)(b:Ar)(s':Ai):Prop
 |mk (H':Hp) (I:Inv X pins Y H' s') (q:Q b H'):TP X pins Y Q b s'
inductive AP (X:Cx)(pins:J0)(Y : St)(Q:Ab V->Hp->Prop)(us:Y0)(s':Ai):Prop
 |mk (vs:Ab V) (H':Hp) (I:Inv X pins Y H' s') (r:qQ vs us) (q:Q vs H'):AP X pins Y Q us s'
def SP (X:Cx)(aa:J0)(D:Ends)(f:Flow)(s':Ai):Prop:=
 match f with
 |.next=>∃ J Y,Inv X aa J Y s'/\D.nx J Y
 |.brk=>∃ J Y,Inv X aa J Y s'/\D.bk J Y
 |.cont=>∃ J Y,Inv X aa J Y s'/\D.ct J Y
 |.ret u=>∃ v J Y,Inv X aa J Y s'/\qT v u/\D.rt v Y
abbrev a8 (X:Cx){α:Type}(m:PySem.Sem α):=Ap (As X.prog X.w) X.A m
def PE (X:Cx)(e:Bl)(t:TE):Prop:=
 ∀ (J:J0) (s:Ai) (Y : St) (H:Hp) (Q:VK),Inv X J Y H s->t Y H Q->a8 X (eval e X.env) (EP X J Y Q) X.xe s
def PT (X:Cx)(e:Bl)(t:TT):Prop:=
 ∀ (J:J0) (s:Ai) (Y : St) (H:Hp) (Q:Ar->Hp->Prop),Inv X J Y H s->t Y H Q->a8 X (isTrue e X.env (eval e X.env)) (TP X J Y Q) X.xe s
def PW (X:Cx)(e:Bl)(t:TT):Prop:=
 ∀ (J:Km Ac) (U:J0) (s:Ai) (Y : St) (H:Hp) (Q:Ar->Hp->Prop),Inv X U Y H s->t Y H Q->a8 X (isTrue e X.env J) (TP X U Y Q) X.xe s
def PA (X:Cx)(es:Ab Bl)(t:TA):Prop:=
 ∀ (U:Ea) (J:J0) (s:Ai) (Y : St) (H:Hp) (Q:Ab V->Hp->Prop),Inv X J Y H s->t Y H Q->a8 X (spliced (Fh U (Bj es X.env))) (AP X J Y Q) X.xe s
def PS (X:Cx)(st:Du)(t:TS):Prop:=
 ∀ (J:J0) (s:Ai) (Y : St) (H:Hp) (D:Ends),Inv X J Y H s->t D Y H->a8 X (exec st X.env) (SP X J D) X.xe s
def jq (X:Cx)(st:Ab Du)(t:TS):Prop:=
 ∀ (J:J0) (s:Ai) (Y : St) (H:Hp) (D:Ends),Inv X J Y H s->t D Y H->a8 X (execs st X.env) (SP X J D) X.xe s
def bi {J:Type}{t:Km J}{Q Y:J->Ai->Prop}(h:Ap M A t Q E s)(U:∀ a s,Q a s->Y a s):Ap M A t Y E s:=Ga h U λ_ _ x=>x
end _L
namespace _L
variable {aa:J0}{u:Ac}{E Q:J7}
section
variable {X:Cx}
def bin (M:PE X a L)(w:PE X b B){aa:J0}{s:Ai}{Y : St}{H:Hp}{R:V->V->Hp->Prop}(I:Inv X aa Y H s)(h:L Y H λx C=>B Y C λy U=>R x y U)
  {J:Type} {Q:J->Ai->Prop} {f:Ac->Ac->Km J}
  (T:∀ v u O x y U,Inv X aa Y U O->qT x v->qT y u->R x y U->a8 X (f v u) Q X.xe O) :
  a8 X (eval a X.env) (λv N=>a8 X (eval b X.env) (λu G=>a8 X (f v u) Q X.xe G) X.xe N) X.xe s:=by
 refine bi (M aa s Y H _ I h) λv o ⟨x,C,q,p,z⟩=>?_;refine bi (w aa o Y C _ q z) λu O ⟨y,U,A,j,k⟩=>?_;exact T v u O x y U A p j k
def qAe (i:Aj):TE:=λY H Q=>∃ v,Y[i]? = Aa (Aa v)/\Q v H
def tC (v:V):TE:=λ_ H Q=>Q v H
def dJ {i:Aj}(B:X.N[i]? = Aa x)(hv:qi X.env.scope x)(G:(x == ("__debug__" : Ah))=false:=by decide)(N:(x == ("__classdict__" : Ah))=false:=by decide):PE X (.Name x L) (qAe i):=by
 intro aa s Y H Q I h;obtain⟨v,e,h⟩:=h;obtain⟨m,C,A⟩:=I.loc;obtain⟨u,r,l⟩:=A i x v B e hv;have U:EP X aa Y Q u s:=⟨v,H,I,r,h⟩;rcases l with⟨hk,T⟩|⟨hk,c,O,J⟩
 .exact wpAny_Name (wpAny_loadName_local I.ok.kind hk C T U) G
 .rcases hk with hk|hk
  .exact wpAny_Name (wpAny_loadName_cell I.ok.kind hk O J U) G
  .exact wpAny_Name (wpAny_loadName_free I.ok.kind hk O J U N) G
def OP:PE X (.Constant (.int i) j ai) (tC (.int i)):=λ_ _ _ H _ I h=>wpAny_Constant_int ⟨.int i,H,I.tok _,⟨_,Z⟩,h⟩
def qBk:PE X (.Constant (.bool b) j ai) (tC (.bl b)):=λ_ _ _ H _ I h=>Constant_bool ⟨.bl b,H,I,Z,h⟩
def OQ:PE X (.Constant .none j ai) (tC .non):=λ_ _ _ H _ I h=>Constant_none ⟨.non,H,I,Z,h⟩
def OS:PE X (.Constant (.str x) j ai) (tC (.str x)):=λ_ _ _ H _ I h=>Qj ⟨.str x,H,I.tok _,⟨_,Z⟩,h⟩
def Gl (X:Cx)(x:Ah):Prop:=X.env.kindOf x=Aa .globalImplicit
def y8 {G:Ea}(I:Inv X aa Y H s)(J:Gl X x)(hm:X.mg x=Aa u)(h:Q u s)
  (U:(x == ("__debug__" : Ah))=false:=by decide):a8 X (eval (.Name x G) X.env) Q E s:=
 Qq I.ok.kind J (Calls.loadGlobal_global (by rw[I.ok.glob];exact I.mod.glob.keeps I.bk) hm h) U
def uZ {C:Ea}(I:Inv X aa Y H s)(U:Gl X x)(hm:X.mg x=Zw)(hv:Gi x=Aa u)(h:Q u s)
  (J:x ≠ "__name__":=by decide) (N:(x == ("__debug__" : Ah))=false:=by decide):a8 X (eval (.Name x C) X.env) Q E s:=by
 obtain⟨B,G,O⟩:=I.mod.blt;exact Qq I.ok.kind U (Calls.loadGlobal_builtin (by rw[I.ok.glob];exact I.mod.glob.keeps I.bk) hm (by rw[I.ok.blt];exact G.keeps I.bk) ((O x J).trans hv) h) N
def R7 (J:Gl X x)(hm:X.mg x=Aa u)(r:qT v u)(Y:(x == ("__debug__" : Ah))=false:=by decide):PE X (.Name x U) (tC v):=
 λ_ _ _ H _ I h=>y8 I J hm ⟨v,H,I,r,h⟩ Y
def R6 (J:Gl X x)(hm:X.mg x=Zw)(hv:Gi x=Aa u)(r:qT v u)(Y:x ≠ "__name__":=by decide)(U:(x == ("__debug__" : Ah))=false:=by decide):PE X (.Name x G) (tC v):=
 λ_ _ _ H _ I h=>uZ I J hm hv ⟨v,H,I,r,h⟩ Y U
variable {a:Bl}{ai:Ea}
variable {tA:TT}
def RK (J:PT X a tA):PW X (.BoolOp .And [a] ai) tA:=by
 intro G aa s Y H Q I h;refine isTrue_and (bi (J aa s Y H Q I h) λc U e=>?_);cases c with
 |true=>exact isTrue_and_nil e
 |false=>exact e
def qAF (J:PT X a tA):PW X (.BoolOp .Or [a] ai) tA:=by
 intro G aa s Y H Q I h;refine isTrue_or (bi (J aa s Y H Q I h) λc U e=>?_);cases c with
 |false=>exact isTrue_or_nil e
 |true=>exact e
def OR (h:PE X a t):PE X (.BoolOp op [a] ai) t:=λaa s Y H Q I J=>BoolOp_one (h aa s Y H Q I J)
end
end _L
namespace _L
variable {es:Ab Bl}{K:Ag}{P:Ba}{tg:Bl}{w:Bu}
def kr (K:Ag)(H:Hp)(a:Af)(xs:Ab V):Prop:=
 Rd H a (.lst xs) \/
  ∃ (o:Ce) (Q:Bs Ac) (n:Aj),K.lookup a=Aa o/\o.cls=.type "list" /\ o.dict=Zw/\o.data=.seq Q n/\Q.size<=sizeLine/\qQ xs Q.toList
def ke (K:Ag)(H:Hp)(a:Af)(xs:Ab V):Prop:=
 Rd H a (.tup xs) \/
  ∃ (o:Ce) (Q:Bs Ac) (n:Aj),K.lookup a=Aa o/\o.cls=.type "tuple" /\ o.data=.seq Q n/\Q.size<=sizeLine/\qQ xs Q.toList
noncomputable def qCD:Ac->Al V
 |.none=>Aa .non
 |.bool b=>Aa (.bl b)
 |.int i _=>Aa (.int i)
 |.str x _=>Aa (.str x)
 |.bytes b _=>Aa (.byt b)
 |.float b _=>Aa (.flt b)
 |.ref a=>Aa (.ref a)
 |.type n=>Aa (.ty n)
 |_=>Zw
def qT.abs (r:qT x u):qCD u=Aa x:=by
 cases x with
 |non=>cases r;rfl
 |bl _=>cases r;rfl
 |int _=>obtain⟨t,rfl⟩:=r;rfl
 |str _=>obtain⟨t,rfl⟩:=r;rfl
 |byt _=>obtain⟨t,rfl⟩:=r;rfl
 |flt _=>obtain⟨t,rfl⟩:=r;rfl
 |ref _=>cases r;rfl
 |ty _=>cases r;rfl
def qT.inj (r:qT x u)(q:qT y u):x=y:=Cw (r.abs.symm.trans q.abs)
theorem qQ.inj (h:qQ xs us)(k:qQ ys us):xs=ys:=by
 induction h generalizing ys with
 |nil=>cases k;rfl
 |cons r t Q =>
  cases k with
  |cons Y J=>rw[r.inj Y,Q J]
section
variable {X:Cx}{aa:J0}{Y: St}{H:Hp}{s:Ai}{a:Af}{xs ys:Ab V}
def kr.of (h:H a=Aa (.lst xs)):kr K H a xs:=.inl (.inl h)
def ke.of (h:H a=Aa (.tup xs)):ke K H a xs:=.inl (.inl h)
def Inv.list (I:Inv X aa Y H s)(h:kr X.K H a xs):∃ ah:Ab Ac,qQ xs ah/\PlainL s.heap a ah.toArray/\xs.length<=sizeLine:=by
 rcases h with h|⟨o,ah,n,Q,G,J,U,N,r⟩
 .obtain⟨z,ah,n,r,e⟩:=h.ok I.hok;exact⟨ah,r,⟨_,n,e,Z,Z,Z⟩,z⟩
 .refine⟨ah.toList,r,⟨o,n,I.kIn a o Q,G,J,by simpa using U⟩,?_⟩;have e:=r.length;simp only[Dp] at e;lia
def Inv.tuple (I:Inv X aa Y H s)(h:ke X.K H a xs):∃ ah:Ab Ac,qQ xs ah/\Tc s.heap a ah.toArray/\xs.length<=sizeLine:=by
 rcases h with h|⟨o,ah,n,Q,U,J,G,r⟩
 .obtain⟨z,ah,r,p⟩:=h.ok I.hok;exact⟨ah,r,p,z⟩
 .refine⟨ah.toList,r,⟨o,I.kIn a o Q,U,n,by simpa using J⟩,?_⟩;have e:=r.length;simp only[Dp] at e;lia
def Inv.list_inj (I:Inv X aa Y H s)(h:kr X.K H a xs)(h':kr X.K H a ys):xs=ys:=by
 obtain⟨U,r,⟨o,n,e,_,_,d⟩,_⟩:=I.list h;obtain⟨N,G,⟨O,C,J,_,_,Q⟩,_⟩:=I.list h';rw[e] at J;cases J;rw[d] at Q;injection Q with d1 _
 have:U=N:=by simpa using congrArg AaK d1
 subst this;exact r.inj G
def Inv.tuple_inj (I:Inv X aa Y H s)(h:ke X.K H a xs)(h':ke X.K H a ys):xs=ys:=by
 obtain⟨U,r,⟨o,e,_,n,d⟩,_⟩:=I.tuple h;obtain⟨N,G,⟨O,J,_,C,Q⟩,_⟩:=I.tuple h';rw[e] at J;cases J;rw[d] at Q;injection Q with d1 _
 have:U=N:=by simpa using congrArg AaK d1
 subst this;exact r.inj G
end
section
variable {X:Cx}{st:Du}{aw:Ab Du}{t u:TS}
def qBy:TS:=λD Y H=>D.nx Y H
def qAd (t u:TS):TS:=λD Y H=>t { D with nx:=u D } Y H
def XN:jq X [] qBy:=λ_ _ Y H _ I h=>Ml ⟨Y,H,I,h⟩
def oW (C:PS X st t)(J:jq X aw u):jq X (st::aw) (qAd t u):=by
 intro Q s Y H D I h;refine Yw (bi (C Q s Y H { D with nx:=u D } I h) λf U q=>?_);cases f with
 |next =>
  obtain⟨G,N,O,q⟩:=q;exact J Q U G N D O q
 |ret v=>exact q
 |brk=>exact q
 |cont=>exact q
def RH (J:PS X st t):jq X [st] t:=by
 intro Q s Y H D I h;refine Yw (bi (J Q s Y H D I h) λf U q=>?_);cases f with
 |next=>exact Ml q
 |ret v=>exact q
 |brk=>exact q
 |cont=>exact q
def Inv.quiet (I:Inv X aa Y H s):interactive X.env=false:=by simp[interactive,I.ok.kind]
end
abbrev TG:=V->St->Hp->(St->Hp->Prop)->Prop
abbrev xm:=Ab V->St->Hp->(St->Hp->Prop)->Prop
def PG (X:Cx)(J:Bl)(t:TG):Prop:=
 ∀ (G:J0) (s:Ai) (Y : St) (H:Hp) (v:V) (u:Ac) (Q:St->Hp->Prop),Inv X G Y H s->qT v u->t v Y H Q ->
  a8 X (assign J X.env u) (λ_ O=>∃ U N,Inv X G U N O/\Q U N) X.xe s
def wk (X:Cx)(C:Ab Bl)(t:xm):Prop:=
 ∀ (J:J0) (s:Ai) (Y : St) (H:Hp) (U:Ab V) (N:Y0) (Q:St->Hp->Prop),Inv X J Y H s->qQ U N->t U Y H Q ->
  a8 X (Od ((Gp C X.env).map (·.2)) N) (λ_ B=>∃ O G,Inv X J O G B/\Q O G) X.xe s
abbrev EW:=V->V->V->Hp->(Hp->Prop)->Prop
def aS (X:Cx)(t:EW):Prop:=
 ∀ (J:J0) (s:Ai) (Y : St) (H:Hp) (o i v:V) (N U u:Ac) (Q:Hp->Prop),Inv X J Y H s->qT o N->qT i U->qT v u->t o i v H Q ->
  a8 X (setItem N U u) (λ_ O=>∃ G,Inv X J Y G O/\Q G) X.xe s
section
variable {X:Cx}{ai:Ea}
def qA8 (i:Aj):TG:=λv Y H Q=>Q (Y.set i (Aa v)) H
def R9 {i:Aj}(U:X.N.Nodup)(O:X.N[i]? = Aa x)(G:Loc X.env.scope x)(J:X.fn x=Vp\/X.env.scope.names.lookup x=Aa .local:=by first|exact .inl rfl|exact .inr rfl|assumption):PG X (.Name x ai) (qA8 i):=by intro C s Y H v u Q I r h;exact Xq (yU I U O G r (λB N=>⟨_,H,N,h⟩) J)
def qCN:xm:=λJ Y H Q=>J=[]/\Q Y H
def qA7 (t:TG)(u:xm):xm:=λJ Y H Q=>∃ v r,J=v::r/\t v Y H λG U=>u r G U Q
def RA:wk X [] qCN:=by intro J s Y H U G Q I r h;obtain⟨e,h⟩:=h;subst e;cases r;exact Qy ⟨Y,H,I,h⟩
def FD (C:PG X e t)(U:wk X es u)
  (hs:(Gp (e::es) X.env).map (·.2)=assign e X.env::(Gp es X.env).map (·.2):=by rfl):wk X (e::es) (qA7 t u):=by
 intro J s Y H A z Q I r h;obtain⟨v,M,B,h⟩:=h;subst B;cases r with
 |cons r G =>
  rw[hs];refine Iq (bi (C J s Y H _ _ _ I r h) λ_ T ⟨O,E,L,N⟩=>?_);exact U J T O E _ _ Q L G N
def qCO (K:Ag)(n:Aj)(t:xm):TG:=λv Y H Q=>∃ a J,v=.ref a/\ke K H a J/\J.length=n/\t J Y H Q
def OU {k:Aj}{n:Aj}(E:X.calm=Vp)(h:wk X es t)
  (C:(Gp es X.env).length=n:=by rfl) (J:(Gp es X.env).findIdx? (·.1)=none:=by rfl):PG X (.Tuple es k ai) (qCO X.K n t):=by
 intro G s Y H v u Q I r U;obtain⟨a,L,M,B,j,U⟩:=U;subst M;cases r;obtain⟨q,N,A,y⟩:=I.tuple B;refine assign_Tuple_tuple (I.ok.hd E) A (by simp[C,<- j,N.length]) J λO T=>?_;have z:Inv X G Y H { s with heap:=O }:=I.kept (t':=s.toks) λb o e=>T b o (Cm (Bh e)) e;exact h G _ Y H L _ Q z (by simpa using N) U
def qC8 (i j:Aj)(U:TA):TS:=λD Y H=>U Y H λQ J=>∃ v w,Q=[v,w]/\D.nx ((Y.set i (Aa v)).set j (Aa w)) J
def OZ {i j:Aj}{a b:Bl}{u:TA}{G N L:Ea}{kt k2 pt2}(c:X.calm=Vp) (z:X.N.Nodup) (d:X.N[i]? = Aa x) (n:X.N[j]? = Aa y) (B:i≠j)
  (k:X.env.scope.names.lookup x=Aa .local) (A:X.env.scope.names.lookup y=Aa .local) (g:PA X [a,b] u)
  (hw:Ic [.Tuple [.Name x G,.Name y N] kt L] (.Tuple [a,b] k2 pt2) X.env=pure (Aa [x,y]))
  (hs:Ie [.Tuple [.Name x G,.Name y N] kt L] (.Tuple [a,b] k2 pt2) ai.line X.env=pure false:=by rfl) :
  PS X (.Assign [.Tuple [.Name x G,.Name y N] kt L] (.Tuple [a,b] k2 pt2) ai) (qC8 i j u):=by
 intro l s Y H D I h;rw[Zy];refine Ad (Ig ?_);rw[hs];refine Ad (An ?_);rw[AT aC];refine Ad (Tuple_ (bi (g _ l s Y H _ I h) λt J ⟨vs,E,I1,r1,C⟩=>?_));obtain⟨v,w,e1,C⟩:=C;subst e1;obtain⟨Q,U,rfl,rv,T⟩:∃ Q U,t=[Q,U]/\qT v Q/\qT w U:=by
  cases r1 with
  |cons p q =>
   cases q with
   |cons p' f =>
    cases f;exact⟨_,_,rfl,p,p'⟩
 refine Dj ?_ (by show 2<=sizeLine;decide);have r:Inv X l Y E { J with heap:=J.heap.push { cls:=.type "tuple",data:=.seq [Q,U].toArray } }:=I1.kept (t':=J.toks) λb o e=>Ak _ e;rw[hw];refine Ad (An ?_);show a8 X (do rule "assign.swapped-stores";let items <- unpackItems (.ref J.heap.objs.size) 2 Zw;Od [λv=>Lp X.env y v,λv=>Lp X.env x v] items.reverse;pure Xr) _ _ _;refine Ad (KT (Ad (Xs (items:=#[Q,U]) (I.ok.hd c) (Ul J.heap _) λh' O=>?_)));have m:=r.kept (h':=h') (t':=J.toks) λb o e=>O b o (Cm (Bh e)) e;show Ap _ _ (Od [λv=>Lp X.env y v,λv=>Lp X.env x v] [U,Q] >>= λ_=>pure Xr) _ _ _;refine Ad (Iq (No (yU m z n (.inl A) T (λs2 I4=>?_) (.inr A))));refine Iq (No (yU I4 z d (.inl k) rv (λs3 M=>Qy (An ?_)) (.inr k)));rw[Qz _ _ (Dm B)] at M;exact⟨_,E,M,C⟩
end
section
variable {X:Cx}{ai:Ea}
def qAf (c:TT)(O:TS):TS:=λD Y H=>∃ W:Aj->St->Hp->Prop,(∃ m,W m Y H)/\∀ m Y H,W m Y H ->
 c Y H λb G=>if b=Vp then ∃ N:St->Hp->Prop,(∀ J U,N J U->∃ Q,Q<m/\W Q J U)/\O { D with nx:=N,ct:=N,bk:=D.nx } Y G else D.nx Y G
def FG (hp:Ox (As X.prog X.w) X.A X.env X.xe)(g:PT X c j)(t:jq X u y):PS X (.While c u [] ai) (qAf j y):=by
 intro E s Y H D I h;obtain⟨W,⟨a,x⟩,U⟩:=h;refine wpAny_While (codeAny_whileLoop (λn m=>∃ o p,Inv X E o p m/\W n o p) ?_ a ⟨Y,H,I,x⟩);rintro n d ⟨C,z,i,e⟩;refine Jg hp (bi (g E d C z _ i (U n C z e)) λb r ⟨l,k,G⟩=>?_);cases b with
 |true =>
  obtain⟨N,q,G⟩:=G;rw[Au rfl];refine Jg hp (bi (t E r C l _ k G) λf s3 O=>?_);cases f with
  |next =>
   obtain⟨Q,J,T,A⟩:=O;obtain⟨L,M,B⟩:=q Q J A;exact⟨L,M,Q,J,T,B⟩
  |cont =>
   obtain⟨Q,J,T,A⟩:=O;obtain⟨L,M,B⟩:=q Q J A;exact⟨L,M,Q,J,T,B⟩
  |brk=>exact O
  |ret v=>exact O
 |false =>
  rw[AT Es];exact Ml ⟨C,l,k,G⟩
end
structure It where
 go:Aj->Hp->Prop
 yld:Aj->Hp->V->Hp->Prop
 stop:Aj->Hp->Prop
def xO (X:Cx)(aa:J0)(H:Hp)(b:Af):Prop:=
 H b=Zw/\b≠X.env.locals/\b ∉ X.fs/\(b∈X.ex\/X.s₀.heap.objs.size<=b)/\(∀ x c,X.env.cells.lookup x=Aa c->c≠b)/\∀ p∈X.pn++aa,p.1≠b
def Inv.fpOk {X:Cx}{H H':Hp}{b:Af}(I:Inv X aa Y H s)(Q:s.heap.objs.size<=b)(J:H' b=Zw):xO X aa H' b:=by
 refine⟨J,Hl (Bq I.lt Q),I.nofs Q,.inr (Ca I.sz Q),λx c e z=>?_,λp U z=>?_⟩;obtain⟨v,q⟩:=I.cell x c e;exact absurd (Bq q.lt (by rw[z];exact Q)) (Fg _);exact absurd (Bq (Bh (I.pin p U).1) (by rw[z];exact Q)) (Fg _)
structure oh (P:Ba)(w:Bu)(K:Ag)(tg:Bl)(Jww:It)(fp:J9)(it:Af)(tn:Aj->Bc->Prop):Prop where
 mem:it∈fp
 obj:∀ i h,tn i h->∀ b∈fp,∃ o,h.get? b=Aa o/\∀ v,o.data≠.cell v
 keep:∀ i h h',tn i h->(∀ b∈fp,∀ o,h.get? b=Aa o->h'.get? b=Aa o)->tn i h'
 item:∀ (X:Cx),X.prog=P->X.w=w->X.K=K->X.calm=Vp->∀ (i:Aj) (pins:J0) (s:Ai) (Y : St) (H:Hp) (E:J7),Inv X pins Y H s->(∀ b∈fp,xO X pins H b)->tn i s.heap->Jww.go i H ->
  Ap (As P w) X.A (Pi (.ref it)) (λr s1=>∃ u,r=Aa u /\
   Ap (As P w) X.A (Kn tg (.ref it) u) (λ_ s2=>∃ x H',Inv X pins Y H' s2/\qT x u/\Jww.yld i H x H'/\tn (i+1) s2.heap/\∀ b∈fp,H' b=Zw) E s1) E s
 done:∀ (X:Cx),X.prog=P->X.w=w->X.K=K->X.calm=Vp->∀ (i:Aj) (pins:J0) (s:Ai) (Y : St) (H:Hp) (E:J7),Inv X pins Y H s->(∀ b∈fp,xO X pins H b)->tn i s.heap->Jww.stop i H ->
  Ap (As P w) X.A (Pi (.ref it)) (λr s1=>r=Zw/\Inv X pins Y H s1) E s
 self:∀ (A:Bp) (i:Aj) (s:Ai) (Q:J7) (E:J7),tn i s.heap->Q (.ref it) s->Ap (As P w) A (Pj (.ref it)) Q E s
abbrev TI:=St->Hp->(It->Hp->Prop)->Prop
inductive yf (X:Cx)(pins:J0)(Y : St)(tg:Bl)(R:It->Hp->Prop)(itv:Ac)(s2:Ai):Prop
 |mk (it:Af) (fp:J9) (tn:Aj->Bc->Prop) (Jww:It) (H':Hp) (e:itv=.ref it) (I:Inv X pins Y H' s2) (t:oh X.prog X.w X.K tg Jww fp it tn) (z:tn 0 s2.heap) (f:∀ b∈fp,xO X pins H' b) (q:R Jww H'):yf X pins Y tg R itv s2
def PI (X:Cx)(tg iter:Bl)(U:TI):Prop:=
 ∀ (Q:J0) (s:Ai) (Y : St) (H:Hp) (R:It->Hp->Prop),Inv X Q Y H s->U Y H R ->
  a8 X (eval iter X.env) (λv J=>a8 X (Pj v) (yf X Q Y tg R) X.xe J) X.xe s
def a9 {M:Nq}{A:Bp}{E:J7}{s:Ai}{it:Af}{u:Ac}{Q:Nx->Ai->Prop}(U:s.heap.get? it=Aa o)(J:o.cls=.type n)(N:o.data=.fields vs)
    (G:["enumerate","zip","dict_itemiterator","dict_reverseitemiterator","odict_iterator","itertools.zip_longest","itertools.pairwise"].contains n=Yp) (Y:Q () s):Ap M A (Kn tg (.ref it) u) Q E s:=by
  unfold Kn;cases tg <;> first
    |exact An Y
    |(cases u <;> first
        |exact An Y
        | (refine Ad (wpAny_load U ?_)
           rw[J,N];show Ap M A (if (["enumerate","zip","dict_itemiterator","dict_reverseitemiterator","odict_iterator","itertools.zip_longest","itertools.pairwise"].contains n&&vs[0]? == Aa (Ju _))=Vp then _ else _) Q E s;rw[AT (by intro h;rw[G,Gv] at h;cases h)];exact An Y))
def _O (K:Ag)(a:Af):It:=
 ⟨λi H=>∃ Q x,kr K H a Q/\Q[i]? = Aa x,λi H x Y=>Y=H/\∀ Q,kr K H a Q->Q[i]? = Aa x,λi H=>∃ Q,kr K H a Q/\Q.length<=i⟩
def Itt (K:Ag)(a:Af):It:=
 ⟨λi H=>∃ Q x,ke K H a Q/\Q[i]? = Aa x,λi H x Y=>Y=H/\∀ Q,ke K H a Q->Q[i]? = Aa x,λi H=>∃ Q,ke K H a Q/\Q.length<=i⟩
def B_ (lo:Aq)(n:Aj):It:=⟨λi _=>i<n,λi H x Q=>Q=H/\x=.int (lo+i),λi _=>n<=i⟩
theorem cP (a it:Af):oh P w K tg (_O K a) [it] it (λi h=>h.IsListIter it a i) where
 mem:=by simp
 obj:=λi h st b Q=>by
  have e:b=it:=by simpa using Q
  subst e;obtain⟨o,e,c,d⟩:=st;exact⟨o,e,λv z=>by rw[d] at z;cases z⟩
 keep:=λi h U st k=>st.at λo e=>k it aA o e
 item:=by intro X l q C g i f s Y H E I N st y;subst l q C;obtain⟨xs,x,G,O⟩:=y;obtain⟨m,j,p,r⟩:=I.list G;obtain⟨u,n,ru⟩:=j.get O;obtain⟨L,B,t,A,M,T⟩:=N it aA;refine wpAny_pyNext_list_item st p.isList (x:=u) (by simpa using n) λU J sb=>?_;have I1:Inv X f Y H { s with heap:=U }:=I.turned (t':=s.toks) (λb o Q e=>(sb.2 b Q).trans e) L B A M T;obtain⟨o,e,c,d⟩:=id J;exact⟨u,rfl,a9 (s:={ s with heap:=U }) e c d aC ⟨x,H,I1,ru,⟨rfl,λys hy=>by rw[I.list_inj hy G];exact O⟩,J,λb Q=>(N b Q).1⟩⟩
 done:=by intro X l q C g i f s Y H E I N st y;subst l q C;obtain⟨xs,G,O⟩:=y;obtain⟨m,j,p,r⟩:=I.list G;obtain⟨L,B,t,A,M,T⟩:=N it aA;have hl:=j.length;exact wpAny_pyNext_list_end (I.ok.hd g) st p.isList (by simp;lia) λU eb=>⟨Z,I.turned (t':=s.toks) (λb o Q e=>eb b o Q e) L B A M T⟩
 self:=λ_ _ _ _ _ st h=>wpAny_pyIter_listiter st h
theorem VJ (a it:Af):oh P w K tg (Itt K a) [it] it (λi h=>h.IsTupleIter it a i) where
 mem:=by simp
 obj:=λi h st b Q=>by
  have e:b=it:=by simpa using Q
  subst e;obtain⟨o,e,c,d⟩:=st;exact⟨o,e,λv z=>by rw[d] at z;cases z⟩
 keep:=λi h U st k=>st.at λo e=>k it aA o e
 item:=by intro X g l C f i r s Y H E I N st q;subst g l C;obtain⟨xs,x,G,O⟩:=q;obtain⟨B,y,p,t⟩:=I.tuple G;obtain⟨u,n,ru⟩:=y.get O;obtain⟨T,L,m,M,j,A⟩:=N it aA;refine wpAny_pyNext_tuple_item st (show s.heap.IsTuple a B.toArray from p) (x:=u) (by simpa using n) λU J sb=>?_;have I1:Inv X r Y H { s with heap:=U }:=I.turned (t':=s.toks) (λb o Q e=>(sb.2 b Q).trans e) T L M j A;obtain⟨o,e,c,d⟩:=id J;exact⟨u,rfl,a9 (s:={ s with heap:=U }) e c d aC ⟨x,H,I1,ru,⟨rfl,λys hy=>by rw[I.tuple_inj hy G];exact O⟩,J,λb Q=>(N b Q).1⟩⟩
 done:=by intro X g l C f i r s Y H E I N st q;subst g l C;obtain⟨xs,G,O⟩:=q;obtain⟨B,y,p,t⟩:=I.tuple G;obtain⟨T,L,m,M,j,A⟩:=N it aA;have hl:=y.length;exact wpAny_pyNext_tuple_end (I.ok.hd f) st (show s.heap.IsTuple a B.toArray from p) (by simp;lia) λU eb=>⟨Z,I.turned (t':=s.toks) (λb o Q e=>eb b o Q e) T L M j A⟩
 self:=λ_ _ _ _ _ st h=>wpAny_pyIter_tupleiter st h
def VI (it:Af)(lo:Aq)(n:Aj):oh P w K tg (B_ lo n) [it] it (λi h=>IsRangeIter h it (lo+(i:Aj)*1) ((n:Aq)-(i:Aj)) 1) where
 mem:=by simp
 obj:=λi h st b Q=>by
  have e:b=it:=by simpa using Q
  subst e;exact⟨_,st,λv z=>by
   have d:Data.fields _=Data.cell v:=z;cases d⟩
 keep:=λi h U st k=>k it aA _ st
 item:=by intro X y j O N i q s Y H E I G st M;subst y j O;obtain⟨B,C,p,A,T,L⟩:=G it aA;have W:=Walks.range (prog:=X.prog) (w:=X.w) (I.ok.hd N) it lo 1 n;refine W.item i s _ _ M st λv U u hv J c=>?_;obtain⟨t,rfl⟩:=hv;have l:Inv X q Y H { s with heap:=U,toks:=u }:=I.turned (λb o Q e=>c b o (by simpa using Q) e) B C A T L;refine⟨_,Z,a9 (s:={ s with heap:=U,toks:=u }) (n:="range_iterator") J Z Z aC ⟨.int (lo+i),H,l,⟨t,?_⟩,⟨Z,Z⟩,J,λb Q=>(G b Q).1⟩⟩;rw[Int.mul_one]
 done:=by intro X y j O N i q s Y H E I G st M;subst y j O;obtain⟨B,C,p,A,T,L⟩:=G it aA;exact wpAny_pyNext_range_end (I.ok.hd N) st (by have:n<=i:=M;lia) λU g=>⟨Z,I.turned (t':=s.toks) (λb o Q e=>g b o Q e) B C A T L⟩
 self:=λ_ _ _ _ _ st h=>wpAny_pyIter_rangeiter st h
end _L
namespace _L
variable {aa:J0}{fp:J9}{s:Ai}{H:Hp}{Y:St}
section
variable {X:Cx}{tg:Bl}
def oZ {R:It->Hp->Prop}{E:J7}{lo Q:Aq}{t u v:Mx}{J:Aj}(I:Inv X aa Y H s)(T : -(2 ^ 62)<=lo)(N:lo<2 ^ 62)(G : -(2 ^ 62)<=Q)(C:Q<2 ^ 62)
  (q:R (B_ lo (Q-lo).toNat) H):a8 X (Pj (.ref s.heap.objs.size)) (yf X aa Y tg R) E { s with heap:=s.heap.push { cls:=.type "range",data:=.fields #[.int lo t,.int Q u,.int 1 v] },toks:=J }:=by
 refine wpAny_pyIter_range (IsRange.new ..) (small_one T N G C) ?_;have U:Inv X aa Y H { s with heap:=s.heap.push { cls:=.type "range",data:=.fields #[.int lo t,.int Q u,.int 1 v] },toks:=J }:=I.kept λb o e=>Ak _ e;refine⟨(s.heap.push { cls:=.type "range",data:=.fields #[.int lo t,.int Q u,.int 1 v] }).objs.size,[(s.heap.push { cls:=.type "range",data:=.fields #[.int lo t,.int Q u,.int 1 v] }).objs.size],_,_,H,Z,
  U.kept (t':=J) λb o e=>Ak _ e,VI _ lo (Q-lo).toNat,?_,λb L=>?_,q⟩
 .have O:lo+((0:Aj):Aq)*1=lo:=by simp
  have B:(((Q-lo).toNat:Aj):Aq)-((0:Aj):Aq)=Builtin.Range.rangeSize lo Q 1:=by rw[rangeSize_one];split <;> lia
  show IsRangeIter _ _ (lo+((0:Aj):Aq)*1) ((((Q-lo).toNat:Aj):Aq)-((0:Aj):Aq)) 1;rw[O,B];exact Bf _ Z
 .have e:b=(s.heap.push { cls:=.type "range",data:=.fields #[.int lo t,.int Q u,.int 1 v] }).objs.size:=by simpa using L
  subst e;exact U.fpOk (Ay _) (U.hok.fresh (Ay _))
def qC5 (T:TI)(g:TG)(C:TS):TS:=λD Y H=>T Y H λJ O=>∃ W:Aj->Aj->St->Hp->Prop,(∃ m,W 0 m Y O)/\∀ i m Y H,W i m Y H ->
 (J.stop i H/\D.nx Y H)\/(J.go i H/\∃ N:St->Hp->Prop,(∀ U Q,N U Q->∃ G,G<m/\W (i+1) G U Q)/\∀ x Q,J.yld i H x Q->g x Y Q λB L=>C { D with nx:=N,ct:=N,bk:=D.nx } B L)
def vG (fp:J9)(h:Bc):Ab (Af × Ce):=fp.filterMap λb=>(h.get? b).map λo=>(b,o)
def jN {h:Bc}{b:Af}(Q:b∈fp)(e:h.get? b=Aa o):(b,o)∈vG fp h:=Ir.mpr ⟨b,Q,by rw[e];rfl⟩
def c8 {p:Af × Ce}(hp:p∈vG fp h):p.1∈fp/\h.get? p.1=Aa p.2:=by
 obtain⟨b,Q,e⟩:=Ir.mp hp;cases q:h.get? b with
 |none=>rw[q] at e;cases e
 |some o =>
  rw[q] at e;have J:(b,o)=p:=Cw e;subst J;exact⟨Q,q⟩
def Inv.pinned (I:Inv X aa Y H s)(U:∀ b∈fp,xO X aa H b)(G:∀ b∈fp,∃ o,s.heap.get? b=Aa o/\∀ v,o.data≠.cell v):Inv X (aa++vG fp s.heap) Y H s:=
 I.pins_of λp N=>(Ch.mp N).elim (λz=>I.pin p (Cb _ z)) λz=>by obtain⟨Q,e⟩:=c8 z;obtain⟨B,C,O,_⟩:=U p.1 Q;obtain⟨o,J,d⟩:=G p.1 Q;rw[e] at J;cases J;exact⟨e,B,C,O,d⟩
def Inv.unpinned {pl:J0}(I:Inv X (aa++pl) Y H s):Inv X aa Y H s:=I.pins_of λp Q=>I.pin p (Cb _ (Dh _ Q))
inductive yk (X:Cx)(pins:J0)(fp:J9)(tn:Aj->Bc->Prop)(W:Aj->Aj->St->Hp->Prop)(n:Aj)(s':Ai):Prop
 |mk (i:Aj) (Y' : St) (H':Hp) (I:Inv X pins Y' H' s') (t:tn i s'.heap) (f:∀ b∈fp,H' b=Zw) (w:W i n Y' H'):yk X pins fp tn W n s'
def OY {ai:Ea}(hp:Ox (As X.prog X.w) X.A X.env X.xe)(hc:X.calm=Vp)(hi:PI X tg iter wi)(hg:PG X tg g)(J:jq X cu tb)
  (hs:∀ x,Gy iter X.env x=pure x:=by intro _;rfl):PS X (.For tg iter cu [] ai) (qC5 wi g tb):=by
 intro aa s Y H D I h;refine wpAny_For (bi (hi aa s Y H _ I h) λv s1 h1=>bi h1 λzc s2 h2=>?_) hs;obtain⟨it,fp,l,cg,H2,e,I2,T,k,t,W,⟨m0,w0⟩,M⟩:=h2;subst e;have Q:∀ {H':Hp},(∀ b∈fp,H' b=Zw)->∀ b∈fp,xO X aa H' b:=λhn b J=>⟨hn b J,(t b J).2⟩;refine codeAny_forLoop_any (yk X aa fp l W) ?_ m0 ⟨0,Y,H2,I2,k,λb J=>(t b J).1,w0⟩;rintro n s3 ⟨i,L,j,I3,z,E,w3⟩;rcases M i n L j w3 with⟨A,qn⟩|⟨go,N,hN,step⟩
 .refine Jg hp (bi (T.done X Z Z Z hc i aa s3 L j X.xe I3 (Q E) z A) λr s4 ⟨q,I4⟩=>?_);subst q;exact Ml ⟨L,j,I4,qn⟩
 .refine Jg hp (bi (T.item X Z Z Z hc i aa s3 L j X.xe I3 (Q E) z go) λr s4 ⟨u,q,h4⟩=>?_);subst q;refine Jg hp (bi h4 λ_ c ⟨x,H5,I5,r5,y5,B,p⟩=>?_);have y:=I5.pinned (Q p) (T.obj _ _ B);refine Jg hp (bi (hg _ c L H5 x u _ y r5 (step x H5 y5)) λ_ s6 ⟨Y6,H6,I6,q6⟩=>?_);refine Jg hp (bi (J _ s6 Y6 H6 _ I6 q6) λf a C=>?_);have again:∀ {U:St} {G:Hp},Inv X (aa++vG fp c.heap) U G a->N U G->∃ m,m<n/\yk X aa fp l W m a:=λ{U G} O w=>by
   obtain⟨m',hm,w7⟩:=hN U G w;refine⟨m',hm,i+1,U,G,O.unpinned,T.keep _ _ _ B λb J o e=>(O.pin (b,o) (Cb _ (Cb _ (jN J e)))).1,λb J=>?_,w7⟩;obtain⟨o,e,d⟩:=T.obj _ _ B b J;exact(O.pin (b,o) (Cb _ (Cb _ (jN J e)))).2.1
  cases f with
  |next=>obtain⟨U,G,O,w⟩:=C;exact again O w
  |cont=>obtain⟨U,G,O,w⟩:=C;exact again O w
  |brk=>obtain⟨U,G,O,C⟩:=C;exact⟨U,G,O.unpinned,C⟩
  |ret v=>obtain⟨x7,U,G,O,r7,C⟩:=C;exact⟨x7,U,G,O.unpinned,r7,C⟩
end
end _L
namespace _L
variable {us:Y0}{f:Ac->Ac->Km Ac}{g:Aq->Aq->Aq}
abbrev R2:=V->V->Hp->VK->Prop
def pe (X:Cx)(f:Ac->Ac->Km Ac)(r:R2):Prop:=
 ∀ (J:J0) (s:Ai) (Y : St) (H:Hp) (x y:V) (v u:Ac) (Q:VK),Inv X J Y H s->qT x v->qT y u->r x y H Q ->
  a8 X (f v u) (EP X J Y Q) X.xe s
def UnR (X:Cx)(f:Ac->Km Ac)(r:V->Hp->VK->Prop):Prop:=
 ∀ (J:J0) (s:Ai) (Y : St) (H:Hp) (x:V) (v:Ac) (Q:VK),Inv X J Y H s->qT x v->r x H Q ->
  a8 X (f v) (EP X J Y Q) X.xe s
def lG (X:Cx)(f:Ac)(r:Ab V->Hp->VK->Prop):Prop:=
 ∀ (J:J0) (s:Ai) (Y : St) (H:Hp) (U:Ab V) (us:Y0) (Q:VK),Inv X J Y H s->qQ U us->r U H Q ->
  a8 X (call f us) (EP X J Y Q) X.xe s
def qCC (X:Cx)(r:V->Hp->(Ar->Hp->Prop)->Prop):Prop:=
 ∀ (J:J0) (s:Ai) (Y : St) (H:Hp) (x:V) (v:Ac) (Q:Ar->Hp->Prop),Inv X J Y H s->qT x v->r x H Q ->
  a8 X (truthy v) (TP X J Y Q) X.xe s
def tOp (r:R2)(N J:TE):TE:=λY H Q=>N Y H λx G=>J Y G λy U=>r x y U Q
def rI (C:Aq->Aq->Prop)(g:Aq->Aq->V):R2:=λx y H Q=>∃ i j,x=.int i/\y=.int j/\C i j/\Q (g i j) H
def vz (g:Aq->Aq->V):R2:=λx y H Q=>∃ i j,x=.int i/\y=.int j/\Q (g i j) H
def rU (g:Aq->V):V->Hp->VK->Prop:=λx H Q=>∃ i,x=.int i/\Q (g i) H
section
variable {X:Cx}{a b:Bl}{ta tb:TE}
def qCG (C:PE X a ta)(j:PE X b tb){aa:J0}{s:Ai}{Y : St}{H:Hp}{R:V->V->Hp->Prop}(I:Inv X aa Y H s)
  (h:ta Y H λx O=>tb Y O λy J=>R x y J) {Q:J7} {f:Ac->Ac->Km Ac}
  (w:∀ v u N x y J,Inv X aa Y J N->qT x v->qT y u->R x y J->a8 X (f v u) Q X.xe N) :
  a8 X (eval a X.env) (λv G=>a8 X (eval b X.env) (λu U=>a8 X (f v u) Q X.xe U) X.xe G) X.xe s:=by
 refine bi (C aa s Y H _ I h) λv A ⟨x,O,E,M,L⟩=>?_;refine bi (j aa A Y O _ E L) λu N ⟨y,J,z,B,T⟩=>?_;exact w v u N x y J z M B T
def Q_ {f:Ac->Ac->Km Ac}{C:Aq->Aq->Prop}
  (rule:∀ (i j:Aq) (t u:Mx) (s:Ai) (Q:J7) (E:J7),C i j->Q (.int (g i j) s.toks) { s with toks:=s.toks+1 } -> a8 X (f (.int i t) (.int j u)) Q E s) :
  pe X f (rI C λi j=>.int (g i j)):=by
 intro O s Y H x y v u Q I U N h;obtain⟨i,j,rfl,rfl,J,q⟩:=h;obtain⟨t,rfl⟩:=U;obtain⟨G,rfl⟩:=N;exact rule i j t G s _ _ J ⟨.int (g i j),H,I.tok _,⟨_,rfl⟩,q⟩
def OH {f:Ac->Ac->Km Ac}
  (rule:∀ (i j:Aq) (t u:Mx) (s:Ai) (Q:J7) (E:J7),Q (.int (g i j) s.toks) { s with toks:=s.toks+1 } -> a8 X (f (.int i t) (.int j u)) Q E s) :
  pe X f (vz λi j=>.int (g i j)):=by
 intro N s Y H x y v u Q I J G h;obtain⟨i,j,rfl,rfl,q⟩:=h;obtain⟨t,rfl⟩:=J;obtain⟨U,rfl⟩:=G;exact rule i j t U s _ _ ⟨.int (g i j),H,I.tok _,⟨_,rfl⟩,q⟩
def V0 {g:Aq->Aq->Ar}
  (rule:∀ (i j:Aq) (t u:Mx) (s:Ai) (Q:J7) (E:J7),Q (.bool (g i j)) s->a8 X (f (.int i t) (.int j u)) Q E s) :
  pe X f (vz λi j=>.bl (g i j)):=by
 intro N s Y H x y v u Q I J G h;obtain⟨i,j,rfl,rfl,q⟩:=h;obtain⟨t,rfl⟩:=J;obtain⟨U,rfl⟩:=G;exact rule i j t U s _ _ ⟨.bl (g i j),H,I,rfl,q⟩
def qB6 (i j:Aq):Prop:=0<j/\j<1073741824
def qB7 (i j:Aq):Prop:=0<=j/\j<=1000000/\i.natAbs<2 ^ 64
def GK (i j:Aq):Prop:=(-(2 ^ 64)<i/\i<2 ^ 64)\/(-(2 ^ 64)<j/\j<2 ^ 64)
def GK.ok (h:GK i j):IntMulOk i j:=by
 rcases h with⟨Q,Y⟩|⟨Q,Y⟩
 .exact .of_left (intBits_le_64 Q Y)
 .exact .of_right (intBits_le_64 Q Y)
def OI:pe X (Et .Add) (vz λi j=>.int (i+j)):=OH λ_ _ _ _ _ _ _ q=>add_int q
def ON:pe X (Et .Sub) (vz λi j=>.int (i-j)):=OH λ_ _ _ _ _ _ _ q=>sub_int q
def OL:pe X (Et .Mult) (rI GK λi j=>.int (i*j)):=Q_ λ_ _ _ _ _ _ _ Q q=>mul_int q Q.ok
def SZ:pe X (Et .FloorDiv) (rI qB6 λi j=>.int (i/j)):=Q_ λi j _ _ _ _ _ Q q=>by have Y:(0:Aq)<j:=Q.1;have J:j<1073741824:=Q.2;exact floordiv_int li (by rw[Int.fdiv_eq_ediv_of_nonneg i li];exact q) (.inl (PyProof.noPylong_small li))
def OK:pe X (Et .Mod) (rI (λ_ j=>0<j) λi j=>.int (i % j)):=Q_ λi j _ _ _ _ _ Q q=>by have Y:(0:Aq)<j:=Q;exact mod_int' li (by rw[Int.fmod_eq_emod_of_nonneg i li];exact q)
def OM:pe X (Et .Pow) (rI qB7 λi j=>.int (i ^ j.toNat)):=Q_ λ_ _ _ _ _ _ _ Q q=>pow_int_small Q.1 Q.2.1 Q.2.2 q
def unI {f:Ac->Km Ac}{g:Aq->Aq}
  (rule:∀ (i:Aq) (t:Mx) (s:Ai) (Q:J7) (E:J7),Q (.int (g i) s.toks) { s with toks:=s.toks+1 } -> a8 X (f (.int i t)) Q E s) :
  UnR X f (rU λi=>.int (g i)):=by
 intro U s Y H x v Q I J h;obtain⟨i,rfl,q⟩:=h;obtain⟨t,rfl⟩:=J;exact rule i t s _ _ ⟨.int (g i),H,I.tok _,⟨_,rfl⟩,q⟩
def qAj:UnR X (Yx .USub) (rU λi=>.int (-i)):=unI λ_ _ _ _ _ q=>neg_int q
end
section
variable {X:Cx}{b:Bl}
def AO {Q:VK}{k J:Ar}(I:Inv X aa Y H s)(q:Q (.bl k) H)(e:k=J):EP X aa Y Q (.bool J) s:=by subst e;exact⟨.bl k,H,I,rfl,q⟩
def qBf:pe X (Cs .Lt) (vz λi j=>.bl (decide (i<j))):=V0 λ_ _ _ _ _ _ _ q=>lt_int q
def qBe:pe X (Cs .LtE) (vz λi j=>.bl (decide (i<=j))):=V0 λ_ _ _ _ _ _ _ q=>le_int q
def qBd:pe X (Cs .Gt) (vz λi j=>.bl (decide (j<i))):=V0 λ_ _ _ _ _ _ _ q=>gt_int q
def qBc:pe X (Cs .GtE) (vz λi j=>.bl (decide (j<=i))):=V0 λ_ _ _ _ _ _ _ q=>ge_int q
def OJ:pe X (Cs .Is) (λx y H Q=>y=.non/\Q (.bl (decide (x=.non))) H):=by
 intro G s Y H x y v u Q I J U h;obtain⟨rfl,q⟩:=h;cases U;refine is_none_gen (AO I q ?_);cases x <;> first
  |(cases J;rfl)
  |(obtain⟨t,rfl⟩:=J;rfl)
def dE (b:Bl){op:Aab}(h:op≠.In:=by decide)(Q:op≠.NotIn:=by decide):Lz op b=false:=by
 have Y:(op == CmpOp.In)=false:=by cases op <;> first|rfl|exact absurd rfl h
 have J:(op == CmpOp.NotIn)=false:=by cases op <;> first|rfl|exact absurd rfl Q
 cases b <;> simp[Lz,Y,J]
def WR (K:Ag)(x:V)(H:Hp)(k:Ar):Prop:=
 match x with
 |.non=>k=Yp
 |.bl b=>k=b
 |.int i=>k=(i != 0)
 |.str y=>y.length<=sizeLine/\k=((y.length:Aq) != 0)
 |.byt y=>y.size<=sizeLine/\k=((y.size:Aq) != 0)
 |.ref p=>(∃ Y,kr K H p Y/\k=!Y.isEmpty)\/(∃ Y,ke K H p Y/\k=!Y.isEmpty)\/∃ Q,H p=Aa (.dK Q)/\k=!Q.isEmpty
 |_=>Fz
def YC {κ:Type}{Q:Ab (κ × V)}{vs:Ab (κ × Ac)}(r:KV Q vs):(!vs.isEmpty)=!Q.isEmpty:=by cases r <;> rfl
def lW (r:qQ xs ah):(!ah.toArray.isEmpty)=!xs.isEmpty:=by cases r <;> simp
def pQ:(sizeLine:Aj)<2 ^ 63:=by rw[El];decide
def mW:qCC X (λx H Q=>∃ k,WR X.K x H k/\Q k H):=by
 intro w s Y H x v Q I O h;obtain⟨k,e,q⟩:=h;have M:=pQ;have z:sizeLine=16777216:=El;cases x with
 |non =>
  cases O;have J:k=false:=e;subst J;exact truthy_none ⟨H,I,q⟩
 |bl b =>
  cases O;have J:k=b:=e;subst J;exact Nr ⟨H,I,q⟩
 |int i =>
  obtain⟨t,rfl⟩:=O;have J:k=(i != 0):=e;subst J;exact PySem.P.truthy_int ⟨H,I,q⟩
 |str y =>
  obtain⟨t,rfl⟩:=O;obtain⟨A,J⟩:y.length<=sizeLine/\k=((y.length:Aq) != 0):=e;subst J;exact PySem.P.truthy_str li ⟨H,I.tok _,q⟩
 |byt y =>
  obtain⟨t,rfl⟩:=O;obtain⟨A,J⟩:y.size<=sizeLine/\k=((y.size:Aq) != 0):=e;subst J;exact PySem.W.truthy_bytes li ⟨H,I.tok _,q⟩
 |ref p =>
  cases O;have J:(∃ N,kr X.K H p N/\k=!N.isEmpty)\/(∃ N,ke X.K H p N/\k=!N.isEmpty)\/∃ U,H p=Aa (.dK U)/\k=!U.isEmpty:=e;rcases J with⟨N,C,J⟩|⟨N,C,J⟩|⟨U,C,J⟩
  .subst J;obtain⟨E,r,pl,L⟩:=I.list C;have G:=r.length;exact wpAny_truthy_list pl.isList (by simp only[Bk];lia) ⟨H,I.tok _,by rw[lW r];exact q⟩
  .subst J;obtain⟨E,r,pl,L⟩:=I.tuple C;have G:=r.length;exact truthy_tuple pl (by simp only[Bk];lia) ⟨H,I.tok _,by rw[lW r];exact q⟩
  .subst J;obtain⟨L,T,B,r,m⟩:U.length<=sizeLine/\(p == Ly)=Yp/\∃ B,KV U B/\s.heap.DictOf (rK X.prog X.w) p B:=I.hok p _ C;have G:U.length=B.length:=Paired.length r;exact wpAny_truthy_dict T m li ⟨H,I.tok _,by rw[YC r];exact q⟩
 |_=>exact(show Fz from e).elim
def V1:pe X (Et .Add) (λx y H Q=>∃ i j,x=.str i/\y=.str j/\i.length+j.length<=sizeLine/\Q (.str (i++j)) H):=by intro C s Y H x y v u Q I U N h;obtain⟨i,j,rfl,rfl,J,q⟩:=h;obtain⟨t,rfl⟩:=U;obtain⟨G,rfl⟩:=N;exact add_str (λG O=>⟨.str (i++j),H,I.tok _,⟨_,rfl⟩,q⟩) J
def jT {x:V}(r:qQ [x] us):∃ u,us=[u]/\qT x u:=by
 cases r with
 |cons Y Q=>cases Q;exact⟨_,rfl,Y⟩
def N6 {x y:V}(r:qQ [x,y] us):∃ u Q,us=[u,Q]/\qT x u/\qT y Q:=by
 cases r with
 |cons G U =>
  cases U with
  |cons Y J=>cases J;exact⟨_,_,rfl,G,Y⟩
def eP:lG X (.type "int") (λxs H Q=>(∃ i,xs=[.int i]/\Q (.int i) H)\/∃ k,xs=[.bl k]/\Q (.int (if k then 1 else 0)) H):=by
 intro U s Y H xs us Q I r h;rcases h with⟨i,rfl,q⟩|⟨k,rfl,q⟩
 .obtain⟨u,rfl,t,rfl⟩:=jT r;exact call_int_int ⟨.int i,H,I,⟨_,Z⟩,q⟩
 .obtain⟨u,rfl,J⟩:=jT r;cases J;exact call_int_bool ⟨.int (if k then 1 else 0),H,I.tok _,⟨_,rfl⟩,q⟩
def i4:lG X (.type "str") (λxs H Q=>∃ i,xs=[.int i]/\i.natAbs.log2<1920/\Q (.str (toString i)) H):=by intro U s Y H xs us Q I r h;obtain⟨i,rfl,J,q⟩:=h;obtain⟨u,rfl,t,rfl⟩:=jT r;exact PySem.P.str_of_int J ⟨.str _,H,I.tok _,⟨_,rfl⟩,q⟩
def ET (K:Ag)(x:V)(H:Hp)(n:Aj):Prop:=
 match x with
 |.str y=>y.length<=sizeLine/\n=y.length
 |.byt y=>y.size<=sizeLine/\n=y.size
 |.ref p=>(∃ Q,kr K H p Q/\n=Q.length)\/∃ Q,ke K H p Q/\n=Q.length
 |_=>Fz
def GX:lG X (.builtin "len") (λxs H Q=>∃ x n,xs=[x]/\ET X.K x H n/\Q (.int n) H):=by
 intro E s Y H xs us Q I r h;obtain⟨x,n,rfl,e,q⟩:=h;obtain⟨u,rfl,N⟩:=jT r;have T:=pQ;have A:sizeLine=16777216:=El;cases x with
 |str y =>
  obtain⟨t,rfl⟩:=N;obtain⟨L,U⟩:y.length<=sizeLine/\n=y.length:=e;subst U;exact len_str li ⟨.int _,H,I.tok _,⟨_,rfl⟩,q⟩
 |byt y =>
  obtain⟨t,rfl⟩:=N;obtain⟨L,U⟩:y.size<=sizeLine/\n=y.size:=e;subst U;exact PySem.W.len_bytes li ⟨.int _,H,I.tok _,⟨_,rfl⟩,q⟩
 |ref p =>
  cases N;have U:(∃ xs,kr X.K H p xs/\n=xs.length)\/∃ xs,ke X.K H p xs/\n=xs.length:=e;rcases U with⟨xs,G,U⟩|⟨xs,G,U⟩
  .subst U;obtain⟨B,O,pl,C⟩:=I.list G;have J:=O.length;exact Calls.call_len_list pl.isList (by simp only[Bk];lia) ⟨.int xs.length,H,I.tok _,⟨_,by simp only[Bk];rw[J]⟩,q⟩
  .subst U;obtain⟨B,O,pl,C⟩:=I.tuple G;have J:=O.length;exact len_tuple pl (by simp only[Bk];lia) ⟨.int xs.length,H,I.tok _,⟨_,by simp only[Bk];rw[J]⟩,q⟩
 |_=>exact(show Fz from e).elim
end
end _L
namespace _L
variable {u:Ac}
structure qw (h:Bc)(x dx C:Af)(mA:J8):Prop where
 obj:h.get? x=Aa (Hy C dx)
 ns:h.Ns1 dx mA
 ne:dx≠x
set_option tactic.hygienic true in
def mI {h:Bc}(n:h.Ns1 Y mA):∃ U,h.get? Y=Aa U/\∀ name,Px name U=Aa (mA name):=by
 obtain⟨o,J,T,N,O,G,_,L⟩:=n;refine⟨o,N,λname=>?_⟩;have e:=L name;unfold nsFind findBy at e;rw[<- Ww] at e;unfold Px;rw[O];dsimp only;split;rename_i y q;rw[q] at e;exact congrArg Aa e
 .rename_i q;rw[q] at e;have a:J.toList.any (·.refKey)=false:=by
   rw[List.any_eq_false];intro y C;obtain⟨z,t,Q⟩:=G y (Ou.mp C);simp[DictEntry.refKey,Q]
  have B:¬ J.toList.any (·.refKey)=true:=by rw[a];exact Es
  rw[AT B];exact congrArg Aa e
theorem qw.look (I:qw h x Y C mA):∃ Q,PySem.W.InstAt h x (Hy C Y) C (Aa Q)/\∀ name,Px name Q=Aa (mA name):=
 let ⟨Q,J,U⟩:=mI I.ns
 ⟨Q,⟨I.obj,Z,Z,J⟩,U⟩
section
variable {prog:Ba}{w:Bu}{A:Bp}{E:J7}{s:Ai}{K:Ag}{x dx C f:Af}{mA:J8}{name:Ah}{v:Ac}
def D1 {Y:Ar}{Q:J7}(X:K.In s.heap)(I:qw s.heap x dx C mA)(G:Lw K C name=Vp)(O:Lb K C=Vp)
  (N:De K (.ref C) name=Aa Zw) (hv:mA name=Aa v) (J:Yy v=Vp) (h:Q v { s with toks:=s.toks+1 }) :
  Ap (As prog w) A (Yz (.ref x) name Y) Q E s:=by
 obtain⟨L,U,B⟩:=I.look;exact PySem.W.get_value X U (Pp G).1 (PySem.W.findObj_own O N rfl (by rw[B,hv])) J h
def BD {pl:Km Ar}{Q:Ac × Ab Ac->Ai->Prop}(X:K.In s.heap)(I:qw s.heap x dx C mA)(Y:Lw K C name=Vp)
  (J:De K (.ref C) name=Aa (Aa (.ref f))) (O:Td K (.ref f)=Vp) (hv:mA name=Zw) (h:Q (.ref f,[.ref x]) s) :
  Ap (As prog w) A (Ra (.ref x) name pl) Q E s:=by
 obtain⟨G,U,N⟩:=I.look;exact PySem.W.method_fn X U (Pp Y).1 (Pp Y).2 J (Jv.mp O) (by show (Px name G).map (·.isSome)=Aa Yp;rw[N,hv];rfl) h
def RY {ns:Y8}{Q:Nx->Ai->Prop}(X:K.In s.heap)(I:qw s.heap x dx C mA)
  (hs:De K (.ref C) "__setattr__" = Aa (Aa (.builtin "object.__setattr__"))) (hp:Rb K C=Vp) (j:Ts K C name=Aa Zw) (H:Lb K C=Vp)
  (hw:Nb mA ns) (z:ns.length<=sizeLine)
  (h:∀ h',qw h' x dx C (λy=>if y=name then Aa v else mA y)->Ew dx s.heap h'->Q () { s with heap:=h',toks:=s.toks+2 }) :
  Ap (As prog w) A (setAttr (.ref x) name v) Q E s:=by
 obtain⟨o,B,l⟩:=I.look;refine PySem.W.set_plain X B hs (PySem.W.osa_open (s:={ s with toks:=s.toks+1 }) (r:=Zw) X B hp j λb=>?_);obtain⟨q,T,U⟩:=PySem.W.any_some H;have L:s.heap.get? x=Aa ⟨.ref C,Aa dx,.plain,#[]⟩:=I.obj;refine Ad (An (Ad (Ad (Py L (Ad (PySem.W.Looks.here (s:={ s with toks:=s.toks+1 }) (PySem.W.looks_clsIn X T) ?_))))));rw[U];refine An (a:=Aa dx) (Ad (An (Ad ?_)));refine Xc (s:={ s with toks:=s.toks+1 }) I.ns λh' Y J=>?_;obtain⟨p,k,M,O,N,G⟩:=Y.count (Rc name v hw);refine Ad (Sm O (by rw[N];exact Sn (Ca G (by rw[Aw];lia))) ?_);exact An (h _ ⟨(J.2 _ (Dm I.ne)).trans I.obj,Y,I.ne⟩ J)
def BZ {R:Qr->Ai->Prop}{vs:Y0}{Y:Ab (Ah × Ac)}(X:K.In s.heap)(hm:Oy K C=Vp)
  (U:De K (.ref C) "__init__" = Aa (Aa (.ref f))) (J:PySem.W.typeIn K (.ref f)=Aa (.type "function"))
  (h:Gs (As prog w) (A.under (.builtin "type.__call__" ⟨.ref C::vs,Y⟩)) (.call (.ref f) ⟨.ref (s.heap.objs.size+1)::vs,Y⟩) (PySem.W.InitBack (s.heap.objs.size+1) R)
   { s with heap:=(s.heap.push Gb).push (Hy C s.heap.objs.size) }) :
  Gs (As prog w) A (.call (.ref C) ⟨vs,Y⟩) R s:=by
 obtain⟨G,g,d,t,os⟩:=s;exact PySem.W.make_core (PySem.W.makes_of X hm) (PySem.W.looks_findIn X U) (λQ=>PySem.W.bind_fn X Q J) (.inl rfl) h
end
noncomputable def yK (f:Ah)(v:V):Ab (Ah × V)->Ab (Ah × V)
 |[]=>[(f,v)]
 |(g,x)::r=>if g=f then (g,v)::r else (g,x)::yK f v r
theorem nB (f g:Ah)(v:V):∀ fs:Ab (Ah × V),(yK f v fs).lookup g=if g=f then Aa v else fs.lookup g
 |[]=>by
  show Eu g [(f,v)]=_;by_cases h:g=f;have Q:(g == f)=true:=Jv.mpr h;simp only[Eu,Q,Au h];have Q:(g == f)=false:=Ff.mpr h;simp only[Eu,Q,AT h]
 |(k,x)::r=>by
  have J:=nB f g v r;rw[show yK f v ((k,x)::r)=(if k=f then (k,v)::r else (k,x)::yK f v r) from Z];by_cases Y:k=f
  .rw[Au Y];by_cases h:g=k
   .have Q:(g == k)=true:=Jv.mpr h;simp only[Eu,Q,Au (h.trans Y)]
   .have Q:(g == k)=false:=Ff.mpr h;simp only[Eu,Q,AT (λe:g=f=>h (e.trans Y.symm))]
  .rw[AT Y];by_cases h:g=k
   .have Q:(g == k)=true:=Jv.mpr h;simp only[Eu,Q,AT (λe:g=f=>Y (h.symm.trans e))]
   .have Q:(g == k)=false:=Ff.mpr h;simp only[Eu,Q];exact J
theorem mG (f:Ah)(v:V):∀ fs:Ab (Ah × V),f∈(yK f v fs).map (·.1)/\∀ g,g∈fs.map (·.1)->g∈(yK f v fs).map (·.1)
 |[]=>⟨by simp[yK],λg h=>by simp at h⟩
 |(k,x)::r=>by
  obtain⟨Y,i2⟩:=mG f v r;rw[show yK f v ((k,x)::r)=(if k=f then (k,v)::r else (k,x)::yK f v r) from rfl];by_cases Q:k=f;rw[Au Q];subst Q;exact⟨by simp,λg h=>by simpa using h⟩
  .rw[AT Q];refine⟨?_,λg h=>?_⟩
   .rw[Ej];exact Bn _ Y
   .rw[Ej] at h ⊢;rcases Av.mp h with e|e
    .exact Av.mpr (.inl e)
    .exact Bn _ (i2 g e)
theorem n9 (f:Ah)(v:V):∀ fs:Ab (Ah × V),(yK f v fs).length<=fs.length+1
 |[]=>by simp[yK]
 |(k,x)::r=>by
  have Y:=n9 f v r;rw[show yK f v ((k,x)::r)=(if k=f then (k,v)::r else (k,x)::yK f v r) from Z];by_cases Q:k=f;rw[Au Q,Aw,Aw];lia;rw[AT Q,Aw,Aw];lia
def uH.some_of (r:uH (Aa v) o):∃ u,o=Aa u/\qT v u:=by
 cases o with
 |none=>exact(show Fz from r).elim
 |some u=>exact⟨u,rfl,r⟩
def uH.none_of (r:uH Zw o):o=none:=by
 cases o with
 |none=>rfl
 |some u=>exact(show Fz from r).elim
def eZ (r:qT v u):Yy u=true:=by
 cases v with
 |non=>cases (show u=Ei from r);rfl
 |bl b=>cases (show u=Fa b from r);rfl
 |int i=>obtain⟨t,e⟩:=(show ∃ t,u=Uj i t from r);cases e;rfl
 |str x=>obtain⟨t,e⟩:=(show ∃ t,u=Xp x t from r);cases e;rfl
 |byt b=>obtain⟨t,e⟩:=(show ∃ t,u=Value.bytes b t from r);cases e;rfl
 |flt b=>obtain⟨t,e⟩:=(show ∃ t,u=Yv b t from r);cases e;rfl
 |ref a=>cases (show u=Cc a from r);rfl
 |ty n=>cases (show u=Ht n from r);rfl
section
variable {P:Ba}{w:Bu}{H:Hp}{h:Bc}{a C dx:Af}{fs:Ab (Ah × V)}
def tJ (Q:jp P w H h)(e:H a=Aa (.ins C dx fs)):∃ mA,qw h a dx C mA/\(∀ f,uH (fs.lookup f) (mA f))/\Nb mA (fs.map (·.1))/\fs.length<=1000/\H dx=Aa (.own a):=by
 obtain⟨d,z,J,Y,mA,n,r,q⟩:=(show zR P w H h a (.ins C dx fs) from Q a _ e)
 exact⟨mA,⟨Y,n,J⟩,r,q,z,d⟩
end
structure ue (K:Ag)(C:Af):Prop where
 pg:Lw K C Pa=Vp
 hd:Lb K C=Vp
 po:Rb K C=Vp
 sa:De K (.ref C) "__setattr__" = Aa (Aa (.builtin "object.__setattr__"))
def ue.get {K:Ag}(c:ue K C)(f:Ah):Lw K C f=true:=c.pg
def vX (K:Ag)(C:Af)(f:Ah):Prop:=De K (.ref C) f=Aa Zw
def vX.taker {K:Ag}(n:vX K C f):Ts K C f=Aa none:=by unfold Ts;rw[show De K (.ref C) f=Aa Zw from n];rfl
structure yh (K:Ag)(C:Af)(m:Ah)(f:Af):Prop where
 at_:De K (.ref C) m=Aa (Aa (.ref f))
 fn:Td K (.ref f)=Vp
 kp:Dd K (.ref f)=Vp
section
variable {X:Cx}{aa:J0}{Y: St}{H:Hp}{s:Ai}{a C dx:Af}{fs:Ab (Ah × V)}{f:Ah}{v:V}{A:Bp}{E:J7}
def _s {b:Ar}{Q:J7}(I:Inv X aa Y H s)(e:H a=Aa (.ins C dx fs))(c:ue X.K C)(n:vX X.K C f)(l:fs.lookup f=Aa v)
  (h:∀ u s',Inv X aa Y H s'->qT v u->Q u s'):Ap (As X.prog X.w) A (Yz (.ref a) f b) Q E s:=by
 obtain⟨G,O,r,_,_,_⟩:=tJ I.hok e;obtain⟨u,U,J⟩:=uH.some_of (v:=v) (o:=G f) (by rw[<- l];exact r f);exact D1 I.kIn O (c.get f) c.hd n U (eZ J) (h u _ (I.tok _) J)
def lS {pl:Km Ar}{Q:Ac × Ab Ac->Ai->Prop}(I:Inv X aa Y H s)(e:H a=Aa (.ins C dx fs))(c:ue X.K C)(k:yh X.K C m g)(l:fs.lookup m=Zw)
  (h:Q (.ref g,[.ref a]) s):Ap (As X.prog X.w) A (Ra (.ref a) m pl) Q E s:=by
 obtain⟨U,O,r,_,_,_⟩:=tJ I.hok e;have J:U m=none:=uH.none_of (by rw[<- l];exact r m);exact BD I.kIn O (c.get m) k.at_ k.fn J h
def VB {Q:Nx->Ai->Prop}(I:Inv X aa Y H s)(e:H a=Aa (.ins C dx fs))(c:ue X.K C)(n:vX X.K C f)(l:fs.length<1000)(p:qT y u)
  (h:∀ s',Inv X aa Y (bz H a (.ins C dx (yK f y fs))) s'->Q () s'):Ap (As X.prog X.w) A (setAttr (.ref a) f u) Q E s:=by
 obtain⟨N,O,r,G,_,U⟩:=tJ I.hok e;have L:(fs.map (·.1)).length<=sizeLine:=by rw[Ao,El];lia
 refine RY I.kIn O c.sa c.po n.taker c.hd G L λB J k=>h _ ?_;have M:∃ o,B.get? dx=Aa o:=let ⟨o,_,_,T,_⟩:=J.ns;⟨o,T⟩;refine I.write (x:=a) (e:=dx) (by rw[e];exact Jw) (.inr U) (λb q w z=>(k.2 b w).trans z) M ?_;refine⟨by rw[qP O.ne];exact U,?_,O.ne,J.obj,_,J.ns,λg=>?_,λg j=>?_⟩;have:=n9 f y fs;lia
 .show uH ((yK f y fs).lookup g) (if g=f then Aa u else N g);rw[nB];by_cases q:g=f
  .rw[Au q,Au q];exact p
  .rw[AT q,AT q];exact r g
 .by_cases q:g=f
  .rw[q];exact(mG f y fs).1
  .refine(mG f y fs).2 g (G g λz=>j ?_);show (if g=f then Aa u else N g)=Zw;rw[AT q];exact z
def Inv.made (I:Inv X aa Y H s):Inv X aa Y (bz (bz H s.heap.objs.size (.own (s.heap.objs.size+1))) (s.heap.objs.size+1) (.ins C s.heap.objs.size []))
  { s with heap:=(s.heap.push Gb).push (Hy C s.heap.objs.size) }:=by
 have Q:(s.heap.push Gb).get? s.heap.objs.size=Aa Gb:=Bf s.heap Z;have O:((s.heap.push Gb).push (Hy C s.heap.objs.size)).get? (s.heap.objs.size+1)=Aa (Hy C s.heap.objs.size):=by have:=Bf (s.heap.push Gb) (o:=Hy C s.heap.objs.size) Z;rwa [Ep] at this
 have U:(s.heap.push Gb).Ns s.heap.objs.size (λ_=>Zw):=⟨Gb,#[],_,Q,Z,(λe B=>absurd B aA),λ_=>rfl⟩
 have N:=I.laid (a:=s.heap.objs.size) (o:=.own (s.heap.objs.size+1)) (h':=s.heap.push Gb) (t':=s.toks) (λb u q=>Ak _ q) (Ay _) ⟨_,Q⟩;refine N.laid (a:=s.heap.objs.size+1) (o:=.ins C s.heap.objs.size []) (t':=s.toks) (λb u q=>Ak _ q) (Nat.le_of_eq (Ep _ _)) ?_;have J:s.heap.objs.size≠s.heap.objs.size+1:=Cm (Fv _);refine⟨by rw[qP J,qX],EQ _,J,O,λ_=>Zw,(Xt U).at λo q=>Ak _ q,λ_=>Jw,λy G=>absurd Z G⟩
def zh {prog:Ba}{w:Bu}{G:Ea}{Q:J7}(U:Gc e f ac (eval e ac)=eval e ac)
  (h:Ap (As prog w) A (eval e ac) (λo J=>Ap (As prog w) A (Yz o f Vp) Q E J) E s):Ap (As prog w) A (eval (.Attribute e f G) ac) Q E s:=
 Attribute_any_ h (by rw[arm_eval_Attribute,U])
end
section
variable {X:Cx}{aa:J0}{Y: St}{H:Hp}{s:Ai}{A:Bp}{E:J7}{Q:J7}{c:Ac}{b:Ar}
inductive ko (K:Ag)(H:Hp):V->Ac->Prop where
 |non:ko K H .non (.type "NoneType")
 |bl (x:Ar):ko K H (.bl x) (.type "bool")
 |int (i:Aq):ko K H (.int i) (.type "int")
 |str (x:Ah):ko K H (.str x) (.type "str")
 |flt (x:UInt64):ko K H (.flt x) (.type "float")
 |lst {a:Af} {xs:Ab V} (e:H a=Aa (.lst xs)):ko K H (.ref a) (.type "list")
 |frz {a:Af} {o:Ce} {xs:Ab V} (e:H a=Aa (.frz o (.lst xs))):ko K H (.ref a) (.type "list")
 |tup {a:Af} {xs:Ab V} (e:H a=Aa (.tup xs)):ko K H (.ref a) (.type "tuple")
 |dK {a:Af} {kvs:Ab (ku × V)} (e:H a=Aa (.dK kvs)):ko K H (.ref a) (.type "dict")
 |dT {a:Af} {kvs:Ab (Ab ku × V)} (e:H a=Aa (.dT kvs)):ko K H (.ref a) (.type "dict")
 |ins {a C dx:Af} {fs:Ab (Ah × V)} (e:H a=Aa (.ins C dx fs)) (cl:ue K C) (ha:De K (.ref C) "__class__" = Aa (Aa (.builtin "object.__class__")))
   (hn:Xu K (.builtin "object.__class__") "__get__" = Aa (Aa (.builtin "getset_descriptor.__get__"))) (htk:Zz K (.builtin "object.__class__")=Aa Vp)
   (hm:Vq K C (.type "object")=Aa Vp):ko K H (.ref a) (.ref C)
def _M (I:Inv X aa Y H s)(U:qT x u)(ty:ko X.K H x t)(e:Ll X.K t c=Aa b)(h:∀ k,Q (.bool b) { s with toks:=k }) :
  Ap (As X.prog X.w) A (call (.builtin "isinstance") [u,c]) Q E s:=by
 cases ty with
 |non=>cases (show u=Ei from U);exact DL PySem.W.kitx_none I.kIn Jw e (λz=>nomatch z) h
 |bl y=>cases (show u=Fa y from U);exact DL PySem.W.kitx_bool I.kIn Jw e (λz=>nomatch z) h
 |int i=>obtain⟨t,q⟩:=(show ∃ t,u=Uj i t from U);cases q;exact DL PySem.W.kitx_int I.kIn Jw e (λz=>nomatch z) h
 |str y=>obtain⟨t,q⟩:=(show ∃ t,u=Xp y t from U);cases q;exact DL PySem.W.kitx_str I.kIn Jw e (λz=>nomatch z) h
 |flt y=>obtain⟨t,q⟩:=(show ∃ t,u=Yv y t from U);cases q;exact DL PySem.W.kitx_float I.kIn Jw e (λz=>nomatch z) h
 |@lst a B J =>
  cases (show u=Cc a from U);obtain⟨_,_,n,_,G⟩:=(show zR X.prog X.w H s.heap a (.lst B) from I.hok a _ J)
  exact DL Re I.kIn ⟨_,G,Z⟩ e (λz=>nomatch z) h
 |@frz a w B J =>
  cases (show u=Cc a from U);obtain⟨_,_,_,n,_,G⟩:=(show zR X.prog X.w H s.heap a (.frz w (.lst B)) from I.hok a _ J)
  exact DL Re I.kIn ⟨_,G,Z⟩ e (λz=>nomatch z) h
 |@tup a B J =>
  cases (show u=Cc a from U);obtain⟨_,_,_,p⟩:=(show zR X.prog X.w H s.heap a (.tup B) from I.hok a _ J)
  obtain⟨o,G,L,_⟩:=p;exact DL Wx I.kIn ⟨o,G,L⟩ e (λz=>nomatch z) h
 |@dK a N J =>
  cases (show u=Cc a from U);obtain⟨_,_,vs,_,p⟩:=(show zR X.prog X.w H s.heap a (.dK N) from I.hok a _ J)
  obtain⟨o,g,d,G,L,_⟩:=p;exact DL Xv I.kIn ⟨o,G,L.1⟩ e (λz=>nomatch z) h
 |@dT a N J =>
  cases (show u=Cc a from U);obtain⟨_,_,B,_,o,g,d,G,L,_⟩:=(show zR X.prog X.w H s.heap a (.dT N) from I.hok a _ J)
  exact DL Xv I.kIn ⟨o,G,L.1⟩ e (λz=>nomatch z) h
 |@ins a C r m J M j l T f =>
  cases (show u=Cc a from U);obtain⟨mA,O,_⟩:=tJ I.hok J;obtain⟨od,v,_⟩:=O.look;exact DL (PySem.W.kitx_own (M.get _) M.hd j l T f) I.kIn v e (λz=>nomatch z) h
end
end _L
namespace _L
variable {kw:Ab (Ah × Ac)}{us:Y0}{aj:Ab Hn}{K:Ag}{mg:J8}{kindOf:Ah->Al Hz}{A:Bp}
structure oi (k:Aj)(A:Bp):Prop where
 hd:A.handled=Zw
 dp:A.depth+3*k+5<Vb
 un:A.units+16*k+200<Fj
 gd:A.guards=Aa []
def YM:(A.under (.builtin "type.__call__" ⟨.ref C::us,kw⟩)).depth=A.depth+1:=by
 first|rfl|simp[Te,Code.weight,Code.isCreation,Code.isGuard,Code.isCaller,Code.frames,Xd,guardIds]
def YN:(A.under (.builtin "type.__call__" ⟨.ref C::us,kw⟩)).units=A.units+1:=by
 first|rfl|simp[Te,Code.cUnits,Code.frames,Xd]
def oi.make {k:Aj}(r:oi (k+1) A)(C:Af)(us:Y0)(kw:Ab (Ah × Ac)):oi k (A.under (.builtin "type.__call__" ⟨.ref C::us,kw⟩)):=
 ⟨r.hd,by have:=r.dp;rw[YM];lia,by have:=r.un;rw[YN];lia,by simp[Te,Code.guards,Code.isGuard,guardIds,pushGuards,r.gd]⟩
def qC7:TA:=λ_ H Q=>Q [] H
section
variable {X:Cx}{e:Bl}{es:Ab Bl}{t:TA}{ai:Ea}
def OO:PA X [] qC7:=λ_ _ _ _ H Q I h=>Lc ⟨[],H,I,.nil,h⟩
def qC9 (t:TA):TE:=λY H Q=>t Y H λJ U=>J.length<=sizeLine/\∀ p,U p=Zw->Q (.ref p) (bz U p (.tup J))
def qC6 (t:TA):TE:=λY H Q=>t Y H λJ U=>J.length<=sizeLine/\∀ p,U p=Zw->Q (.ref p) (bz U p (.lst J))
def OT  (h:PA X es t):PE X (.Tuple es x1 ai) (qC9 t):=by intro C s Y H Q I N;refine wpAny_Tuple_spliced (bi (h ai C s Y H _ I N) λus J ⟨B,G,U,r,z,q⟩=>⟨by rw[<- r.length];exact z,?_⟩);have O:G J.heap.objs.size=none:=U.hok.fresh (Ay _);refine⟨.ref J.heap.objs.size,bz G J.heap.objs.size (.tup B),U.laid (t':=J.toks) (λb u e=>Ak _ e) (Ay _) ?_,Z,q _ O⟩;exact⟨z,us,r,⟨_,Bf _ Z,Z,_,Z⟩⟩
def K7 (h:PA X es t):PE X (.List es ai) (qC6 t):=by intro C s Y H Q I N;refine wpAny_List_spliced (bi (h ai C s Y H _ I N) λus J ⟨B,G,U,r,z,q⟩=>⟨by rw[<- r.length];exact z,?_⟩);have O:G J.heap.objs.size=none:=U.hok.fresh (Ay _);refine⟨.ref J.heap.objs.size,bz G J.heap.objs.size (.lst B),U.laid (t':=J.toks) (λb u e=>Ak _ e) (Ay _) ?_,Z,q _ O⟩;exact⟨z,us,0,r,Bf _ Z⟩
end
abbrev Sp:=Ab V->Hp->VK->XK->Prop
abbrev wu:=Ab Hn->Hp->Ai->XK->Ac->Ai->Prop
structure oo (P:Ba)(w:Bu)(K:Ag)(mg:J8)(base:Bc)(A:Bp)(outer:Ab Hn)(s:Ai)(H:Hp):Prop where
 frames:A.frames=Aa outer
 mod:Mod K mg base
 bs:∀ b o,base.get? b=Aa o->s.heap.get? b=Aa o/\H b=Zw
 bsz:base.objs.size<=s.heap.objs.size
 funs:s.heap.FunFrames base outer
 frf:∀ b∈gx outer,H b=Zw
 hok:jp P w H s.heap
 bare:Oc s.gens
def CE (aj:Ab Hn)(P:Ba)(w:Bu)(H:Hp)(s:Ai)(Q:VK)(u:Ac)(s':Ai):Prop:=
 ∃ v Y,s'.os=s.os/\Oc s'.gens/\Un (gx aj) [] H Y s.heap s'.heap/\jp P w Y s'.heap/\qT v u/\Q v Y
def CR (CX:wu)(aj:Ab Hn)(P:Ba)(w:Bu)(H:Hp)(s:Ai)(Q:VK)(E:XK)(r:Qr)(s':Ai):Prop:=
 match r with
 |.ok (.ret u)=>CE aj P w H s Q u s'
 |.ok _=>Fz
 |.error e=>CX aj H s E e s'
structure q_ (P:Ba)(w:Bu)(K:Ag)(mg:J8)(base:Bc)(CX:wu)(k:Aj)(f:Af)(fd:Ft)(ps:Y8)(sp:Sp):Prop where
 len:∀ vs H Q E,sp vs H Q E->vs.length=ps.length
 run:∀ (A:Bp) (outer:Ab Hn) (s:Ai) (H:Hp) (args:Args) (us:Y0) (vs:Ab V) (Q:VK) (E:XK),oi k A->oo P w K mg base A outer s H->Oe s fd args (ps.zip us)->qQ vs us->sp vs H Q E ->
  Gs (As P w) A (.call (.ref f) args) (CR CX outer P w H s Q E) s
def oo.make {P:Ba}{base:Bc}(e:oo P w K mg base A aj s H)(C:Af)(us:Y0)(kw:Ab (Ah × Ac)) :
  oo P w K mg base (A.under (.builtin "type.__call__" ⟨.ref C::us,kw⟩)) aj s H:=⟨by first|exact e.frames|(simpa [Te,Code.envs,Xd,pushEnvs] using e.frames),e.mod,e.bs,e.bsz,e.funs,e.frf,e.hok,e.bare⟩
section
variable {X:Cx}{aa:J0}{Y: St}{H:Hp}{s s':Ai}
def Inv.env0 (I:Inv X aa Y H s):oo X.prog X.w X.K X.mg X.base X.A X.stack s H:=
 ⟨I.ok.frames,I.ok.mod,I.bs,Ca I.ok.bsz I.sz,I.stack,I.stkFree,I.hok,I.bare⟩
def Inv.after (I:Inv X aa Y H s)(h:CE X.stack X.prog X.w H s Q u s'):EP X aa Y Q u s':=by obtain⟨v,C,os,J,O,U,r,q⟩:=h;obtain⟨N,g,d,t,G⟩:=s';obtain rfl:G=s.os:=os;exact⟨v,C,I.call (h':=N) (g':=g) (d':=d) (t':=t) (ch:=[]) O U J (λb z=>absurd z aA),r,q⟩
end
def yM (K:Ag)(fd:Ft)(ps:Y8)(ds:Y0):Prop:=
 ∀ (s:Ai) (us:Y0),K.In s.heap->(us++ds).length=ps.length->Oe s fd ⟨us,[]⟩ (ps.zip (us++ds))
def yM.all {ps:Y8}(h:∀ us:Ab Ac,us.length=ps.length->Tt fd ⟨us,[]⟩=pure (ps.zip us)):yM K fd ps []:=λs us _ Q=>by rw[Hc] at Q ⊢;exact .of_eq (h us Q)
def EV (CX:wu)(X:Cx)(E:XK):Prop:=∀ (J:J0) (Y : St) (H:Hp) (s:Ai) (e:Ac) (Q:Ai),Inv X J Y H s->CX X.stack H s E e Q->X.xe e Q
section
variable {X:Cx}{CX:wu}{k:Aj}{f C:Af}{fd:Ft}{ps:Y8}{sp:Sp}{U_:Ab V}{ds:Y0}{E:XK}{x:Ah}{e:Bl}
structure Mk (K:Ag)(C f:Af):Prop where
 makes:Oy K C=Vp
 init:De K (.ref C) "__init__" = Aa (Aa (.ref f))
 fn:Td K (.ref f)=Vp
 kp:Dd K (.ref C)=Vp
def FU {aa:J0}{Y:St}{H:Hp}{s:Ai}{Q:VK}{vs:Ab V}(M:Mk X.K C f)(F:q_ X.prog X.w X.K X.mg X.base CX k f fd ps sp)(B:oi (k+1) X.A)(l:yM X.K fd ps ds)(j:qQ U_ ds)
  (L:EV CX X E) (I:Inv X aa Y H s) (r:qQ vs us)
  (h:∀ x U,H x=Zw->H U=Zw->U≠x->sp (.ref x::(vs++U_)) (bz (bz H U (.own x)) x (.ins C U [])) (λv c=>v=.non/\Q (.ref x) c) E) :
  a8 X (call (.ref C) us) (EP X aa Y Q) X.xe s:=by
 have N:=h (s.heap.objs.size+1) s.heap.objs.size (I.hok.fresh (Jx _)) (I.hok.fresh (Ay _)) (Cm (Fv _));have G:=Inv.made (C:=C) I;have O:qQ (V.ref (s.heap.objs.size+1)::(vs++U_)) (Cc (s.heap.objs.size+1)::(us++ds)):=.cons Z (r.append j);have d:(Cc (s.heap.objs.size+1)::us++ds).length=ps.length:=by have e:=O.length;rw[F.len _ _ _ _ N] at e;exact e.symm
 refine L2 (BZ (f:=f) I.kIn M.makes M.init (Jv.mp M.fn) (Lq (F.run _ X.stack _ _ ⟨Cc (s.heap.objs.size+1)::us,[]⟩ (Cc (s.heap.objs.size+1)::(us++ds)) _ _ E (B.make C us [])
  (G.env0.make C us []) (l _ (Cc (s.heap.objs.size+1)::us) G.kIn d) O N) λr n J=>?_))
 cases r with
 |error e=>exact L aa Y _ _ e n G J
 |ok w =>
  cases w with
  |ret u =>
   obtain⟨v,q,T,g,y,z⟩:=G.after J;subst y;exact⟨g,⟨V.ref (s.heap.objs.size+1),q,T,rfl,z⟩⟩
  |next=>exact Am J
  |brk=>exact Am J
  |cont=>exact Am J
end
structure c_ (N P:Y8)(sc:Ey):Prop where
 kind:sc.kind=.function
 co:sc.isCoroutine=Yp
 gen:sc.isGenerator=Yp
 nd:N.Nodup
 pre:N.take P.length=P
 par:∀ x∈P,sc.names.lookup x=Aa .local \/ sc.names.lookup x=Aa .cell
 nofree:∀ y∈sc.names,y.2≠.free
theorem eM {x:Ah}:∀ {Q:Ab (Ah × Ac)} {m:J8},(∀ v,(x,v) ∉ Q)->Vr kindOf Q m x=m x
 |[],_,_=>rfl
 |(n,v)::r,m,h=>by
  unfold Vr;rw[eM λw Y=>h w (Bn _ Y)];split
  .have:x≠n:=by rintro rfl;exact h v Cr
   simp[this]
  .rfl
theorem eK {x:Ah}:∀ {Q:Ab (Ah × Ac)} {m:J8},(∀ v,(x,v) ∉ Q)->Vs kindOf Q m x=m x
 |[],_,_=>rfl
 |(n,v)::r,m,h=>by
  unfold Vs;rw[eK λw Y=>h w (Bn _ Y)];split;rfl
  .have:x≠n:=by rintro rfl;exact h v Cr
   simp[this]
theorem eL:∀ {P:Y8} {vs:Y0} {i:Aj} {m:J8},P.Nodup->P[i]? = Aa x->vs[i]? = Aa v->kindOf x=Aa .local ->
  Vr kindOf (P.zip vs) m x=Aa v
 |[],_,_,_,_,h,_,_=>by simp at h
 |_::_,[],_,_,_,_,h,_=>by simp at h
 |p::P,w::vs,0,m,U,Q,Y,J=>by
  simp at Q Y;subst Q;subst Y;show Vr kindOf ((p,w)::P.zip vs) m p=_;unfold Vr;rw[eM λv hv=>(Hd.mp U).1 (Tu hv).1,Au J];simp
 |p::P,w::vs,i+1,m,U,Q,Y,J=>by show Vr kindOf ((p,w)::P.zip vs) m x=_;unfold Vr;exact eL (i:=i) (Hd.mp U).2 (by simpa using Q) (by simpa using Y) J
theorem eJ:∀ {P:Y8} {vs:Y0} {i:Aj} {m:J8},P.Nodup->P[i]? = Aa x->vs[i]? = Aa v->kindOf x≠Aa .local ->
  Vs kindOf (P.zip vs) m x=Aa v
 |[],_,_,_,_,h,_,_=>by simp at h
 |_::_,[],_,_,_,_,h,_=>by simp at h
 |p::P,w::vs,0,m,U,Q,Y,J=>by
  simp at Q Y;subst Q;subst Y;show Vs kindOf ((p,w)::P.zip vs) m p=_;unfold Vs;rw[eK λv hv=>(Hd.mp U).1 (Tu hv).1,AT J];simp
 |p::P,w::vs,i+1,m,U,Q,Y,J=>by show Vs kindOf ((p,w)::P.zip vs) m x=_;unfold Vs;exact eJ (i:=i) (Hd.mp U).2 (by simpa using Q) (by simpa using Y) J
def v9 (N:Y8)(vs:Ab V):St:=vs.map Aa++Da (N.length-vs.length) Zw
noncomputable def HR (CX:wu)(P:Ba)(w:Bu)(K:Ag)(mg:J8)(base:Bc)(N:Y8)(J:Ah)(ae:Ey)(f:Af)(Y:Ac)(A:Bp)(aj:Ab Hn)(s:Ai)(H:Hp)(E:XK):Cx where
 prog:=P
 w:=w
 K:=K
 mg:=mg
 base:=base
 A:=A.deeper (Fw J ae s.heap.objs.size f Y)
 N:=N
 s₀:=s
 H₀:=H
 env:=Fw J ae s.heap.objs.size f Y
 outer:=aj
 stack:=Fw J ae s.heap.objs.size f Y::aj
 ex:=[]
 calm:=Vp
 fn:=λ_=>Vp
 pn:=[]
 xe:=λe G=>Ap (As P w) (A.deeper (Fw J ae s.heap.objs.size f Y)) (leaving (Fw J ae s.heap.objs.size f Y) e) (λ_ Q=>CX aj H s E e Q) (λU Q=>CX aj H s E U Q) G
def i6 {Q:Ey}(h:Q.names.lookup x=Aa .cell):∃ c,(HT n Q.names []).lookup x=Aa c:=by have q:=Ny Q.names n [] (.inl h);exact Mt.mp q
def UX {CX:wu}{P:Ba}{w:Bu}{base:Bc}{N ps:Y8}{B:Ah}{ae:Ey}{f:Af}{O:Ac}{s I:Ai}{H:Hp}{E:XK}{vs:Ab V}
  (S:c_ N ps ae) (o:A.handled=Zw) (Y:oo P w K mg base A aj s H) (t:vs.length=ps.length) (r:qQ vs us)
  (x:InCallC s s.heap.objs.size (Vr (Fw B ae s.heap.objs.size f O).kindOf (ps.zip us) λ_=>Zw) (HT (s.heap.objs.size+1) ae.names []) (Vs (Fw B ae s.heap.objs.size f O).kindOf (ps.zip us) λ_=>Zw) I) :
  Inv (HR CX P w K mg base N B ae f O A aj s H E) [] (v9 N vs) H I:=by
 have l:ps.length<=N.length:=by have:=congrArg Gm S.pre;rw[Fo] at this;lia
 obtain⟨L,d,rfl,M⟩:=x.done;have J:∀ b:Af,b ∉ (HR CX P w K mg base N B ae f O A aj s H E).ex:=λb z=>absurd (show b∈([]:J9) from z) aA;refine⟨⟨Y.mod,S.kind,Z,Z,Ay _,λy z c L Q=>?_,λy hy=>?_,λy c _ h=>?_,λ_=>o,Vh Y.frames,.inr ⟨Z,Z⟩,λb z=>absurd z (J b),Y.bs,Y.bsz,λb _ _=>J b,λb z=>absurd z (J b),Y.funs,Y.frf⟩,
  rfl,Y.bare,Un.kept M,⟨_,x.toInCall.ns,λi y v L Q m=>?_⟩,λy c h=>⟨_,x.cell y c h⟩,Y.hok.fresh (Ay _),λy c h=>?_,λp G=>absurd (show p∈([]:J0) from G) aA,Y.hok.kept M,?_⟩
 .exact name_of_addr x.apart (Ge L) (Ge Q)
 .have hy:ae.names.lookup y=Aa .cell\/ae.names.lookup y=Aa .free:=hy;rcases hy with hy|hy
  .exact i6 hy
  .exact absurd Z (S.nofree _ (Ge hy))
 .exact Hk (x.above y c (Ge h))
 .have C:i<vs.length:=by
   unfold v9 at Q;by_cases C:i<vs.length;exact C
   .rw[Ec (by simpa using C)] at Q;rw[Nc] at Q;split at Q <;> cases Q
  have j:vs[i]? = Aa v:=by
   unfold v9 at Q;rw[Cn (by simpa using C),Er] at Q;cases e:vs[i]? with
   |none=>rw[e] at Q;cases Q
   |some a=>rw[e] at Q;cases Q;rfl
  obtain⟨u,T,g⟩:=r.get j;have G:ps[i]? = Aa y:=by rw[<- S.pre,Sb li];exact L
  have U:ps.Nodup:=by rw[<- S.pre];exact S.nd.sublist (List.take_sublist _ _)
  refine⟨u,g,?_⟩;rcases S.par y (Cd G) with k|k
  .exact .inl ⟨k,eL U G T k⟩
  .obtain⟨c,e⟩:=i6 (n:=s.heap.objs.size+1) k;refine .inr ⟨.inl k,c,e,?_⟩;have q:=x.cell y c e;rw[eJ U G T (by show ae.names.lookup y≠_;rw[k];decide)] at q;exact q
 .exact Y.hok.fresh (Hk (x.above y c (Ge h)))
 .unfold v9;show _=N.length;rw[Az,Ao,List.length_replicate];lia
end _L
namespace _H
variable {Q:J7}{lo hi:Al Aq}{items:Bs Ac}
noncomputable def lexLt:Ab Aq->Ab Aq->Ar
 |[],[]=>Yp
 |[],_::_=>Vp
 |_::_,[]=>Yp
 |x::Y,y::J=>if x=y then lexLt Y J else decide (x<y)
def dz (x y:Aq)(xs ys:Ab Aq):lexLt (x::xs) (y::ys)=if x=y then lexLt xs ys else decide (x<y):=Z
def jh:lexLt [] []=false:=Z
def rH (y:Aq)(ys:Ab Aq):lexLt [] (y::ys)=true:=Z
def rG (x:Aq)(xs:Ab Aq):lexLt (x::xs) [] = false:=Z
def B6 (A:Bp)(s:Ai)(a:Aq)(t:Mx)(c:Aq)(u:Mx):∃ e,SeqAt.EqAt A s (.int a t) (.int c u) e/\(e=Vp↔a=c):=
 ⟨(a == c),SeqAt.EqAt.int_int a t c u,by simp⟩
def FQ (A:Bp)(s:Ai)(a:Aq)(t:Mx)(c:Aq)(u:Mx)(prog:Ba)(w:Bu)(E:J7)(Q:J7)(h:Q (.bool (decide (a<c))) s) :
  Ap (As prog w) A (richCompare .Lt (.int a t) (.int c u)) Q E s:=
 (Vt h:Ap (As prog w) A (Cs .Lt (.int a t) (.int c u)) Q E s)
section
open PySem.SeqAt
open PySem.AutoSeq1 (wpAny_loadPart')
open PySem.MeetsSeq PySem.MeetsSeq2 PySem.MeetsSeq3
def cW (l b:Af)(items Y:Bs Ac)(n n2:Aj)(dd r:Al Af)(sl m:Bs (Al Ac))(ns p:Ab Aq)(hi:Lm items.toList ns)(hj:Lm Y.toList p) :
  Meets (Ih.«tuple.__lt__» ⟨[.ref l,.ref b],[]⟩)
   (λ_ R s=>s.heap.get? l=Aa { cls:=.type "tuple",dict:=dd,data:=.seq items n,slots:=sl } /\ s.heap.get? b=Aa { cls:=.type "tuple",dict:=r,data:=.seq Y n2,slots:=m } /\
    R (.ok (.ret (.bool (lexLt ns p)))) s):=
 .of_wp λL w A R s h=>by
  obtain⟨o,g,d,z,os⟩:=s;obtain⟨hl,hb,h⟩:=h;have f2:=AutoSeq1.sub_tuple_tuple;have z1:items.size=ns.length:=by rw[<- hi.length];simp
  have z2:Y.size=p.length:=by rw[<- hj.length];simp
  wp_walk using wpAny_loadPart' hl,wpAny_loadPart' hb,Of _ (λaw b i=>b.1=Zw/\i=⟨o,g,d,z,os⟩/\∃ (k j:Y0) (G U:Ab Aq),aw=k.zip j /\
   Lm k G/\Lm j U/\G.length+Y.size=U.length+items.size/\R (.ok (.ret (.bool (lexLt G U)))) ⟨o,g,d,z,os⟩) _
  case turn =>
   rintro⟨y,x⟩ aw b i ⟨T,rfl,k,j,G,U,O,E,N,J,B⟩;cases E with
   |nil=>rw[List.zip_nil_left] at O;cases O
   |cons a t M =>
    cases N with
    |nil=>rw[List.zip_nil_right] at O;cases O
    |cons c u H =>
     rw[Kj] at O;injection O with v I
     injection v with hy hx
     subst hy hx;rw[dz] at B;simp only[Aw] at J;obtain⟨e,he,C⟩:=B6 A.in1 ⟨o,g,d,z,os⟩ a t c u;refine Ad (he L w _ _ ?_);cases e with
     |true =>
      rw[Au (C.mp Z)] at B;wp_walk;exact⟨Z,Z,_,_,_,_,I,M,H,by lia,B⟩
     |false =>
      rw[AT (λq=>absurd (C.mpr q) Es)] at B;have f:=FQ A.in1 ⟨o,g,d,z,os⟩ a t c u L w;wp_walk using f;exact⟨_,Z,by simpa using B⟩
  case fin =>
   rintro⟨b1,b2⟩ i ⟨T,rfl,k,j,G,U,O,E,N,J,B⟩;simp only at T;subst T;have hv:lexLt G U=decide (items.size<Y.size):=by
    cases E with
    |nil =>
     cases N with
     |nil =>
      simp only[Cy] at J;rw[jh];exact(Bo li).symm
     |cons c u hw =>
      simp only[Cy,Aw] at J;rw[rH];exact(Ci li).symm
    |cons a t hv =>
     cases N with
     |nil =>
      simp only[Cy,Aw] at J;rw[rG];exact(Bo li).symm
     |cons c u hw =>
      rw[Kj] at O;cases O
   rw[hv] at B;wp_walk;exact⟨_,Z,by simpa [Za] using B⟩
  case h =>
   exact⟨Z,Z,items.toList,Y.toList,ns,p,Z,hi,hj,by lia,h⟩
end
section
variable {prog:Ba}{w:Bu}{A:Bp}{E:J7}{s:Ai}
theorem qq {l b:Af}(y:Tc s.heap l items)(k:Tc s.heap b Y)(hi:Lm items.toList ns)(z:Lm Y.toList N)
  (j:A.units<Fj) (h:Q (.bool (lexLt ns N)) s):Ap (As prog w) A (Cs .Lt (.ref l) (.ref b)) Q E s:=by
 obtain⟨⟨cls,H,data,u⟩,L,B,n,I⟩:=id y;obtain⟨⟨T,O,data2,C⟩,J,G,M,U⟩:=id k;simp only at B I G U;subst B I G U;exact richCompare_meets_room (op:=.Lt) ⟨_,L,rfl⟩ ⟨_,J,rfl⟩ PySem.F.slot_tuple_lt PySem.F.entry_tuple_lt (PySem.F.args_tuple_lt_2 _ _) (cW l b items Y n M H O u C ns N hi z)
  ⟨L,J,show Fa (lexLt ns N)≠Value.notImplemented/\Q (.bool (lexLt ns N)) s from⟨(λx=>nomatch x),h⟩⟩ j
theorem we {vs ws:Y0}(k:Tc s.heap t vs.toArray)(y:Tc s.heap b ws.toArray)(hv:vs≠[])
  (u:ws=[]->Q (.ref t) s) (j:ws≠[]->Q (.ref s.heap.objs.size) { s with heap:=s.heap.push { cls:=.type "tuple",data:=.seq (vs++ws).toArray } })
  (B:vs.length+ws.length<=sizeLine):Ap (As prog w) A (Et .Add (.ref t) (.ref b)) Q E s:=by
 obtain⟨⟨cls,L,data,z⟩,O,I,n,M⟩:=id k;obtain⟨⟨H,J,data2,N⟩,Y,G,T,U⟩:=id y;simp only at I M G U;subst I M G U;have e:vs.toArray++ws.toArray=(vs++ws).toArray:=by simp
 by_cases C:ws=[]
 .exact Xe ⟨_,O,Z⟩ ⟨_,Y,Z⟩ So Vu Nz Nd (Mu _ _)
   (tuple_addW1 t b vs.toArray ws.toArray n T L J z N (by simpa using hv) (by simp[C])) ⟨O,Y,u C⟩
 .refine Xe ⟨_,O,Z⟩ ⟨_,Y,Z⟩ So Vu Nz Nd (Mu _ _)
   (tuple_addW2 t b vs.toArray ws.toArray n T L J z N (by simpa using hv) (by simpa using C) (by rw[Bk,Bk];exact B)) ⟨O,Y,?_⟩
  rw[e];exact j C
noncomputable def dj (n d:Aj):Al Aq->Aj
 |none=>d
 |some v=>if v<0 then (v+(n:Aq)).toNat else min v.toNat n
def qAP (n d:Aj)(Y:d<=n)(o:Al Aq):dj n d o<=n:=by
 cases o with
 |none=>exact Y
 |some v =>
  show (if v<0 then (v+(n:Aq)).toNat else min v.toNat n)<=n;by_cases hv:v<0;rw[Au hv];lia;rw[AT hv];exact Nat.min_le_right _ _
def ZD (v:Aq)(n d:Aj):(if v<0 then max (v+(n:Aq)) 0 else min v (n:Aq))=((dj n d (Aa v):Aj):Aq):=by
 show (if v<0 then max (v+(n:Aq)) 0 else min v (n:Aq))=(((if v<0 then (v+(n:Aq)).toNat else min v.toNat n):Aj):Aq);by_cases hv:v<0;simp only[Au hv];lia;simp only[AT hv];lia
def WT (lo hi:Al Aq)(n:Aj):Ma lo hi 1 (n:Aq)=(((dj n 0 lo:Aj):Aq),((dj n n hi:Aj):Aq)):=by
 have Y:¬ ((1:Aq)<0):=by lia
 unfold Ma;simp only[Y,Dq];refine ZB ?_ ?_
 .cases lo with
  |none=>rfl
  |some v=>exact ZD v n 0
 .cases hi with
  |none=>rfl
  |some v=>exact ZD v n n
def V2 (i j:Aj):Jl (i:Aq) (j:Aq) 1=j-i:=by
 unfold Jl;have Y:(1:Aq)>0:=by lia
 simp only[Y,Dr,Xf];split <;> lia
def dZ {Q:Al Aq->Ai->Prop}(p:Pk v o)(h:Q o s):Ap (As prog w) A (Builtin.Slice.slicePartIndex v) Q E s:=by
 cases p with
 |none=>exact slicePart_none h
 |int i t=>exact slicePart_int h
theorem kQ {n:Aj}{Q:Aq × Aq × Aj->Ai->Prop}(hs:s.heap.IsSliceOf N G U .none)(pl:Pk G lo)(O:Pk U hi)
  (h:Q (((dj n 0 lo:Aj):Aq),1,dj n n hi-dj n 0 lo) s):Ap (As prog w) A (Qs (.ref N) (pure (n:Aq))) Q E s:=by
 obtain⟨os,Y,C,J⟩:=id hs;unfold Qs Builtin.Slice.sliceFields;refine Ad (Ad (Dt Y J (x:=G) rfl (Ad (Dt Y J (x:=U) rfl (Ad (Dt Y J (x:=.none) rfl (An ?_)))))));refine Ad (slicePart_none ?_);show Ap _ _ (if ((1:Aq) == 0)=Vp then _ else _) _ _ s;rw[AT aC];refine Ad (dZ pl (Ad (dZ O (Ad (An ?_)))));show Ap _ _ (match Ma lo hi 1 (n:Aq) with|(lo,hi)=>pure (lo,(1:Aq),Jl lo hi 1)) _ _ s;rw[WT lo hi n];show Ap _ _ (pure (((dj n 0 lo:Aj):Aq),(1:Aq),Jl ((dj n 0 lo:Aj):Aq) ((dj n n hi:Aj):Aq) 1)) _ _ s;rw[V2];exact An h
def FE (xs:Bs Ac)(i k:Aj):((Cp k).filterMap λ(m:Aj)=>xs[((i:Aq)+(m:Aq)*1).toNat]?).toArray=((xs.toList.drop i).take k).toArray:=by
 have e:(λ(m:Aj)=>xs[((i:Aq)+(m:Aq)*1).toNat]?)=λm=>xs[i+m]?:=by
  funext m;have:((i:Aq)+(m:Aq)*1).toNat=i+m:=by lia
  rw[this]
 rw[e];have:=pick_run xs i k;rw[Qk] at this;have Y:((λx=>xs[x]?)∘λx=>i+x)=λm=>xs[i+m]?:=Z;rw[Y] at this;rw[this]
theorem ju (J:Tc s.heap t items)(hs:s.heap.IsSliceOf C L B .none)(pl:Pk L lo)(I:Pk B hi)
  (hw:¬ (dj items.size 0 lo=0/\dj items.size items.size hi=items.size))
  (h:Q (.ref s.heap.objs.size) { s with heap:=s.heap.push { cls:=.type "tuple",data:=.seq ((items.toList.drop (dj items.size 0 lo)).take (dj items.size items.size hi-dj items.size 0 lo)).toArray } })
  (H:items.size<=sizeLine):Ap (As prog w) A (Og (.ref t) (.ref C)) Q E s:=by
 have Y:sizeOk (.seq ((items.toList.drop (dj items.size 0 lo)).take (dj items.size items.size hi-dj items.size 0 lo)).toArray):=by show ((items.toList.drop (dj items.size 0 lo)).take (dj items.size items.size hi-dj items.size 0 lo)).toArray.size<=sizeLine;rw[Bk,Fo,Gq,Dp];lia
 have j:dj items.size items.size hi<=items.size:=qAP _ _ (Ay _) hi;obtain⟨os,O,N,T⟩:=id hs;have G:s.TypeIs (.ref C) "slice":=⟨os,O,N⟩;unfold Og
 try with_reducible refine Df ?_
 first|refine Ad (An ?_)|skip
 refine Ad (Rf J.typeIs aC ?_);refine Ad (Dv (name:=Fb "__getitem__") J.typeIs Fi
  (Dw Fi J.typeIs Vv ?_ (Wy _ _)))
 show Ap _ _ (Qt (.ref t) >>= _) _ _ s;refine Ad (tupleItemsOf_ J ?_);refine Ad (Lr G ?_);rw[Au aC];refine Ad (kQ hs pl I ?_);have U:¬ ((((dj items.size 0 lo:Aj):Aq) == 0&&(1:Aq) == 1&&(dj items.size items.size hi-dj items.size 0 lo) == items.size)=Vp):=by intro q;rw[Ax,Ax] at q;have M:((dj items.size 0 lo:Aj):Aq)=0:=eq_of_beq q.1.1;have z:dj items.size items.size hi-dj items.size 0 lo=items.size:=eq_of_beq q.2;exact hw ⟨by lia,by lia⟩
 show Ap _ _ (if (((dj items.size 0 lo:Aj):Aq) == 0&&(1:Aq) == 1&&(dj items.size items.size hi-dj items.size 0 lo) == items.size)=Vp then _ else _) _ _ s;rw[AT U,FE]
 first
  |exact Ad (m:=Jr _) (Dj (An ⟨_,rfl,An h⟩) Y)
  |exact Ad (m:=Jr _) (Dj (Ad (An (An ⟨_,rfl,An h⟩))) Y)
  |exact Ad (Ad (m:=Jr _) (Dj (An (An ⟨_,rfl,An h⟩)) Y))
  |exact Ad (Ad (m:=Jr _) (Dj (An ⟨_,rfl,An h⟩) Y))
end
end _H
namespace _L
abbrev TO:=St->Hp->(Al Aq->Hp->Prop)->Prop
def PO (X:Cx)(e:Al Bl)(t:TO):Prop:=
 ∀ (J:J0) (s:Ai) (Y : St) (H:Hp) (Q:Al Aq->Hp->Prop),Inv X J Y H s->t Y H Q ->
  a8 X (evalPart e X.env) (λu G=>∃ o U,Inv X J Y U G/\Pk u o/\Q o U) X.xe s
def E8:TO:=λ_ H Q=>Q Zw H
def qBz (t:TE):TO:=λY H Q=>t Y H λx J=>∃ i,x=.int i/\Q (Aa i) J
def YA {ns:Ab Aq}:∀ {us:Y0},qQ (ns.map V.int) us->Lm us ns:=by
 induction ns with
 |nil=>intro us r;rw[List.map_nil] at r;cases r;exact .nil
 |cons n ns Q =>
  intro us r;rw[Ej] at r;cases r with
  |cons J Y =>
   obtain⟨t,e⟩:=J;subst e;exact .cons n t (Q Y)
section
variable {X:Cx}{e:Bl}{te:TE}{lo hi:Al Bl}{tl th:TO}{ai p2:Ea}
def RD:PO X Zw E8:=by intro J s Y H Q I h;rw[Vw];exact An ⟨Zw,H,I,.none,h⟩
def RE (h:PE X e te):PO X (Aa e) (qBz te):=by intro O s Y H Q I C;rw[evalPart_some];refine bi (h O s Y H _ I C) λu B ⟨x,G,U,N,J⟩=>?_;obtain⟨i,rfl,q⟩:=J;obtain⟨t,rfl⟩:=N;exact⟨Aa i,G,U,.int i t,q⟩
def zt (X:Cx)(r:V->Al Aq->Al Aq->Hp->VK->Prop):Prop:=
 ∀ (U:J0) (s:Ai) (Y : St) (H:Hp) (x:V) (v G J:Ac) (lo hi:Al Aq) (N:Af) (Q:VK),Inv X U Y H s->qT x v->s.heap.IsSliceOf N G J .none->Pk G lo->Pk J hi->r x lo hi H Q ->
  ∃ T id,typeLookup (.type T) "__getitem__" = pure (Aa (.builtin id))/\s.TypeIs v T/\a8 X (Og v (.ref N)) (EP X U Y Q) X.xe s
def tSl (r:V->Al Aq->Al Aq->Hp->VK->Prop)(te:TE)(tl th:TO):TE:=λY H Q=>te Y H λx G=>tl Y G λl J=>th Y J λu U=>r x l u U Q
def oS {r:V->Al Aq->Al Aq->Hp->VK->Prop}(o:zt X r)(z:PE X e te)(k:PO X lo tl)(L:PO X hi th):PE X (.Subscript e (.Slice lo hi Zw p2) ai) (tSl r te tl th):=by intro U s Y H Q I h;refine Vx (bi (z U s Y H _ I h) λv E ⟨x,A,c,d,g⟩=>?_);refine wpAny_Slice (bi (k U E Y A _ c g) λN w ⟨l,n,y,pl,C⟩=>bi (L U w Y n _ y C) λG J ⟨u,O,p,j,M⟩=>?_);rw[Vw];refine An ?_;have f:Inv X U Y O { J with heap:=J.heap.push { cls:=.type "slice",data:=.fields #[N,G,.none] } }:=p.kept (t':=J.toks) λb i q=>Ak _ q;obtain⟨T,id,B,t,m⟩:=o U { J with heap:=J.heap.push { cls:=.type "slice",data:=.fields #[N,G,.none] } } Y O x v N G l u J.heap.objs.size Q f d (AaP ..) pl j M;show a8 X (Rg e (.Slice lo hi Zw p2) v (.ref J.heap.objs.size)) (EP X U Y Q) X.xe { J with heap:=J.heap.push { cls:=.type "slice",data:=.fields #[N,G,.none] } };exact tail_any (ops:=[.ref J.heap.objs.size,v]) t B m (by with_unfolding_all rfl)
def fY (xs:Ab V)(lo hi:Al Aq):Ab V:=(xs.drop (_H.dj xs.length 0 lo)).take (_H.dj xs.length xs.length hi-_H.dj xs.length 0 lo)
def n6 (xs:Ab V)(lo hi:Al Aq):(fY xs lo hi).length<=xs.length:=by unfold fY;rw[Fo,Gq];lia
def qC3 (K:Ag):V->Al Aq->Al Aq->Hp->VK->Prop:=λx lo hi H Q=>∃ a Y,x=.ref a/\ke K H a Y /\
 ¬ (_H.dj Y.length 0 lo=0/\_H.dj Y.length Y.length hi=Y.length)/\∀ p,H p=Zw->Q (.ref p) (bz H p (.tup (fY Y lo hi)))
def qAT:zt X (qC3 X.K):=by
 intro w s Y H x v z M lo hi j Q I B E pl L h;obtain⟨a,U,rfl,O,T,q⟩:=h;cases B;obtain⟨C,r,N,G⟩:=I.tuple O;have J:C.toArray.size=U.length:=by rw[Bk];exact r.length.symm
 refine⟨"tuple",_,Fi.lookup,N.typeIs,?_⟩;refine _H.ju N E pl L (by rw[J];exact T) ?_ (by rw[J];exact G);rw[J];refine⟨.ref s.heap.objs.size,_,I.laid (t':=s.toks) (o:=.tup (fY U lo hi)) (λb A q=>Ak _ q) (Ay _) ?_,Z,q _ (I.hok.fresh (Ay _))⟩;exact⟨Ca (n6 U lo hi) G,_,(r.drop (_H.dj U.length 0 lo)).take (_H.dj U.length U.length hi-_H.dj U.length 0 lo),Ul _ _⟩
end
end _L
namespace _L
variable {aa:J0}{s:Ai}{H:Hp}{Y:St}
noncomputable def qg (n:Aj)(i:Aq):Al Aj:=if 0<=i then (if i<n then Aa i.toNat else Zw) else if -(n:Aq)<=i then Aa (i+n).toNat else Zw
def jm {J:Type}(xs:Ab J)(i:Aq):Al J:=(qg xs.length i).bind λj=>xs[j]?
def X3 (h:qg n i=Aa j):seqIndex? i n=Aa j/\j<n /\ -(n:Aq)<=i/\i<n:=by
 unfold qg at h;by_cases J:0<=i
 .rw[Au J] at h;by_cases Q:i<n
  .rw[Au Q] at h;have e:i.toNat=j:=Cw h;exact⟨by rw[Zb J Q,e],by lia,by lia,Q⟩
  .rw[AT Q] at h;cases h
 .rw[AT J] at h;by_cases Q : -(n:Aq)<=i
  .rw[Au Q] at h;have e:(i+n).toNat=j:=Cw h;exact⟨by rw[seqIndex_neg li Q,e],by lia,Q,by lia⟩
  .rw[AT Q] at h;cases h
def sI {J:Type}{xs:Ab J}{v:J}(h:jm xs i=Aa v):∃ j,seqIndex? i xs.length=Aa j/\xs[j]? = Aa v/\j<xs.length /\ -(xs.length:Aq)<=i/\i<xs.length:=by
 unfold jm at h;cases e:qg xs.length i with
 |none=>rw[e] at h;cases h
 |some j =>
  rw[e] at h;obtain⟨N,G,Q,U⟩:=X3 e;exact⟨j,N,h,G,Q,U⟩
def aX {J:Type}(xs:Ab J)(v:J):jm (xs++[v]) (-1)=Aa v:=by
 have Q:(xs++[v]).length=xs.length+1:=by simp
 have e:qg (xs++[v]).length (-1)=Aa xs.length:=by unfold qg;rw[Q,AT aC,Au li];congr 1;lia
 unfold jm;rw[e];show (xs++[v])[xs.length]? = Aa v;simp
def gV (b:Bl):Prop:=∀ o i,subscripted b Yp o i=operate [o,i] (Og o i)
def A_ (X:Cx)(r:R2):Prop:=
 ∀ (U J:Bl) (aa:J0) (s:Ai) (Y : St) (H:Hp) (x y:V) (v u:Ac) (Q:VK),Inv X aa Y H s->qT x v->qT y u->r x y H Q ->
  subscripted J Yp v u=operate [v,u] (Og v u)->a8 X (Rg U J v u) (EP X aa Y Q) X.xe s
section
variable {X:Cx}{a b:Bl}{ta tb:TE}{ai:Ea}
def qBl (J:A_ X r)(G:PE X a ta)(N:PE X b tb)(hs:gV b):PE X (.Subscript a b ai) (tOp r ta tb):=by intro aa s Y H Q I h;exact Vx (qCG G N I h λv u O x y C U B L q=>J a b aa O Y C x y v u Q U B L q (hs _ _))
def qCw (K:Ag):R2:=λx y H Q=>∃ p J i v,x=.ref p/\y=.int i/\kr K H p J/\jm J i=Aa v/\Q v H
def qCy (K:Ag):R2:=λx y H Q=>∃ p J i v,x=.ref p/\y=.int i/\ke K H p J/\jm J i=Aa v/\Q v H
def qCx:R2:=λx y H Q=>∃ z i c,x=.str z/\y=.int i/\z.length<=sizeLine/\jm z.cps.toList i=Aa c/\Q (.str ⟨#[c]⟩) H
def X4:A_ X (qCw X.K):=by
 intro cp O aa s Y H x y v u Q I k c h L;obtain⟨p,e,i,z,rfl,rfl,T,o,q⟩:=h;cases k;obtain⟨t,rfl⟩:=c;obtain⟨A,r,pl,m⟩:=I.list T;obtain⟨j,U,E,f,l,g⟩:=sI o;obtain⟨w,C,N⟩:=r.get E;have M:=r.length;have n:=pQ;have J:EP X aa Y Q w s:=⟨z,H,I,N,q⟩;by_cases B:0<=i
 .have G:i.toNat=j:=by
   rw[Zb B g] at U;exact Cw U
  exact item_listR pl.isList B li (by rw[G];simpa using C) J L
 .have G:(i+(A.toArray.size:Aq)).toNat=j:=by
   rw[seqIndex_neg li l] at U;rw[Bk,<- M];exact Cw U
  exact Tv (x:=w) pl.isList.typeIs Xw.lookup
   (wpAny_getItem_list_neg (Q:=λr d=>r=w/\EP X aa Y Q r d) pl.isList li (by rw[Bk] <;> lia) li (by rw[G];simpa using C) ⟨Z,J⟩) L
def ID:A_ X (qCy X.K):=by
 intro m G aa s Y H x y v u Q I L A h M;obtain⟨p,f,i,z,rfl,rfl,N,T,q⟩:=h;cases L;obtain⟨t,rfl⟩:=A;obtain⟨g,r,pl,l⟩:=I.tuple N;obtain⟨j,E,O,o,c,n⟩:=sI T;obtain⟨w,C,U⟩:=r.get O;have B:=r.length;have d:=pQ;have J:EP X aa Y Q w s:=⟨z,H,I,U,q⟩;exact Tv (x:=w) pl.typeIs slot_tuple_getitem.lookup
  (getItem_tuple (j:=j) (Q:=λr k=>r=w/\EP X aa Y Q r k) pl li li (by rw[Bk,<- B];exact E) (by simpa using C) ⟨Z,J⟩) M
def IC:A_ X qCx:=by
 intro l J aa s Y H x y v u Q I C A h M;obtain⟨z,i,c,rfl,rfl,k,B,q⟩:=h;obtain⟨t,rfl⟩:=C;obtain⟨o,rfl⟩:=A;obtain⟨j,U,G,w,L,E⟩:=sI B;have O:z.cps.toList.length=z.length:=by simp[Jy]
 rw[O] at U L E;have p:=pQ;exact tail_any (Mb s z t) slot_str_getitem.lookup (getItem_str (c:=c) (by
  have N:decide (i < -(2 ^ 63:Aq))=false:=Bo li;have T:decide (i>=2 ^ 63)=false:=Bo li;rw[N,T,Bool.or_false]) (by rw[U];simpa using G) ⟨.str ⟨#[c]⟩,H,I.tok _,⟨_,Z⟩,q⟩) M
def YO (ah:Y0)(n j:Aj)(u:Ac):Ex (·.setIfInBounds j u) { cls:=.type "list",data:=.seq ah.toArray n } = { cls:=.type "list",data:=.seq (ah.set j u).toArray n }:=by simp[Ex]
def Inv.lst {p:Af}{xs:Ab V}(I:Inv X aa Y H s)(h:H p=Aa (.lst xs)) :
  ∃ (ah:Y0) (n:Aj),qQ xs ah/\s.heap.get? p=Aa { cls:=.type "list",data:=.seq ah.toArray n } /\ xs.length<=sizeLine:=by
 obtain⟨z,ah,n,r,e⟩:=I.hok p _ h;exact⟨ah,n,r,e,z⟩
def Inv.lstUpd {xs ys:Ab V}{ah js:Y0}{n Q:Aj}{f:Ce->Ce}(I:Inv X aa Y H s)(h:H p=Aa (.lst xs))
  (U:s.heap.get? p=Aa { cls:=.type "list",data:=.seq ah.toArray n }) (J:f { cls:=.type "list",data:=.seq ah.toArray n } = { cls:=.type "list",data:=.seq js.toArray Q }) (r:qQ ys js) (hz:ys.length<=sizeLine) (t:Aj) :
  Inv X aa Y (bz H p (.lst ys)) { s with heap:=s.heap.update p f,toks:=t }:=by
 have e:(s.heap.update p f).get? p=Aa { cls:=.type "list",data:=.seq js.toArray Q }:=by rw[Dx f U (by rw[J] <;> rfl),J]
 refine I.write (x:=p) (e:=p) (by rw[h];trivial) (.inl Z) (λb u G q=>(Cj _ _ (Dm G)).trans q) ⟨_,e⟩ ?_;exact⟨hz,js,Q,r,e⟩
def qBn:V->V->V->Hp->(Hp->Prop)->Prop:=λo i v H Q=>∃ p J k j,o=.ref p/\i=.int k/\H p=Aa (.lst J)/\qg J.length k=Aa j/\Q (bz H p (.lst (J.set j v)))
def FY:aS X qBn:=by
 intro aa s Y H o i v f d u Q I w z l h;obtain⟨p,y,k,j,rfl,rfl,T,M,q⟩:=h;cases w;obtain⟨t,rfl⟩:=z;obtain⟨C,n,r,G,A⟩:=I.lst T;obtain⟨J,g,O,L⟩:=X3 M;have N:=r.length;have c:=pQ;have E:Inv X aa Y (bz H p (.lst (y.set j v))) { s with heap:=s.heap.update p (Ex (·.setIfInBounds j u)) }:=
  I.lstUpd T G (YO C n j u) (r.set l j) (by rw[Pb];exact A) s.toks
 by_cases B:0<=k
 .have U:k.toNat=j:=by
   rw[Zb B L] at J;exact Cw J
  exact PySem.W.ki_setAt G B li (by rw[Bk,<- N];exact L) (by rw[U];exact⟨_,E,q⟩)
 .have U:(k+(C.toArray.size:Aq)).toNat=j:=by
   rw[seqIndex_neg li O] at J;rw[Bk,<- N];exact Cw J
  exact PySem.W.ki_setBack G li (by rw[Bk,<- N];exact O) li (by rw[U];exact⟨_,E,q⟩)
def Q8 (lo Q:Al Aq)(n:Aj):(Mm lo Q Zw n).1=((_H.dj n 0 lo:Aj):Aq)/\(Mm lo Q Zw n).2.1=((_H.dj n n Q:Aj):Aq)/\(Mm lo Q Zw n).2.2=1:=by
 refine⟨?_,?_,Z⟩
 .cases lo with
  |none=>simp[Mm,_H.dj]
  |some i =>
   simp only[Mm,_H.dj,Zc,show (1:Aq)>0 by decide,Dr];by_cases h:i<0
   .simp only[h,Dr] <;> lia
   .simp only[h,Dq] <;> lia
 .cases Q with
  |none=>simp[Mm,_H.dj]
  |some i =>
   simp only[Mm,_H.dj,Zc,show (1:Aq)>0 by decide,Dr];by_cases h:i<0
   .simp only[h,Dr] <;> lia
   .simp only[h,Dq] <;> lia
def cV (ah:Y0)(lo Q:Al Aq):slicePick ah.toArray lo Q Zw=((ah.drop (_H.dj ah.length 0 lo)).take (_H.dj ah.length ah.length Q-_H.dj ah.length 0 lo)).toArray:=by obtain⟨U,G,J⟩:=Q8 lo Q ah.toArray.size;unfold slicePick;rw[U,G,J];simp only[sliceRange_one,pick_run,Bk] <;> rfl
def qC1 (K:Ag):V->Al Aq->Al Aq->Hp->VK->Prop:=λx lo U H Q=>∃ a J,x=.ref a/\kr K H a J/\∀ p,H p=Zw->Q (.ref p) (bz H p (.lst (fY J lo U)))
def W3:zt X (qC1 X.K):=by intro aa s Y H x v w M lo G z Q I B T pl L h;obtain⟨a,J,rfl,O,q⟩:=h;cases B;obtain⟨A,r,N,C⟩:=I.list O;have U:=r.length;refine⟨"list",_,Xw.lookup,N.isList.typeIs,?_⟩;refine wpAny_getItem_list_slice N.isList T pl L .none aA ?_ (by rw[Bk] <;> lia);rw[cV,<- U];refine⟨.ref s.heap.objs.size,_,I.laid (t':=s.toks) (o:=.lst (fY J lo G)) (λb E q=>Ak _ q) (Ay _) ?_,Z,q _ (I.hok.fresh (Ay _))⟩;exact⟨Ca (n6 J lo G) C,_,0,(r.drop (_H.dj J.length 0 lo)).take (_H.dj J.length J.length G-_H.dj J.length 0 lo),Bf _ Z⟩
def oP:pe X (Cs .NotIn) (λx y H Q=>∃ i j,x=.str i/\y=.str j/\Q (.bl (!(!(Gu j i 0 j.length 1).isEmpty))) H):=by intro aa s Y H x y v u Q I J U h;obtain⟨i,j,rfl,rfl,q⟩:=h;obtain⟨t,rfl⟩:=J;obtain⟨G,rfl⟩:=U;exact notIn_str ⟨.bl _,H,I,rfl,q⟩
def fW:lG X (.type "list") (λxs H Q=>∃ p ys,xs=[.ref p]/\(kr X.K H p ys\/ke X.K H p ys)/\∀ l,H l=Zw->Q (.ref l) (bz H l (.lst ys))):=by
 intro aa s Y H xs z Q I r h;obtain⟨p,ys,rfl,hq,q⟩:=h;obtain⟨u,rfl,w⟩:=jT r;cases w;have B:∀ (U:Y0),qQ ys U->ys.length<=sizeLine->∀ (J:Bc) (G:Aj),(∀ b M,s.heap.get? b=Aa M->J.get? b=Aa M) ->
   J.get? s.heap.objs.size=Aa { cls:=.type "list",dict:=Zw,data:=.seq U.toArray G,slots:=#[] } -> EP X aa Y Q (.ref s.heap.objs.size) { s with heap:=J }:=λU N O J G L e =>
  ⟨.ref s.heap.objs.size,_,I.laid (t':=s.toks) L (Ay _) (show zR X.prog X.w _ J _ (.lst ys) from⟨O,U,G,N,e⟩),Z,q _ (I.hok.fresh (Ay _))⟩
 rcases hq with hq|hq
 .obtain⟨U,N,pl,O⟩:=I.list hq;have C:=N.length;obtain⟨o,T,E,n,A⟩:=pl.isList;exact call_list_seq p (.inl rfl) T E A (λJ G L e=>B U N O J G L e) (by simp only[Bk] <;> lia)
 .obtain⟨U,N,pl,O⟩:=I.tuple hq;have C:=N.length;obtain⟨o,T,E,n,A⟩:=pl;exact call_list_seq p (.inr rfl) T E A (λJ G L e=>B U N O J G L e) (by simp only[Bk] <;> lia)
def fP:lG X (.type "tuple") (λxs H Q=>∃ p ys,xs=[.ref p]/\((kr X.K H p ys/\∀ l,H l=Zw->Q (.ref l) (bz H l (.tup ys)))\/(ke X.K H p ys/\Q (.ref p) H))):=by
 intro aa s Y H xs A Q I r h;obtain⟨p,ys,rfl,h⟩:=h;obtain⟨u,rfl,L⟩:=jT r;cases L;rcases h with⟨U,q⟩|⟨U,q⟩
 .obtain⟨G,N,pl,O⟩:=I.list U;have C:=N.length;refine call_tuple_list pl.isList (λJ E=>?_) (by simp only[Bk] <;> lia);have B:Inv X aa Y H { s with heap:=J }:=I.kept (t':=s.toks) E;have T:Inv X aa Y (bz H J.objs.size (.tup ys)) { s with heap:=J.push { cls:=.type "tuple",data:=.seq G.toArray } }:=
   B.laid (t':=s.toks) (λb o e=>Ak _ e) (Ay _) (show zR X.prog X.w _ _ _ (.tup ys) from⟨O,G,N,Ul _ _⟩)
  exact⟨.ref J.objs.size,_,T,Z,q _ (B.hok.fresh (Ay _))⟩
 .obtain⟨G,N,pl,O⟩:=I.tuple U;exact call_tuple_same pl ⟨.ref p,H,I,Z,q⟩
def _V (K:Ag)(T:Ek)(x:V)(H:Hp):Prop:=match x with
 |.str _=>T = "str"
 |.int _=>T = "int"
 |.ref p=>(T = "list" /\ ∃ J,kr K H p J)\/(T = "tuple" /\ ∃ o,K.lookup p=Aa o/\o.cls=.type "tuple" /\ o.dict=Zw) \/
   (T = "dict" /\ ((∃ Q,H p=Aa (.dK Q))\/∃ Q,H p=Aa (.dT Q)))\/(T = "set" /\ ∃ S n,H p=Aa (.set S n))
 |_=>Fz
def G8 (I:Inv X aa Y H s)(r:qT x v)(ty:_V X.K T x H) :
  s.TypeIs v T/\∀ a,v=.ref a->∃ O,s.heap.get? a=Aa O/\O.dict=none:=by
 cases x with
 |str z =>
  obtain⟨t,rfl⟩:=r;cases (show T = "str" from ty);exact⟨Mb s z t,λ_ e=>nomatch e⟩
 |int i =>
  obtain⟨t,rfl⟩:=r;cases (show T = "int" from ty);exact⟨typeIs_int s i t,λ_ e=>nomatch e⟩
 |ref p =>
  cases r;rcases ty with⟨rfl,L,C⟩|⟨rfl,o,Q,B,U⟩|⟨rfl,Q⟩|⟨rfl,S,n,Q⟩
  .obtain⟨E,_,pl,_⟩:=I.list C;refine⟨pl.isList.typeIs,λa e=>?_⟩;cases e;obtain⟨o,n,e,c,U,_⟩:=pl;exact⟨o,e,U⟩
  .refine⟨⟨o,I.kIn p o Q,B⟩,λa e=>?_⟩;cases e;exact⟨o,I.kIn _ o Q,U⟩
  .have z:∃ o,s.heap.get? p=Aa o/\o.ExactDict:=by
    rcases Q with⟨N,Q⟩|⟨N,Q⟩
    .obtain⟨_,_,_,_,o,_,_,e,J,_⟩:=I.hok p _ Q;exact⟨o,e,J⟩
    .obtain⟨_,_,_,_,o,_,_,e,J,_⟩:=I.hok p _ Q;exact⟨o,e,J⟩
   obtain⟨o,e,J⟩:=z;refine⟨⟨o,e,J.1⟩,λa G=>?_⟩;cases G;exact⟨o,e,J.2.1⟩
  .obtain⟨o,_,_,_,e,J,_⟩:=I.hok p _ Q;refine⟨⟨o,e,J.1⟩,λa G=>?_⟩;cases G;exact⟨o,e,J.2.1⟩
 |_=>exact Am ty
variable {e:Bl}
/- xs.append(e),list.index on a module's tuple .. are MtR facts of 06m -/
end
end _L
namespace _L
variable {us:Y0}
def MtM (X:Cx)(id:Ek)(r:V->Ab V->Hp->VK->Prop):Prop:=
 ∀ (J:J0) (s:Ai) (Y : St) (H:Hp) (x:V) (U:Ab V) (v:Ac) (us:Y0) (Q:VK),Inv X J Y H s->qT x v->qQ U us->r x U H Q ->
  a8 X (call (.builtin id) (v::us)) (EP X J Y Q) X.xe s
def qQ.one {x:V}(h:qQ [x] us):∃ u,us=[u]/\qT x u:=jT h
def qQ.zero:∀ {us:Y0},qQ [] us->us=[]
 |_,.nil=>rfl
theorem qQ.dropLast (h:qQ xs us):qQ xs.dropLast us.dropLast:=by
 induction h with
 |nil=>exact .nil
 |cons r t Q =>
  cases t with
  |nil=>exact .nil
  |cons q Y=>exact .cons r Q
theorem qQ.rep (h:qQ xs us):∀ k:Aj,qQ (Da k xs).flatten (Da k us).flatten
 |0=>.nil
 |k+1=>by rw[He,He,Jm,Jm];exact qQ.append h (qQ.rep h k)
def _t {J:Type}(l:Ab J) : l.eraseIdx (l.length-1)=l.dropLast:=by
 induction l with
 |nil=>rfl
 |cons a r Q =>
  cases r with
  |nil=>rfl
  |cons b r =>
   have e:(a::b::r).length-1=((b::r).length-1)+1:=by have Y:(a::b::r).length=r.length+2:=Z;have U:(b::r).length=r.length+1:=Z;lia
   rw[e,Tf,Q]
   all_goals rfl
theorem eX (ah:Y0):∀ (k:Aj) (aq:Y0),
  Aa1 (λY J=>Y++J) aq.toArray (Da k ah.toArray)=(aq++(Da k ah).flatten).toArray
 |0,aq=>by simp
 |k+1,aq=>by
  have e:aq.toArray++ah.toArray=(aq++ah).toArray:=by simp
  have Q:(aq++ah)++(Da k ah).flatten=aq++(Da (k+1) ah).flatten:=by rw[He,Jm,Ia]
  rw[<- Q,<- eX ah k (aq++ah),<- e,He,Tw]
section
variable {X:Cx}{aa:J0}{Y: St}{H:Hp}{s:Ai}{l:Af}{xs ys:Ab V}
def Inv.lset {ah js:Y0}{n:Aj}{f:Bs Ac->Bs Ac}{t':Aj}(I:Inv X aa Y H s)(Q:H l=Aa (.lst xs))
  (e:s.heap.get? l=Aa { cls:=.type "list",data:=.seq ah.toArray n }) (U:f ah.toArray=js.toArray) (hv:qQ ys js) (hz:ys.length<=sizeLine) :
  Inv X aa Y (bz H l (.lst ys)) { s with heap:=s.heap.update l (Ex f),toks:=t' }:=by
 have q:=Zd e f;rw[U] at q;refine I.write (x:=l) (e:=l) (by rw[Q];exact trivial) (.inl Z) (λN u G J=>(Cj s.heap (Ex f) (Dm G)).trans J) ⟨_,q⟩ ?_;exact⟨hz,js,_,hv,q⟩
def Inv.lstM (I:Inv X aa Y H s)(Q:H l=Aa (.lst xs)):xs.length<=sizeLine/\∃ (ah:Y0) (n:Aj),qQ xs ah/\xs.length=ah.length/\s.heap.get? l=Aa { cls:=.type "list",data:=.seq ah.toArray n }:=by obtain⟨z,ah,n,r,e⟩:=I.hok l _ Q;exact⟨z,ah,n,r,r.length,e⟩
def F8 {n:Aj}(h:n<=sizeLine):Mv n=false:=by unfold Mv;exact Bo li
end
section
variable {X:Cx}
def RP:V->Ab V->Hp->VK->Prop:=λx J H Q=>∃ l Y y,x=.ref l/\J=[y]/\H l=Aa (.lst Y)/\Y.length<sizeLine/\Q .non (bz H l (.lst (Y++[y])))
def JM:MtM X "list.append" RP:=by intro L s Y H x E v us Q I G N h;obtain⟨l,T,y,rfl,rfl,J,C,q⟩:=h;cases G;obtain⟨u,rfl,O⟩:=N.one;obtain⟨z,U,n,r,B,e⟩:=I.lstM J;refine Jz Wz ⟨_,e,rfl⟩ Vy (Vi _ _) (Xx l U.toArray n u (by rw[Bk];lia)) ⟨e,?_⟩;refine⟨.non,_,I.lset (js:=U++[u]) J e aA (r.append (.cons O .nil)) ?_,Z,q⟩;rw[Az,Cu];lia
def qCz:V->Ab V->Hp->VK->Prop:=λx J H Q=>∃ l Y y,x=.ref l/\J=[]/\H l=Aa (.lst Y)/\Y[Y.length-1]? = Aa y/\Q y (bz H l (.lst Y.dropLast))
def IU:MtM X "list.pop" qCz:=by
 intro A s Y H x w v us Q I B L h;obtain⟨l,M,y,rfl,rfl,N,T,q⟩:=h;cases B;have G:=L.zero;subst G;obtain⟨z,J,n,r,C,e⟩:=I.lstM N;obtain⟨u,O,E⟩:=r.get T;have U:J.toArray[J.toArray.size-1]? = Aa u:=by show J.toArray[J.length-1]? = Aa u;rw[<- By,<- C];exact O
 refine Jz F.slot_list_pop ⟨_,e,Z⟩ F.entry_list_pop (F.args_list_pop_1 _) (MeetsSeq.list_pop_last l J.toArray n u U (by rw[Bk];lia)) ⟨e,?_⟩;refine⟨y,_,I.lset (js:=J.dropLast) N e ?_ r.dropLast ?_,E,q⟩;show J.toArray.eraseIdxIfInBounds (J.toArray.size-1)=J.dropLast.toArray;rw[Bk,List.eraseIdxIfInBounds_toArray,_t];rw[List.length_dropLast];lia
def rF {J:Type}(xs:Ab J)(k:Aj):(Da k xs).flatten.length=k*xs.length:=by
 induction k with
 |zero=>simp
 |succ k Q=>rw[He,Jm,Az,Q,Nat.succ_mul,Pl]
end
end _L
namespace _L
section
variable {X:Cx}{aa:J0}{Y: St}{H:Hp}{s:Ai}
def Inv.big (I:Inv X aa Y H s):Ly<s.heap.objs.size:=by have h:Bi<s.heap.objs.size:=(I.mod.glob.keeps I.bk).lt;exact Ng aC h
end
def PX {P:Ba}(h:Bc)(Q:Ly<h.objs.size):zR P w H (h.push { cls:=.type "dict",data:=.dict #[] }) h.objs.size (.dK []):=
 ⟨EQ _,Ff.mpr (Dm (Cm Q)),[],.nil,Heap.DictOf.new h⟩
def qAa:TE:=λ_ H Q=>∀ p,H p=Zw->Q (.ref p) (bz H p (.dK []))
section
variable {X:Cx}{ai:Ea}
def FC:PE X (.Dict [] [] ai) qAa:=λJ s Y H Q I h =>
 wpAny_Dict_empty ⟨.ref s.heap.objs.size,_,I.laid (a:=s.heap.objs.size) (o:=.dK []) (t':=s.toks) (λ_ _ q=>Ak _ q) (Ay _) (PX s.heap I.big),Z,h _ (I.hok.fresh (Ay _))⟩
end
end _L
namespace _A
open PySem.W PySem.Calls
def lV {P:Params}:∀ (ns:Ab Aq) (vs:Y0),WellAll P h vs (ns.map WData.int)->Lm vs ns:=by
 intro ns
 induction ns with
 |nil =>
  intro vs w;rw[List.map_nil] at w;cases w;exact .nil
 |cons n ns Q =>
  intro vs w;rw[Ej] at w;cases w with
  |cons a b =>
   cases a;exact .cons _ _ (Q _ b)
def KM {l:OpenLaw}(H:l.most=Aa n){P:Params}{h:Bc}{args:Ab WData}{Q:Y0}
  (Y:l.row.toRowW.claim.pre args=Vp) (O:WellAll P h Q args) :
  ∃ a vs ns,Q=[Cc a]/\args=[WData.list (ns.map WData.int)]/\h.get? a=Aa { cls:=.type "list",data:=.seq vs.toArray } /\ Lm vs ns/\ns.length<=n:=by
 have C:WShape.hasAll [] args [.list .int]=true:=(pre_splitW Y).1;have B:l.pre.holds [] { args:=args } = true:=(pre_splitW Y).2;obtain⟨d,r,rfl,w,T⟩:=hasAllW_cons C;obtain rfl:=hasAllW_nil T;obtain⟨z,rfl,L⟩:=hasW_list w;obtain⟨ns,rfl⟩:=items_int L;have J:ns.length<=n:=by
  unfold OpenLaw.pre at B;have G:(WTm.not (.lt (.lit (.int (n:Aq))) (.len (.arg 0)))).holds [] { args:=[.list (ns.map .int)] } = true:=by have G:=(holds_andW B).1;rw[H] at G;exact G
  have N:=condW_of G (w_not (w_lt w_lit (w_len_list (w_arg Z))));rw[Ao] at N;refine Nat.le_of_not_lt λq=>?_;have A:(n:Aq)<((ns.length:Aj):Aq):=by lia
  first
   |(rw[Ci A] at N;exact absurd N aC)
   |(simp at N;lia)
 cases O with
 |cons I M =>
  cases M;cases I with
  |list E U=>exact⟨_,_,ns,rfl,rfl,E,lV ns _ U,J⟩
def KB (l:OpenLaw)(args:Ab WData):l.row.toRowW.claim.post args (.bool Vp) args=true:=
 postW_of (r:=l.row.toRowW) (X:=(Vp == Vp))
  (show WShape.has [] (.bool Vp) .bool=Vp by first|rfl|decide|simp[WShape.has,WShape.arms,WShape.armsAll])
  (show (WTm.eq .res (.lit (.bool Vp))).value [] { args:=args,res:=Aa (.bool Vp),after:=args } = Aa (.bool (Vp == Vp)) from w_eq_bool (w_res Z) w_lit) Z
def pv {l:OpenLaw}{n:Aj}{q:Ba}{y:Y8}{j:(Ah->Al Ac)->Bc->Prop}{p:Bu->Bc->Prop}{d:DefRec}
  (b:l.most=Aa n) (I:d.params.defaults=[])
  (call:∀ (w:Bu) (Y Q:Ai) (mg M:J8) (O:Af) (o:Ce) (H L U:Ac) (a:Af) (vs:Y0) (ns:Ab Aq),
   Ground q y [] j w Y mg M Q.heap->p w Q.heap ->
   Q.heap.get? O=Aa o->o.data=.func (docDef d.name d.params d.body d.scope H L U)->Q.heap.CodeRec L d.name->mg d.name=Aa (.ref O) ->
   Q.heap.get? a=Aa { cls:=.type "list",data:=.seq vs.toArray } -> Lm vs ns->ns.length<=n->Q.gens=#[] ->
   Gs (As l.prog w) Rh (.call (.ref O) ⟨[.ref a],[]⟩) (λr s'=>r=.ok (.ret (.bool Vp))/\OldK Q.heap s'.heap/\s'.os=Q.os/\Oc s'.gens) Q) :
  WalkO q y j p l.row.toRowW d [] (λf vs=>Aa2 f vs):=by
 intro w Y Q mg M G s O o H L U x kV m h A z T hg k u as C g i E zc;obtain rfl:x=.none:=Dflts.none z I;obtain rfl:kV=.none:=Dflts.noKw z;obtain⟨a,vs,ns,rfl,rfl,B,J,N⟩:=KM b C E;refine enter_call (Lq (call w Y Q mg M O o H L U a vs ns G s m (fd_plain h) A T B J N hg) λr s' v=>?_);obtain⟨rfl,t,c,e⟩:=v;exact⟨.inl ⟨.bool Vp,.bool Vp,[],rfl,λ_=>rfl,.bool Vp,KB l _,λ_=>⟨Nt,λ_ hm=>(nomatch hm)⟩⟩,t,c,e⟩
end _A
namespace _L
def GB (h:Lm vs ns):qQ (ns.map V.int) vs:=by
 induction h with
 |nil=>exact .nil
 |cons n t h Q=>exact .cons ⟨t,rfl⟩ Q
def sw (K:Ag)(H:Hp)(a:Af)(xs:Ab V):Prop:=
 Rd H a (.lst xs)\/∃ (Q:Y0) (n:Aj),K.lookup a=Aa { cls:=.type "list",data:=.seq Q.toArray n } /\ xs.length<=sizeLine/\qQ xs Q
def sw.l {K:Ag}(h:sw K H a xs):kr K H a xs:=by
 rcases h with h|⟨Q,n,e,l,v⟩
 .exact .inl h
 .exact .inr ⟨_,Q.toArray,n,e,Z,Z,Z,by rw[Bk,<- v.length];exact l,by simpa using v⟩
end _L
namespace _L
noncomputable def xZ (s:Du):Arguments:=match s with
 |.FunctionDef _ a _ _ _ _ _ _ _ _=>a
 |_=>{ posonlyargs:=[],args:=[],vararg:=Zw,kwonlyargs:=[],kw_defaults:=[],kwarg:=Zw,defaults:=[] }
def zJ (s:Du):Ab Du:=match s with
 |.FunctionDef _ _ b _ _ _ _ _ _ _=>b
 |_=>[]
def qH (s:Du):Ey:=match s with
 |.FunctionDef _ _ _ _ _ _ Q _ _ _=>Q
 |_=>{ kind:=.function,names:=[],isGenerator:=Yp,isCoroutine:=Yp }
structure uq (K:Ag)(x qual:Ah)(st:Du)(f:Af)(fd:Ft):Prop where
 ex:∃ (oc:Ac) (od:Al Af) (kV doc pm:Ac) (an:Al Af) (cdv ct:Ac) (osl:Bs (Al Ac)),
  fd=Fp x qual (xZ st) (zJ st) (qH st) .none kV doc pm an cdv ct/\K.lookup f=Aa ⟨oc,od,.func fd,osl⟩/\Js K cdv qual=Vp
 kp:Dd K (.ref f)=Vp
section
variable {K:Ag}
def uq.binds {st:Du}{ps:Y8}(F:uq K x N st f fd)
  (h:∀ (kV Q J:Ac) (G:Al Af) (Y U:Ac) (us:Y0),us.length=ps.length->Tt (Fp x N (xZ st) (zJ st) (qH st) .none kV Q J G Y U) ⟨us,[]⟩=pure (ps.zip us)):yM K fd ps []:=by
 obtain⟨L,B,kV,Q,J,G,Y,U,O,rfl,lk,C⟩:=F.ex;exact .all (h kV Q J G Y U)
def lP {st:Du}{B:Ac}{C O:Al Af}{J:Bs (Al Ac)}{kV Y G Q N:Ac}(l:K.lookup f=Aa ⟨B,C,.func (Fp x U (xZ st) (zJ st) (qH st) .none kV Y G O Q N),J⟩)
  (c:Js K Q U=Vp) (k:Dd K (.ref f)=Vp):uq K x U st f (Fp x U (xZ st) (zJ st) (qH st) .none kV Y G O Q N):=⟨⟨B,C,kV,Y,G,O,Q,N,J,Z,l,c⟩,k⟩
end
def qO (H H':Hp):Prop:=∀ b o,H b=Aa o->H' b=Aa o
def qO.refl (H:Hp):qO H H:=λ_ _ h=>h
def qO.trans (a:qO H Q)(b:qO Q Y):qO H Y:=λc o h=>b c o (a c o h)
def qO.seq {K:Ag}(e:qO H H')(h:kr K H a xs):kr K H' a xs:=by
 rcases h with (h|⟨o,h⟩)|h
 .exact .inl (.inl (e _ _ h))
 .exact .inl (.inr ⟨o,e _ _ h⟩)
 .exact .inr h
end _L
end
section
namespace _D
open _L
inductive D where
 |non|bl (b:Ar)|int (i:Aq)|str (x:Ah)|ty (n:Ek)|obj (a:Af)|tup (xs:Ab D)|lst (xs:Ab D)|dct0|loc (i:Aj)|exn (c:Ac)|fd (ks:Ab ku) (ds:Ab D)|clo (a:Af) (vs:Ab V) (ds:Ab D)|exl (c:Ac) (ns:Y8) (ds:Ab D)
def AL (a:Af)(c:Ac):HO:=.ext λh=>∃ Q,h.get? a=Aa Q/\Q.cls=c
def AK (a:Af)(c:Ac)(J:Af):HO:=.ext λh=>∃ Q,h.get? a=Aa Q/\Q.cls=c/\Q.dict=Aa J/\∃ Y,Q.data=.fields Y
def GP (a:Af)(fs:Ab (Ah × V))(h:Bc):Prop:=∃ Q,h.Ns1 a Q/\(∀ f,uH (fs.lookup f) (Q f))/\Nb Q (fs.map (·.1))
def si (a:Af)(fs:Ab (Ah × V)):HO:=.ext (GP a fs)
inductive MO where
 |dead|lst (xs:Ab D)|dct (kvs:Ab (ku × D))|dcT (kvs:Ab (Ab Aq × D))|ins (C:Af) (fs:Ab (Ah × D))
abbrev ag:=Ab MO
inductive ax (β : Type) where
 |ok (d:β) (S:ag)|ex (c:Ac) (x:D) (S:ag)|bad
@[inline] noncomputable def ax.bind {β γ:Type}(r:ax β)(f:β->ag->ax γ) : ax γ:=
 match r with
 |.ok d S=>f d S
 |.ex c x S=>.ex c x S
 |.bad=>.bad
def ax.bind_ok {β γ:Type}(d:β)(S:ag)(f:β->ag->ax γ) : (ax.ok d S).bind f=f d S:=Z
section
variable (K:Ag)(P:Hp)(J: Ab Af)
mutual
def am:D->V->Prop
 |.non,v=>v=.non
 |.bl b,v=>v=.bl b
 |.int i,v=>v=.int i
 |.str x,v=>v=.str x
 |.ty n,v=>v=.ty n
 |.obj a,v=>v=.ref a/\Dd K (.ref a)=Vp
 |.tup Y,v=>∃ a Q,v=.ref a/\ke K P a Q/\qJ Y Q
 |.lst Y,v=>∃ a Q,v=.ref a/\sw K P a Q/\qJ Y Q
 |.dct0,v=>∃ a,v=.ref a/\P a=Aa (.dK [])
 |.loc i,v=>∃ a,v=.ref a/\J[i]? = Aa a
 |.exn c,v=>∃ a,v=.ref a/\P a=Aa (AL a c)
 |.fd N Y,v=>∃ a o Q,v=.ref a/\P a=Aa (.frz o (.dK (N.zip Q)))/\N.length=Q.length/\qJ Y Q
 |.clo a Q Y,v=>v=.ref a/\qJ Y Q
 |.exl c G Y,v=>∃ a U Q,v=.ref a/\P a=Aa (AK a c U)/\P U=Aa (si U (G.zip Q))/\G.length=Q.length/\qJ Y Q
def qJ:Ab D->Ab V->Prop
 |[],Q=>Q=[]
 |d::U,Q=>∃ w Y,Q=w::Y/\am d w/\qJ U Y
end
end
section
variable {K:Ag}{P P':Hp}{J J':J9}
def vQ (e:qO P P'){a:Af}{xs:Ab V}(h:ke K P a xs):ke K P' a xs:=by
 rcases h with (h|⟨o,h⟩)|h
 .exact .inl (.inl (e _ _ h))
 .exact .inl (.inr ⟨o,e _ _ h⟩)
 .exact .inr h
def XT (e:qO P P'){a:Af}{u:HO}(h:Rd P a u):Rd P' a u:=by
 rcases h with h|⟨o,h⟩
 .exact .inl (e _ _ h)
 .exact .inr ⟨o,e _ _ h⟩
def w9 (e:qO P P'){a:Af}{xs:Ab V}(h:sw K P a xs):sw K P' a xs:=by
 rcases h with h|h
 .exact .inl (XT e h)
 .exact .inr h
def pV {i:Aj}(h:J<+:J')(e:J[i]? = Aa a):J'[i]? = Aa a:=by obtain⟨r,rfl⟩:=h;rw[Cn (Bw.mp e).1];exact e
mutual
theorem am.mono (e:qO P P')(h:J<+:J'):∀ (d:D) (v:V),am K P J d v->am K P' J' d v
 |.non,_,r=>by simpa only [am] using r
 |.bl _,_,r=>by simpa only [am] using r
 |.int _,_,r=>by simpa only [am] using r
 |.str _,_,r=>by simpa only [am] using r
 |.ty _,_,r=>by simpa only [am] using r
 |.obj _,_,r=>by simpa only [am] using r
 |.tup Y,v,r=>by
  simp only[am] at r ⊢;obtain⟨a,Q,rfl,q,t⟩:=r;exact⟨a,Q,rfl,vQ e q,qJ.mono e h Y Q t⟩
 |.lst Y,v,r=>by
  simp only[am] at r ⊢;obtain⟨a,Q,rfl,q,t⟩:=r;exact⟨a,Q,rfl,w9 e q,qJ.mono e h Y Q t⟩
 |.dct0,v,r=>by
  simp only[am] at r ⊢;obtain⟨a,rfl,q⟩:=r;exact⟨a,rfl,e _ _ q⟩
 |.loc i,v,r=>by
  simp only[am] at r ⊢;obtain⟨a,rfl,q⟩:=r;exact⟨a,rfl,pV h q⟩
 |.exn c,v,r=>by
  simp only[am] at r ⊢;obtain⟨a,rfl,q⟩:=r;exact⟨a,rfl,e _ _ q⟩
 |.fd C Y,v,r=>by
  simp only[am] at r ⊢;obtain⟨a,o,Q,rfl,q,U,t⟩:=r;exact⟨a,o,Q,rfl,e _ _ q,U,qJ.mono e h Y Q t⟩
 |.clo a Q Y,v,r=>by
  simp only[am] at r ⊢;exact⟨r.1,qJ.mono e h Y Q r.2⟩
 |.exl c O Y,v,r=>by simp only[am] at r ⊢;obtain⟨a,N,Q,rfl,q,G,U,t⟩:=r;exact⟨a,N,Q,rfl,e _ _ q,e _ _ G,U,qJ.mono e h Y Q t⟩
theorem qJ.mono (e:qO P P')(h:J<+:J'):∀ (ds:Ab D) (vs:Ab V),qJ K P J ds vs->qJ K P' J' ds vs
 |[],vs,r=>by simpa only [qJ] using r
 |d::ds,vs,r=>by simp only[qJ] at r ⊢;obtain⟨w,Q,rfl,U,Y⟩:=r;exact⟨w,Q,rfl,am.mono e h d w U,qJ.mono e h ds Q Y⟩
end
def qJ.nil:qJ K P J [] []:=by simp only[qJ]
def qJ.cons {d:D}{v:V}{ds:Ab D}{vs:Ab V}(r:am K P J d v)(t:qJ K P J ds vs):qJ K P J (d::ds) (v::vs):=by simp only[qJ];exact⟨v,vs,Z,r,t⟩
def qJ.nil_inv {vs:Ab V}(r:qJ K P J [] vs):vs=[]:=by simpa only [qJ] using r
def qJ.cons_inv {d:D}{ds:Ab D}(r:qJ K P J (d::ds) vs):∃ w ws,vs=w::ws/\am K P J d w/\qJ K P J ds ws:=by simpa only [qJ] using r
theorem qJ.length:∀ {ds:Ab D} {vs:Ab V},qJ K P J ds vs->ds.length=vs.length
 |[],vs,r=>by rw[r.nil_inv];rfl
 |d::ds,vs,r=>by obtain⟨w,Q,rfl,_,t⟩:=r.cons_inv;rw[Aw,Aw,t.length]
theorem qJ.append:∀ {ds es:Ab D} {vs ws:Ab V},qJ K P J ds vs->qJ K P J es ws->qJ K P J (ds++es) (vs++ws)
 |[],es,vs,ws,r,t=>by rw[r.nil_inv];exact t
 |d::ds,es,vs,ws,r,t=>by obtain⟨w,U,rfl,Y,Q⟩:=r.cons_inv;exact .cons Y (Q.append t)
theorem qJ.get:∀ {ds:Ab D} {vs:Ab V} {i:Aj} {d:D},qJ K P J ds vs->ds[i]? = Aa d->∃ v,vs[i]? = Aa v/\am K P J d v
 |[],_,_,_,_,e=>by simp at e
 |d::ds,vs,i,U,r,e=>by
  obtain⟨w,O,rfl,G,Y⟩:=r.cons_inv;cases i with
  |zero=>simp at e;subst e;exact⟨w,rfl,G⟩
  |succ i =>
   obtain⟨v,N,Q⟩:=Y.get (i:=i) (d:=U) (by simpa using e);exact⟨v,by simpa using N,Q⟩
theorem qJ.drop:∀ {ds:Ab D} {vs:Ab V} (n:Aj),qJ K P J ds vs->qJ K P J (ds.drop n) (vs.drop n)
 |ds,vs,0,r=>by simpa using r
 |[],vs,n+1,r=>by rw[r.nil_inv];exact .nil
 |d::ds,vs,n+1,r=>by obtain⟨w,Y,rfl,_,Q⟩:=r.cons_inv;simpa using Q.drop n
theorem qJ.take:∀ {ds:Ab D} {vs:Ab V} (n:Aj),qJ K P J ds vs->qJ K P J (ds.take n) (vs.take n)
 |ds,vs,0,r=>by simpa using qJ.nil
 |[],vs,n+1,r=>by rw[r.nil_inv];exact .nil
 |d::ds,vs,n+1,r=>by obtain⟨w,U,rfl,Y,Q⟩:=r.cons_inv;simpa using qJ.cons Y (Q.take n)
theorem qJ.set (q:am K P J d v):∀ {ds:Ab D} {vs:Ab V} (n:Aj),qJ K P J ds vs->qJ K P J (ds.set n d) (vs.set n v)
 |[],vs,n,r=>by rw[r.nil_inv];exact .nil
 |e::ds,vs,0,r=>by
  obtain⟨w,U,rfl,Y,Q⟩:=r.cons_inv;exact .cons q Q
 |e::ds,vs,n+1,r=>by obtain⟨w,U,rfl,Y,Q⟩:=r.cons_inv;exact .cons Y (Q.set q n)
end
abbrev qF:=Ab (Al D)
def zK (K:Ag)(P:Hp)(J : Ab Af)(Y : _L.St)(ac:qF):Prop:=ac.length=Y.length/\∀ (i:Aj) (d:D),ac[i]? = Aa (Aa d)->∃ v,Y[i]? = Aa (Aa v)/\am K P J d v
def u_ (K:Ag)(P:Hp)(J : Ab Af){κ : Type}:Ab (κ × D)->Ab (κ × V)->Prop:=Paired λ(p:κ × D) (q:κ × V)=>p.1=q.1/\am K P J p.2 q.2
def x_ (ns:Ab Aq):Aq:=reduceHash (Builtin.Tuple.tupleHashOf (ns.map hashInt))
def qB8 (a:Af)(xs:Ab (Ab Aq × Af × V))(h:Bc):Prop:=∃ Y:Ab (Ab Aq × Af × Ac),Paired (λ(p:Ab Aq × Af × V) (q:Ab Aq × Af × Ac)=>p.1=q.1/\p.2.1=q.2.1/\qT p.2.2 q.2.2) xs Y /\
 ∃ o Q J,h.get? a=Aa o/\o.ExactDict/\o.data=.dict Q J/\Q.toList=Y.map λx=>⟨x_ x.1,.ref x.2.1,x.2.2⟩
abbrev dtO (a:Af)(xs:Ab (Ab Aq × Af × V)):HO:=.ext (qB8 a xs)
def Z_ (K:Ag)(P:Hp)(J : Ab Af):Ab (Ab Aq × D)->Ab (Ab Aq × Af × V)->Prop:=Paired λ(p:Ab Aq × D) (q:Ab Aq × Af × V)=>p.1=q.1/\ke K P q.2.1 (q.1.map V.int)/\am K P J p.2 q.2.2
def yu (K:Ag)(H P:Hp)(J : Ab Af)(a:Af):MO->Prop
 |.dead=>Jk
 |.lst N=>∃ Q,H a=Aa (.lst Q)/\qJ K P J N Q
 |.dct Y=>∃ Q,H a=Aa (.dK Q)/\u_ K P J Y Q
 |.dcT Y=>∃ U,H a=Aa (dtO a U)/\(a == Ly)=Yp/\U.length<=sizeLine/\(U.map (·.1)).Nodup/\Z_ K P J Y U
 |.ins C G=>∃ O Q,H a=Aa (.ins C O Q)/\u_ K P J G Q
inductive zp (x:Ah)(H P:Hp)(J : Ab Af)(T:Af):Prop
 |mk (ps:Bs Ac) (e:H T=Aa (.tbl ps)) (pn:P T=Zw) (an:T ∉ J) (ok:TriplesOk ps.toList) (cd:∀ pos cv,codeAmong pos ps.toList=Aa cv->∃ c oc vs t,cv=.ref c/\H c=Aa (.frz oc (.frz oc (.own 0)))/\oc.data=.fields vs/\vs[1]? = Aa (.str (x ++ ".<locals>." ++ "<lambda>") t)):zp x H P J T
def WQ (K:Ag)(H P:Hp)(J : Ab Af):Prop:=∀ x∈uA,∀ c T,Do K x=Aa (c,T)->zp x H P J T
def AZ (u:HO):Prop:=(∃ Q,u=.tbl Q)\/∃ o,u=.frz o (.frz o (.own 0))
def WQ.keep {K:Ag}{H H' P U:Hp}{J Y:J9}(r:WQ K H P J)(e:∀ b u,H b=Aa u->AZ u->H' b=Aa u)(hp:∀ b u,H b=Aa u->AZ u->P b=Zw->b ∉ J->U b=Zw/\b ∉ Y):WQ K H' U Y:=λx N c T h =>
 let ⟨E,Q,L,O,ok,G⟩:=r x N c T h;let z:=hp _ _ Q (.inl ⟨_,Z⟩) L O
 ⟨E,e _ _ Q (.inl ⟨_,Z⟩),z.1,z.2,ok,λA C q=>let ⟨c,I,B,t,a,b,d⟩:=G A C q;⟨c,I,B,t,a,e _ _ b (.inr ⟨_,Z⟩),d⟩⟩
structure bf (K:Ag)(H P:Hp)(J : Ab Af)(S:ag):Prop where
 tb:WQ K H P J
 sub:qO P H
 len:J.length=S.length
 nd:J.Nodup
 sep:∀ (i:Aj) (a:Af) (o:MO),J[i]? = Aa a->S[i]? = Aa o->o≠.dead->P a=Zw
 at':∀ (i:Aj) (a:Af) (o:MO),J[i]? = Aa a->S[i]? = Aa o->yu K H P J a o
 own:∀ (i:Aj) (a:Af),J[i]? = Aa a->H a≠Zw
section
variable {K:Ag}{H P P':Hp}{J J':J9}{S:ag}
def zK.mono (e:qO P P')(h:J<+:J')(r:zK K P J Y ac):zK K P' J' Y ac:=
 ⟨r.1,λi d q=>let ⟨v,U,Q⟩:=r.2 i d q;⟨v,U,am.mono e h d v Q⟩⟩
def u_.mono {κ : Type}(e:qO P P')(h:J<+:J'){Q:Ab (κ × D)}{vs:Ab (κ × V)}(r:u_ K P J Q vs):u_ K P' J' Q vs:=by refine Paired.mapP r λp q z=>⟨z.1,am.mono e h _ _ z.2⟩
def Z_.mono (e:qO P P')(h:J<+:J'){Q:Ab (Ab Aq × D)}{xs:Ab (Ab Aq × Af × V)}(r:Z_ K P J Q xs):Z_ K P' J' Q xs:=
 Paired.mapP r λp q z=>⟨z.1,vQ e z.2.1,am.mono e h _ _ z.2.2⟩
theorem yu.mono (e:qO P P')(h:J<+:J'):∀ {o:MO},yu K H P J a o->yu K H P' J' a o
 |.dead,_=>trivial
 |.lst _,⟨Q,q,r⟩=>⟨Q,q,qJ.mono e h _ _ r⟩
 |.dct _,⟨Q,q,r⟩=>⟨Q,q,r.mono e h⟩
 |.dcT _,⟨Q,q,d,l,n,r⟩=>⟨Q,q,d,l,n,r.mono e h⟩
 |.ins _ _,⟨Y,Q,q,r⟩=>⟨Y,Q,q,r.mono e h⟩
def bf.grow (r:bf K H P J S)(e:qO H H'):bf K H' P J S where
 tb:=r.tb.keep (λb u q _=>e _ _ q) λ_ _ _ _ p n=>⟨p,n⟩
 sub:=r.sub.trans e
 len:=r.len
 nd:=r.nd
 sep:=r.sep
 at':=λi a o G U=>by
  have m:=r.at' i a o G U;cases o with
  |dead=>trivial
  |lst B=>obtain⟨Q,q,t⟩:=m;exact⟨Q,e _ _ q,t⟩
  |dct Y=>obtain⟨Q,q,t⟩:=m;exact⟨Q,e _ _ q,t⟩
  |dcT Y=>obtain⟨Q,q,t⟩:=m;exact⟨Q,e _ _ q,t⟩
  |ins C O=>obtain⟨N,Q,q,t⟩:=m;exact⟨N,Q,e _ _ q,t⟩
 own:=λi a q=>by
  have m:=r.own i a q;cases z:H a with
  |none=>exact absurd z m
  |some o=>rw[e _ _ z];intro w;cases w
def f9 {H:Hp}(h:H a=Zw):qO H (bz H a o):=λb u e=>by rw[qP (zG e h)];exact e
def bf.pure (r:bf K H P J S)(h:H a=Zw):bf K (bz H a o) (bz P a o) J S/\qO P (bz P a o):=by
 have C:P a=none:=by
  cases z:P a with
  |none=>rfl
  |some u=>rw[r.sub _ _ z] at h;cases h
 have G:qO P (bz P a o):=f9 C;have N:=r.grow (f9 (o:=o) h);refine⟨⟨r.tb.keep (λb u q _=>(qP (zG q h)).trans q) λb u q _ p n=>⟨(qP (zG q h)).trans p,n⟩,λb u e=>?_,r.len,r.nd,λi b u Q U O=>?_,λi b u Q U=>(N.at' i b u Q U).mono G (Bm _),N.own⟩,G⟩
 .by_cases Y:b=a
  .subst Y;rw[qX] at e ⊢;exact e
  .rw[qP Y] at e ⊢;exact r.sub _ _ e
 .have Y:b≠a:=by rintro rfl;exact r.own i b Q h
  rw[qP Y];exact r.sep i b u Q U O
def bf.new (r:bf K H P J S)(h:H a=Zw)(hm:yu K (bz H a o) P (J ++ [a]) a m):bf K (bz H a o) P (J ++ [a]) (S++[m]):=by
 have T:P a=none:=by
  cases z:P a with
  |none=>rfl
  |some u=>rw[r.sub _ _ z] at h;cases h
 have G:=r.grow (f9 (o:=o) h);have B:J<+:J++[a]:=Iu _ _;have split:∀ (i:Aj) (b:Af),(J++[a])[i]? = Aa b->(i<J.length/\J[i]? = Aa b)\/(i=J.length/\b=a):=λi b q=>by
  by_cases Q:i<J.length;rw[Cn Q] at q;exact .inl ⟨Q,q⟩
  .rw[Ec om] at q;cases N:i-J.length with
   |zero=>rw[N] at q;simp at q;exact .inr ⟨by fin2,q.symm⟩
   |succ k=>rw[N] at q;simp at q
 refine⟨r.tb.keep (λb u q _=>(qP (zG q h)).trans q) λb u q _ p n=>⟨p,λz=>(Ch.mp z).elim n λw=>zG q h (by simpa using w)⟩,G.sub,by simp[r.len],?_,λi b u U Y C=>?_,λi b u U Y=>?_,λi b q=>?_⟩;rw[Ri];refine⟨r.nd,by simp,λb L c O e=>?_⟩;simp at O;subst O;subst e;obtain⟨i,Q,e⟩:=Eb.mp L;exact r.own i b (by rw[Be Q,e]) h
 .rcases split i b U with⟨Q,z⟩|⟨Q,rfl⟩
  .rw[Cn (by rw[<- r.len];exact Q)] at Y;exact r.sep i b u z Y C
  .exact T
 .rcases split i b U with⟨Q,z⟩|⟨Q,rfl⟩
  .rw[Cn (by rw[<- r.len];exact Q)] at Y;exact(G.at' i b u z Y).mono (qO.refl _) B
  .rw[Q,r.len,Ec (Ay _)] at Y;simp at Y;subst Y;exact hm
 .rcases split i b q with⟨_,z⟩|⟨_,rfl⟩
  .exact G.own i b z
  .rw[qX];intro z;cases z
def JR {N:J9}(Q:N.Nodup){i j:Aj}{x:Af}(a:N[i]? = Aa x)(b:N[j]? = Aa x):i=j:=by obtain⟨O,U⟩:=Bw.mp a;obtain⟨G,Y⟩:=Bw.mp b;exact(Sl Q).mp (U.trans Y.symm)
def bf.put {i:Aj}(r:bf K H P J S)(B:J[i]? = Aa a)(hs:S[i]? = Aa m)(E:m≠.dead)(hm:yu K (bz H a o) P J a m'):bf K (bz H a o) P J (S.set i m'):=by
 have I:=r.sep i a m B hs E;have w:i<S.length:=(Bw.mp hs).1;refine⟨r.tb.keep (λb u q L=>?_) λ_ _ _ _ p n=>⟨p,n⟩,λb u e=>?_,by simp[r.len],r.nd,λj b u U G y=>?_,λj b u U G=>?_,λj b q=>?_⟩
 .refine(qP ?_).trans q;rintro rfl;have z:=r.at' i _ m B hs;cases m with
  |dead=>exact E rfl
  |lst M=>obtain⟨Q,z,_⟩:=z;rw[q] at z;rcases L with⟨_,rfl⟩|⟨_,rfl⟩ <;> cases z
  |dct N=>obtain⟨Q,z,_⟩:=z;rw[q] at z;rcases L with⟨_,rfl⟩|⟨_,rfl⟩ <;> cases z
  |dcT N=>obtain⟨Q,z,_⟩:=z;rw[q] at z;rcases L with⟨_,rfl⟩|⟨_,rfl⟩ <;> cases z
  |ins C A=>obtain⟨T,Q,z,_⟩:=z;rw[q] at z;rcases L with⟨_,rfl⟩|⟨_,rfl⟩ <;> cases z
 .have Y:b≠a:=by rintro rfl;rw[I] at e;cases e
  rw[qP Y];exact r.sub _ _ e
 .by_cases O:j=i
  .subst O;rw[B] at U;cases U;exact I
  .rw[Di (Dm O)] at G;exact r.sep j b u U G y
 .by_cases O:j=i
  .subst O;rw[B] at U;cases U;rw[Fn w] at G;cases G;exact hm
  .rw[Di (Dm O)] at G;have Y:b≠a:=by rintro rfl;exact O (JR r.nd U B)
   have z:=r.at' j b u U G;cases u with
   |dead=>trivial
   |lst M=>obtain⟨Q,q,t⟩:=z;exact⟨Q,by rw[qP Y];exact q,t⟩
   |dct N=>obtain⟨Q,q,t⟩:=z;exact⟨Q,by rw[qP Y];exact q,t⟩
   |dcT N=>obtain⟨Q,q,t⟩:=z;exact⟨Q,by rw[qP Y];exact q,t⟩
   |ins C A=>obtain⟨T,Q,q,t⟩:=z;exact⟨T,Q,by rw[qP Y];exact q,t⟩
 .by_cases Y:b=a
  .subst Y;rw[qX];intro z;cases z
  .rw[qP Y];exact r.own j b q
end
def nn {β : Type}{a:β}{p:Prop}(h:(Zw:Al β) = Aa a):p:=by cases h
def kL {β : Type}{c:Prop}[Jj c]{a b:β}(h:(if c then Aa a else Zw)=Aa b):c/\a=b:=by
 by_cases z:c;rw[Au z] at h;exact⟨z,Cw h⟩;rw[AT z] at h;exact nn h
end _D
end
namespace _D
open _L
variable {jf:J0}{us cs:Y0}{cu:Ab Du}{u vv fl:Ac}{p C:Af}{dd od:Al Af}{sl:Bs (Al Ac)}{np:Ea}{R:It->Hp->Prop}{M:Nq}{sp:Sp}{S S1:ag}{Q:VK}
abbrev DE:=qF->ag->ax D
abbrev DT:=qF->ag->ax Ar
abbrev DA:=qF->ag->ax (Ab D)
inductive ik where
 |nx (env:qF) (S:ag)|rt (d:D) (S:ag)|bk (env:qF) (S:ag)|ct (env:qF) (S:ag)|ex (c:Ac) (x:D) (env:qF) (S:ag)|bad
abbrev DS:=qF->ag->ik
def qm (X:Cx)(aa:J0)(H:Hp)(b:Af):Prop:=
 (∃ o,X.s₀.heap.get? b=Aa o/\b ∉ X.ex)\/H b≠Zw\/(∃ p∈X.pn++aa,p.1=b)\/∃ x,X.env.cells.lookup x=Aa b
def Cv (X:Cx)(aa:J0)(H:Hp)(B h:Bc):Prop:=∀ b o,h.get? b=Aa o->qm X aa H b->b ∉ gx X.stack->B.get? b=Aa o
inductive Trc (B:Bc)(e:Af)(c:Ac)(dd:Al Af)(fl:Ac)(h:Bc):Prop
 |mk (oe:Ce) (vs:Bs Ac) (T:Af) (oT:Ce) (ts:Bs Ac) (he:h.get? e=Aa oe) (hc:oe.cls=c) (hdd:oe.dict=dd) (hd:oe.data=.fields vs) (h1:vs[1]? = Aa (.ref T)) (nT:B.get? T=Zw) (ne:T≠e) (hT:h.get? T=Aa oT) (hdT:oT.data=.fields ts) (h3:ts[3]? = Aa fl):Trc B e c dd fl h
def ud (B:Bc)(l:Ab Hn)(e:Af)(c:Ac)(dd:Al Af)(fl:Ac)(h:Bc):Prop:=B.StaysIn h/\B.get? e=Zw/\h.FunFrames B l/\Trc B e c dd fl h
inductive kx (X:Cx)(pins:J0)(H:Hp)(c:Ac)(dd:Al Af)(e:Af)(h:Bc):Prop where
 |new (ob:Ce) (t:Af) (he:h.get? e=Aa ob) (hc:ob.cls=c) (hdd:ob.dict=dd) (hd:ob.data=.fields #[.ref t,.none,.none,.none,.bool Yp,.none]) (no:¬ qm X pins H e) (nf:e ∉ gx X.stack):kx X pins H c dd e h
 |fly (B:Bc) (fl:Ac):ud B X.stack e c dd fl h->Cv X pins H B h->kx X pins H c dd e h
def yi (K:Ag)(P:Hp)(J : Ab Af)(c:Ac)(x:D)(dd:Al Af):Prop:=match x with
 |.exl N G O=>N=c/\∃ U Y,dd=Aa U/\P U=Aa (si U (G.zip Y))/\G.length=Y.length/\qJ K P J O Y
 |_=>Jk
inductive p_ (X:Cx)(P:Hp)(J : Ab Af)(c:Ac)(x:D)(S:ag)(u:Ac)(s:Ai):Prop
 |mk (e:Af) (pins:J0) (Y : _L.St) (H:Hp) (P':Hp) (J' : Ab Af) (e1:u=.ref e) (I:Inv X pins Y H s) (r:bf X.K H P' J' S) (q1:qO P P') (q2:J<+:J') (dd:Al Af) (q4:kx X pins H c dd e s.heap) (q5:yi X.K P' J' c x dd):p_ X P J c x S u s
def p_.base {X:Cx}{P P1:Hp}{J J1:J9}(e:qO P P1)(h:J<+:J1)(k:p_ X P1 J1 c x S u s):p_ X P J c x S u s:=by obtain⟨a,L,Y,H,T,B,O,I,r,G,N,dd,U,E⟩:=k;exact⟨a,L,Y,H,T,B,O,I,r,e.trans G,h.trans N,dd,U,E⟩
section
variable (X:Cx)
def qL {β:Type}(P:Hp)(J : Ab Af)(r:ax β)(Ok:β->ag->Prop):Prop:=
 match r with
 |.ok d Y=>Ok d Y
 |.ex c x Y=>∀ u U,p_ X P J c x Y u U->X.xe u U
 |.bad=>Fz
def gy (P:Hp)(J : Ab Af)(Q:VK)(d:D)(N:ag):Prop:=∀ v G Y U,bf X.K G Y U N->qO P Y->J<+:U->am X.K Y U d v->Q v G
def xn (P:Hp)(J : Ab Af)(Q:Ar->Hp->Prop)(b:Ar)(N:ag):Prop:=∀ U Y G,bf X.K U Y G N->qO P Y->J<+:G->Q b U
def Z4 (P:Hp)(J : Ab Af)(Q:Ab V->Hp->Prop)(ds:Ab D)(O:ag):Prop:=∀ G N Y U,bf X.K N Y U O->qO P Y->J<+:U->qJ X.K Y U ds G->Q G N
abbrev qW (P:Hp)(J : Ab Af)(r:ax D)(Q:VK):Prop:=qL X P J r (gy X P J Q)
abbrev yO (P:Hp)(J : Ab Af)(r:ax Ar)(Q:Ar->Hp->Prop):Prop:=qL X P J r (xn X P J Q)
abbrev gT (P:Hp)(J : Ab Af)(r:ax (Ab D))(Q:Ab V->Hp->Prop):Prop:=qL X P J r (Z4 X P J Q)
def zI (P:Hp)(J : Ab Af)(r:ik)(D:Ends):Prop:=
 match r with
 |.nx Y O=>∀ B N G U,bf X.K N G U O->zK X.K G U B Y->qO P G->J<+:U->D.nx B N
 |.bk Y O=>∀ B N G U,bf X.K N G U O->zK X.K G U B Y->qO P G->J<+:U->D.bk B N
 |.ct Y O=>∀ B N G U,bf X.K N G U O->zK X.K G U B Y->qO P G->J<+:U->D.ct B N
 |.rt d O=>∀ v N G U,bf X.K N G U O->qO P G->J<+:U->am X.K G U d v->D.rt v N
 |.ex c x _ O=>∀ u L,p_ X P J c x O u L->X.xe u L
 |.bad=>Fz
inductive tD (f:DE)(Y : _L.St)(H:Hp)(Q:VK):Prop
 |mk (P:Hp) (J : Ab Af) (env:qF) (S:ag) (r:bf X.K H P J S) (re:zK X.K P J Y env) (af:qW X P J (f env S) Q):tD f Y H Q
inductive ny (f:DT)(Y : _L.St)(H:Hp)(Q:Ar->Hp->Prop):Prop
 |mk (P:Hp) (J : Ab Af) (env:qF) (S:ag) (r:bf X.K H P J S) (re:zK X.K P J Y env) (af:yO X P J (f env S) Q):ny f Y H Q
inductive kz (f:DA)(Y : _L.St)(H:Hp)(Q:Ab V->Hp->Prop):Prop
 |mk (P:Hp) (J : Ab Af) (env:qF) (S:ag) (r:bf X.K H P J S) (re:zK X.K P J Y env) (af:gT X P J (f env S) Q):kz f Y H Q
inductive ir (f:DS)(D:Ends)(Y : _L.St)(H:Hp):Prop
 |mk (P:Hp) (J : Ab Af) (env:qF) (S:ag) (r:bf X.K H P J S) (re:zK X.K P J Y env) (af:zI X P J (f env S) D):ir f D Y H
end
section
variable {X:Cx}{P P1:Hp}{J J1:J9}
theorem qW.base (e:qO P P1)(h:J<+:J1)(k:qW X P J r Q):qW X P1 J1 r Q:=by
 cases r with
 |ok d S=>exact λv U Y N r O G B=>k v U Y N r (e.trans O) (h.trans G) B
 |ex c x S=>exact λu L q=>k u L (q.base e h)
 |bad=>exact k
theorem yO.base {Q:Ar->Hp->Prop}(e:qO P P1)(h:J<+:J1)(k:yO X P J r Q):yO X P1 J1 r Q:=by
 cases r with
 |ok d S=>exact λY N O r G U=>k Y N O r (e.trans G) (h.trans U)
 |ex c x S=>exact λu B q=>k u B (q.base e h)
 |bad=>exact k
theorem gT.base {Q:Ab V->Hp->Prop}(e:qO P P1)(h:J<+:J1)(k:gT X P J r Q):gT X P1 J1 r Q:=by
 cases r with
 |ok d S=>exact λv Y N O r G U B=>k v Y N O r (e.trans G) (h.trans U) B
 |ex c x S=>exact λu L q=>k u L (q.base e h)
 |bad=>exact k
theorem zI.base {D:Ends}(e:qO P P1)(h:J<+:J1)(k:zI X P J r D):zI X P1 J1 r D:=by
 cases r with
 |nx L S=>exact λv Y N O r B G U=>k v Y N O r B (e.trans G) (h.trans U)
 |bk L S=>exact λv Y N O r B G U=>k v Y N O r B (e.trans G) (h.trans U)
 |ct L S=>exact λv Y N O r B G U=>k v Y N O r B (e.trans G) (h.trans U)
 |rt d S=>exact λv Y N O r G U T=>k v Y N O r (e.trans G) (h.trans U) T
 |ex c x L S=>exact λu E q=>k u E (q.base e h)
 |bad=>exact k
def xr (k:gy X P J Q d S)(r:bf X.K H P J S)(q:am X.K P J d v):Q v H:=k v H P J r (qO.refl _) (Bm _) q
end
section
variable {X:Cx}{a b e:Bl}{ai:Ea}
def rh {t t':TE}(h:PE X e t)(w:∀ Y H Q,t' Y H Q->t Y H Q):PE X e t':=λJ s Y H Q I q=>h J s Y H Q I (w Y H Q q)
def _f {st:Du}{t t':TS}(h:PS X st t)(w:∀ D Y H,t' D Y H->t D Y H):PS X st t':=λJ s Y H D I q=>h J s Y H D I (w D Y H q)
def qAA {st:Ab Du}{t t':TS}(h:jq X st t)(w:∀ D Y H,t' D Y H->t D Y H):jq X st t':=λJ s Y H D I q=>h J s Y H D I (w D Y H q)
def paW {t t':TA}(h:PA X es t)(w:∀ Y H Q,t' Y H Q->t Y H Q):PA X es t':=λai J s Y H Q I q=>h ai J s Y H Q I (w Y H Q q)
structure Got (X:Cx)(pins:J0)(Y : _L.St)(env:qF)(P:Hp)(J : Ab Af)(u:Ac)(s1:Ai)(v:V)(H1 P1:Hp)(J1:J9)(d:D)(S1:ag):Prop where
 inv:Inv X pins Y H1 s1
 val:qT v u
 rel:bf X.K H1 P1 J1 S1
 env:zK X.K P1 J1 Y env
 rep:am X.K P1 J1 d v
 same:qO P P1
 pre:J<+:J1
inductive yj (X:Cx)(pins:J0)(Y : _L.St)(env:qF)(P:Hp)(J : Ab Af)(u:Ac)(s1:Ai){γ : Type}(g:D->ag->ax γ)(Ok:γ->ag->Prop):Prop
 |mk (v:V) (H1 P1:Hp) (J1:J9) (d:D) (S1:ag) (G:Got X pins Y env P J u s1 v H1 P1 J1 d S1) (q:qL X P J (g d S1) Ok):yj X pins Y env P J u s1 g Ok
inductive xp (X:Cx)(pins:J0)(Y : _L.St)(env:qF)(P:Hp)(J : Ab Af)(us:Y0)(s1:Ai){γ : Type}(g:Ab D->ag->ax γ)(Ok:γ->ag->Prop):Prop
 |mk (vs:Ab V) (H1 P1:Hp) (J1:J9) (ds:Ab D) (S1:ag) (I:Inv X pins Y H1 s1) (rv:qQ vs us) (r:bf X.K H1 P1 J1 S1) (re:zK X.K P1 J1 Y env) (rp:qJ X.K P1 J1 ds vs) (e1:qO P P1) (e2:J<+:J1) (q:qL X P J (g ds S1) Ok):xp X pins Y env P J us s1 g Ok
inductive D_ (X:Cx)(pins:J0)(Y : _L.St)(env:qF)(P:Hp)(J : Ab Af)(b:Ar)(s1:Ai){γ : Type}(g:Ar->ag->ax γ)(Ok:γ->ag->Prop):Prop
 |mk (H1 P1:Hp) (J1:J9) (S1:ag) (I:Inv X pins Y H1 s1) (r:bf X.K H1 P1 J1 S1) (re:zK X.K P1 J1 Y env) (e1:qO P P1) (e2:J<+:J1) (q:qL X P J (g b S1) Ok):D_ X pins Y env P J b s1 g Ok
def zO {γ:Type}{g:D->ag->ax γ}{Ok:γ->ag->Prop}{H P:Hp}{ac:qF}(m:PE X e (tD X f))(I:Inv X aa Y H s)(r:bf X.K H P J S)
  (E:zK X.K P J Y ac) (U:qL X P J ((f ac S).bind g) Ok) :
  a8 X (eval e X.env) (λu L=>yj X aa Y ac P J u L g Ok) X.xe s:=by
 refine bi (m aa s Y H (λv O=>∃ G N d S1,bf X.K O G N S1/\zK X.K G N Y ac/\am X.K G N d v/\qO P G/\J<+:N/\qL X P J (g d S1) Ok) I ⟨P,J,ac,S,r,E,?_⟩) λu L ⟨v,O,y,n,G,N,d,S1,z,j,t,w,q5,k⟩=>⟨v,O,G,N,d,S1,⟨y,n,z,j,t,w,q5⟩,k⟩;cases q:f ac S with
 |bad=>rw[q] at U;exact U
 |ex c x T=>rw[q] at U;exact U
 |ok d T =>
  rw[q] at U;exact λv H' i l h B A o=>⟨i,l,d,T,h,E.mono B A,o,B,A,U⟩
def yE {γ:Type}{g:Ab D->ag->ax γ}{Ok:γ->ag->Prop}{H P:Hp}{ac:qF}(n:PA X es (kz X f))(I:Inv X aa Y H s)(r:bf X.K H P J S)
  (A:zK X.K P J Y ac) (U:qL X P J ((f ac S).bind g) Ok) (ai:Ea) :
  a8 X (spliced (Fh ai (Bj es X.env))) (λus T=>xp X aa Y ac P J us T g Ok) X.xe s:=by
 refine bi (n ai aa s Y H (λi O=>∃ G N B S1,bf X.K O G N S1/\zK X.K G N Y ac/\qJ X.K G N B i/\qO P G/\J<+:N/\qL X P J (g B S1) Ok) I ⟨P,J,ac,S,r,A,?_⟩) λu T ⟨v,O,k,h,G,N,d,S1,j,y,m,z,q5,o⟩=>⟨v,O,G,N,d,S1,k,h,j,y,m,z,q5,o⟩;cases q:f ac S with
 |bad=>rw[q] at U;exact U
 |ex c x E=>rw[q] at U;exact U
 |ok d E =>
  rw[q] at U;exact λv H' P' t r' L w l=>⟨P',t,d,E,r',A.mono L w,l,L,w,U⟩
def pJ {γ:Type}{f:DT}{g:Ar->ag->ax γ}{Ok:γ->ag->Prop}{aa:J0}{s:Ai}{Y:_L.St}{H P:Hp}{J:J9}{ac:qF}{m:Km Ar}
  (j:∀ (Q:Ar->Hp->Prop),ny X f Y H Q->a8 X m (TP X aa Y Q) X.xe s) (r:bf X.K H P J S) (I:zK X.K P J Y ac) (U:qL X P J ((f ac S).bind g) Ok) :
  a8 X m (λb B=>D_ X aa Y ac P J b B g Ok) X.xe s:=by
 refine bi (j (λb O=>∃ G N S1,bf X.K O G N S1/\zK X.K G N Y ac/\qO P G/\J<+:N/\qL X P J (g b S1) Ok) ⟨P,J,ac,S,r,I,?_⟩) λb B ⟨O,o,G,N,S1,k,w,A,t,l⟩=>⟨O,G,N,S1,o,k,w,A,t,l⟩;cases q:f ac S with
 |bad=>rw[q] at U;exact U
 |ex c x E=>rw[q] at U;exact U
 |ok d E =>
  rw[q] at U;exact λn y z v T L=>⟨y,z,E,v,I.mono T L,T,L,U⟩
def dC (d:D):DE:=λ_ S=>.ok d S
def qB (i:Aj):DE:=λY S=>match Y[i]? with
 |some (Aa d)=>.ok d S
 |_=>.bad
def CG:PE X (.Constant (.int i) j ai) (tD X (dC (.int i))):=rh OP λY H Q ⟨P,J,N,S,r,G,U⟩=>xr U r (by simp only[am])
def qAs:PE X (.Constant (.bool i) j ai) (tD X (dC (.bl i))):=rh qBk λY H Q ⟨P,J,N,S,r,G,U⟩=>xr U r (by simp only[am])
def CM:PE X (.Constant (.str i) j ai) (tD X (dC (.str i))):=rh OS λY H Q ⟨P,J,N,S,r,G,U⟩=>xr U r (by simp only[am])
def CI:PE X (.Constant .none j ai) (tD X (dC .non)):=rh OQ λY H Q ⟨P,J,N,S,r,G,U⟩=>xr U r (by simp only[am])
set_option tactic.hygienic true in
def E9 (h:tD X (qB i) Y H Q):qAe i Y H Q:=by
 obtain⟨P,J,B,S,r,N,U⟩:=h;unfold qB at U;split at U;rename_i d q;obtain⟨v,G,O⟩:=N.2 i d q;exact⟨v,G,xr U r O⟩;exact Am U
def dv (i:Aj){x:Ah}(G:X.N[i]? = Aa x:=by rfl)(hv:qi X.env.scope x:=by first|exact Aa8 rfl|exact Ze (Aa8 rfl)|exact Ze (Ze rfl))(U:(x == ("__debug__" : Ah))=false:=by decide)
  (J:(x == ("__classdict__" : Ah))=false:=by decide):PE X (.Name x ai) (tD X (qB i)):=rh (dJ G hv U J) λY H Q h=>E9 h
def tH (G:Gl X x)(hm:X.mg x=Aa u)(r:qT v u)(q:∀ P J,am X.K P J d v)(U:(x == ("__debug__" : Ah))=false:=by decide):PE X (.Name x ai) (tD X (dC d)):=
 rh (R7 G hm r U) λY H Q ⟨P,J,B,S,r,O,N⟩=>xr N r (q _ _)
def NT (N:Gl X x)(hm:X.mg x=Zw)(hv:Gi x=Aa (.type n))(U:x ≠ "__name__":=by decide)(G:(x == ("__debug__" : Ah))=false:=by decide):PE X (.Name x ai) (tD X (dC (.ty n))):=
 rh (R6 (v:=.ty n) N hm hv Z U G) λY H Q ⟨P,J,L,S,r,B,O⟩=>xr O r (by simp only[am])
abbrev G2:=D->D->ag->ax D
def il (X:Cx)(f:Ac->Ac->Km Ac)(g:G2):Prop:=
 ∀ (U:J0) (Y : _L.St) (H:Hp) (s:Ai) (P:Hp) (J : Ab Af) (S:ag) (v u:V) (vv G:Ac) (a b:D) (Q:VK),Inv X U Y H s->bf X.K H P J S->qT v vv->qT u G->am X.K P J a v->am X.K P J b u->qW X P J (g a b S) Q ->
  a8 X (f vv G) (EP X U Y Q) X.xe s
def il.of {f:Ac->Ac->Km Ac}{g:G2}(h:pe X f r)(w:∀ H P J S v u a b Q,bf X.K H P J S->am X.K P J a v->am X.K P J b u->qW X P J (g a b S) Q->r v u H Q):il X f g:=
 λG Y H s P J S v u vv T a b Q I L E N O U B=>h G s Y H v u vv T Q I E N (w H P J S v u a b Q L O U B)
def _z (X:Cx)(f:Ac->Km Ac)(g:D->ag->ax D):Prop:=
 ∀ (U:J0) (Y : _L.St) (H:Hp) (s:Ai) (P:Hp) (J : Ab Af) (S:ag) (v:V) (vv:Ac) (a:D) (Q:VK),Inv X U Y H s->bf X.K H P J S->qT v vv->am X.K P J a v->qW X P J (g a S) Q ->
  a8 X (f vv) (EP X U Y Q) X.xe s
def Z6 (X:Cx)(g:G2):Prop:=
 ∀ (O U:Bl) (N:J0) (Y : _L.St) (H:Hp) (s:Ai) (P:Hp) (J : Ab Af) (S:ag) (v u:V) (vv G:Ac) (a b:D) (Q:VK),Inv X N Y H s->bf X.K H P J S->qT v vv->qT u G->am X.K P J a v->am X.K P J b u->qW X P J (g a b S) Q ->
  subscripted U Yp vv G=operate [vv,G] (Og vv G)->a8 X (Rg O U vv G) (EP X N Y Q) X.xe s
def wR (X:Cx)(f:Ac)(g:Ab D->ag->ax D):Prop:=
 ∀ (G:J0) (Y : _L.St) (H:Hp) (s:Ai) (P:Hp) (J : Ab Af) (S:ag) (N:Ab V) (us:Y0) (U:Ab D) (Q:VK),Inv X G Y H s->bf X.K H P J S->qQ N us->qJ X.K P J U N->qW X P J (g U S) Q ->
  a8 X (call f us) (EP X G Y Q) X.xe s
def d2 (g:G2)(J U:DE):DE:=λY S=>(J Y S).bind λx S1=>(U Y S1).bind λy G=>g x y G
def d1 (g:D->ag->ax D)(J:DE):DE:=λY S=>(J Y S).bind g
variable {fa fb:DE}
def iE {f:Ac->Ac->Km Ac}(w:il X f g)(A:PE X a (tD X fa))(l:PE X b (tD X fb))(I:Inv X aa Y H s)(h:tD X (d2 g fa fb) Y H Q) :
  a8 X (eval a X.env) (λv G=>a8 X (eval b X.env) (λu U=>a8 X (f v u) (EP X aa Y Q) X.xe U) X.xe G) X.xe s:=by
 obtain⟨P,J,m,S,r,o,j⟩:=h;refine bi (zO A I r o j) λvv n ⟨v,i,L,T,d,S1,G1,O⟩=>?_;refine bi (zO l G1.inv G1.rel G1.env (P:=L) (J:=T) (Ok:=gy X L T Q) (g:=λy B=>g d y B) ?_) λt q ⟨u,c,z,E,k,B,G2,N⟩=>?_;exact qW.base G1.same G1.pre O;exact w aa Y c q z E B v u vv t d k Q G2.inv G2.rel G1.val G2.val (am.mono G2.same G2.pre _ _ G1.rep) G2.rep (qW.base G2.same G2.pre N)
def qAw (U:il X (Et op) g)(J:PE X a (tD X fa))(G:PE X b (tD X fb)):PE X (.BinOp a op b ai) (tD X (d2 g fa fb)):=
 λN s Y H Q I h=>wpAny_BinOp (iE U J G I h)
def CA (U:il X (Cs op) g)(J:PE X a (tD X fa))(G:PE X b (tD X fb))(hm:Lz op b=false:=by first|exact dE _|with_unfolding_all rfl):PE X (.Compare a [op] [b] ai) (tD X (d2 g fa fb)):=
 λN s Y H Q I h=>wpAny_Compare1 (iE U J G I h) hm
def qAx {g:D->ag->ax D}(N:_z X (Yx op) g)(G:PE X a (tD X fa)):PE X (.UnaryOp op a ai) (tD X (d1 g fa)):=by intro E s Y H Q I h;obtain⟨P,J,z,S,r,A,O⟩:=h;exact UnaryOp_ (bi (zO G I r A O) λvv B ⟨v,L,T,w,d,S1,G1,U⟩=>N E Y L B T w S1 v vv d Q G1.inv G1.rel G1.val G1.rep (qW.base G1.same G1.pre U))
def qAv (n:Z6 X g)(m:PE X a (tD X fa))(hb:PE X b (tD X fb))(hs:gV b:=by intro _ _;rfl):PE X (.Subscript a b ai) (tD X (d2 g fa fb)):=by
 intro j s Y H Q I h;obtain⟨P,J,N,S,r,L,G⟩:=h;have B:A_ X (λx y H Q=>∃ P J S a b,bf X.K H P J S/\am X.K P J a x/\am X.K P J b y/\qW X P J (g a b S) Q):=λcp O j s Y H x y v u Q I rx ry ⟨P,J,S,a,b,r,p1,p2,G⟩ o =>
  n cp O j Y H s P J S x y v u a b Q I r rx ry p1 p2 G o
 refine rh (qBl B m hb hs) (t':=tD X (d2 g fa fb)) (λY H Q h=>?_) j s Y H Q I ⟨P,J,N,S,r,L,G⟩;obtain⟨P,J,N,S,r,L,G⟩:=h;refine⟨P,J,N,S,r,L,?_⟩;unfold d2 at G;cases q:fa N S with
 |bad=>rw[q] at G;exact G
 |ex c x S'=>rw[q] at G;exact G
 |ok d S1 =>
  rw[q] at G;intro v H1 P1 J1 r1 w A rp;refine⟨P1,J1,N,S1,r1,L.mono w A,?_⟩;have U:qW X P J ((fb N S1).bind λy k=>g d y k) Q:=G;cases E:fb N S1 with
  |bad=>rw[E] at U;exact U
  |ex c x S'=>rw[E] at U;exact λu s' z=>U u s' (z.base w A)
  |ok d' k =>
   rw[E] at U;intro u H2 P2 t i l f T;exact⟨P2,t,k,d,d',i,am.mono l f _ _ rp,T,qW.base (w.trans l) (A.trans f) U⟩
def qC:DA:=λ_ S=>.ok [] S
def qA (f:DE)(g:DA):DA:=λY S=>(f Y S).bind λx S1=>(g Y S1).bind λJ U=>.ok (x::J) U
def HU:PA X [] (kz X qC):=paW OO λY H Q ⟨P,J,N,S,r,G,U⟩=>U [] H P J r (qO.refl _) (Bm _) .nil
def NS (A:PE X e (tD X fa))(j:PA X es (kz X g))(hs:Bj (e::es) X.env=(Yp,eval e X.env)::Bj es X.env:=by rfl):PA X (e::es) (kz X (qA fa g)):=by intro ai aa s Y H Q I h;obtain⟨P,J,n,S,r,k,y⟩:=h;rw[hs];show Ap _ _ (spliced ((Yp,eval e X.env)::Fh ai (Bj es X.env))) _ _ s;refine Hq (bi (zO A I r k y) λu v ⟨x,f,L,T,d,S1,G1,N⟩=>?_);refine bi (yE j G1.inv G1.rel G1.env (P:=L) (J:=T) (Ok:=Z4 X L T Q) (gT.base G1.same G1.pre N) ai) λus t ⟨q,l,m,c,i,S2,z,o,w,E,U,B,O,G⟩=>?_;exact⟨x::q,l,z,.cons G1.val o,G _ _ _ _ w B O (.cons (am.mono B O _ _ G1.rep) U)⟩
noncomputable def bb:Aj:=16777216
def zP:bb=sizeLine:=El.symm
def zW (f:DA):DE:=λJ S=>(f J S).bind λY S1=>if Y.length<=bb then .ok (.tup Y) S1 else .bad
def zL (f:DA):DE:=λJ S=>(f J S).bind λY S1=>if Y.length<=bb then .ok (.lst Y) S1 else .bad
def tG (f:DA):DE:=λJ S=>(f J S).bind λY S1=>if Y.length<=bb then .ok (.loc S1.length) (S1++[.lst Y]) else .bad
def XW {K:Ag}{P:Hp}{a:Af}(h:ke K P a vs)(r:qJ K P J ds vs):am K P J (.tup ds) (.ref a):=by simp only[am];exact⟨a,vs,Z,h,r⟩
def rV {K:Ag}{P:Hp}{a:Af}(h:sw K P a vs)(r:qJ K P J ds vs):am K P J (.lst ds) (.ref a):=by simp only[am];exact⟨a,vs,Z,h,r⟩
def bY {H P:Hp}(r:bf X.K H P J S)(hp:H p=Zw)(G:qJ X.K P J ds vs)(U:gy X P J Q (.tup ds) S):Q (.ref p) (bz H p (.tup vs)):=by obtain⟨N,Y⟩:=r.pure (o:=.tup vs) hp;exact U _ _ _ J N Y (Bm _) (XW (.of qX) (qJ.mono Y (Bm _) _ _ G))
def wQ {H P:Hp}(r:bf X.K H P J S)(hp:H p=Zw)(G:qJ X.K P J ds vs)(U:gy X P J Q (.lst ds) S):Q (.ref p) (bz H p (.lst vs)):=by obtain⟨N,Y⟩:=r.pure (o:=.lst vs) hp;exact U _ _ _ J N Y (Bm _) (rV (.inl (.inl qX)) (qJ.mono Y (Bm _) _ _ G))
def tL {H P:Hp}(r:bf X.K H P J S)(hp:H p=Zw)(G:qJ X.K P J ds vs)(U:gy X P J Q (.loc S.length) (S++[.lst ds])):Q (.ref p) (bz H p (.lst vs)):=by have Y:J<+:J++[p]:=Iu _ _;have N:=r.new (o:=.lst vs) (m:=.lst ds) hp ⟨vs,qX,qJ.mono (qO.refl _) Y _ _ G⟩;refine U _ _ _ _ N (qO.refl _) Y ?_;simp only[am];exact⟨p,Z,by rw[<- r.len];simp⟩
def sU {f:DA}{Y:_L.St}{G:Ab D->ag->ax D}{mk:Ab V->HO}(h:tD X (λac S=>(f ac S).bind λxs S1=>if xs.length<=bb then G xs S1 else .bad) Y H Q)
  (k:∀ O P1 J1 S1 ds vs p,bf X.K O P1 J1 S1->O p=Zw->qJ X.K P1 J1 ds vs->qW X P1 J1 (G ds S1) Q->Q (.ref p) (bz O p (mk vs))) :
  kz X f Y H λvs O=>vs.length<=sizeLine/\∀ p,O p=Zw->Q (.ref p) (bz O p (mk vs)):=by
 obtain⟨P,J,ac,S,r,T,w⟩:=h;refine⟨P,J,ac,S,r,T,?_⟩;have U:qW X P J ((f ac S).bind λxs S1=>if xs.length<=bb then G xs S1 else .bad) Q:=w;cases q:f ac S with
 |bad=>rw[q] at U;exact U
 |ex c x j=>rw[q] at U;exact U
 |ok ds S1 =>
  rw[q] at U;intro vs O P1 J1 z A E L;have N:qW X P J (if ds.length<=bb then G ds S1 else .bad) Q:=U;by_cases B:ds.length<=bb;rw[Au B] at N;exact⟨by rw[<- L.length,<- zP];exact B,λp I=>k O P1 J1 S1 ds vs p z I L (qW.base A E N)⟩;rw[AT B] at N;exact Am N
def CP {x1}(h:PA X es (kz X f)):PE X (.Tuple es x1 ai) (tD X (zW f)):=
 rh (OT h) λY H Q q=>sU (G:=λN S1=>.ok (.tup N) S1) (mk:=.tup) q λT L I S1 B E p r O U J=>bY r O U J
def CH (h:PA X es (kz X f)):PE X (.List es ai) (tD X (zL f)):=
 rh (K7 h) λY H Q q=>sU (G:=λN S1=>.ok (.lst N) S1) (mk:=.lst) q λT L I S1 B E p r O U J=>wQ r O U J
def NZ (h:PA X es (kz X f)):PE X (.List es ai) (tD X (tG f)):=
 rh (K7 h) λY H Q q=>sU (G:=λN S1=>.ok (.loc S1.length) (S1++[MO.lst N])) (mk:=.lst) q λT L I S1 B E p r O U J=>tL r O U J
end
section
variable {X:Cx}{a b c e:Bl}{ai:Ea}{fa fb fc:DE}{ta tb:DT}
def xS:D->ag->Al Ar
 |.non,_=>Aa Yp
 |.bl b,_=>Aa b
 |.int i,_=>Aa (i != 0)
 |.str x,_=>if x.length<=bb then Aa ((x.length:Aq) != 0) else Zw
 |.tup Y,_=>Aa (!Y.isEmpty)
 |.lst Y,_=>Aa (!Y.isEmpty)
 |.dct0,_=>Aa Yp
 |.loc i,S=>match S[i]? with
  |some (.lst Y)=>Aa (!Y.isEmpty)
  |some (.dct J)=>Aa (!J.isEmpty)
  |_=>Zw
 |_,_=>Zw
theorem qJ.isEmpty {K:Ag}{P:Hp}(r:qJ K P J ds vs):(!ds.isEmpty)=!vs.isEmpty:=by
 cases ds with
 |nil=>rw[r.nil_inv];rfl
 |cons d ds=>obtain⟨w,Y,rfl,_,_⟩:=r.cons_inv;rfl
def wJ {K:Ag}{H P:Hp}(e:qO P H){a:Af}{xs:Ab V}(h:ke K P a xs):ke K H a xs:=vQ e h
def jX {H P:Hp}(r:bf X.K H P J S)(p:am X.K P J d v)(h:xS d S=Aa k):WR X.K v H k:=by
 cases d with
 |non=>simp only[am] at p;subst p;cases h;rfl
 |bl b=>simp only[am] at p;subst p;cases h;rfl
 |int i=>simp only[am] at p;subst p;cases h;rfl
 |str x =>
  simp only[am] at p;subst p;obtain⟨B,rfl⟩:=kL h;exact⟨by rw[<- zP];exact B,rfl⟩
 |tup N =>
  simp only[am] at p;obtain⟨a,Y,rfl,q,t⟩:=p;cases h;exact .inr (.inl ⟨Y,wJ r.sub q,t.isEmpty⟩)
 |lst N =>
  simp only[am] at p;obtain⟨a,Y,rfl,q,t⟩:=p;cases h;exact .inl ⟨Y,(w9 r.sub q).l,t.isEmpty⟩
 |dct0 =>
  simp only[am] at p;obtain⟨a,rfl,q⟩:=p;cases h;exact .inr (.inr ⟨[],r.sub _ _ q,rfl⟩)
 |loc i =>
  simp only[am] at p;obtain⟨a,rfl,q⟩:=p;have h:(match S[i]? with|some (.lst N)=>Aa (!N.isEmpty)|some (.dct U)=>Aa (!U.isEmpty)|_=>Zw)=Aa k:=h;cases G:S[i]? with
  |none=>rw[G] at h;exact nn h
  |some m =>
   rw[G] at h;cases m with
   |lst N =>
    cases h;obtain⟨Y,z,t⟩:=r.at' i a _ q G;exact .inl ⟨Y,.of z,t.isEmpty⟩
   |dct U =>
    cases h;obtain⟨Y,z,t⟩:=r.at' i a _ q G;refine .inr (.inr ⟨Y,z,?_⟩);cases t <;> rfl
   |_=>exact nn h
 |ty n=>exact nn h
 |obj a=>exact nn h
 |exn c=>exact nn h
 |fd T O=>exact nn h
 |clo a Y O=>exact nn h
 |exl c L O=>exact nn h
def aP {H P:Hp}{Q:Ar->Hp->Prop}(I:Inv X aa Y H s)(r:bf X.K H P J S)(U:qT v vv)(p:am X.K P J d v)(h:xS d S=Aa k)(q:Q k H) :
  a8 X (truthy vv) (TP X aa Y Q) X.xe s:=mW aa s Y H v vv Q I U ⟨k,jX r p h,q⟩
def uD (o:Al Ar)(S:ag):ax Ar:=match o with
 |some b=>.ok b S
 |none=>.bad
def bg (f:DE):DT:=λY S=>(f Y S).bind λd S1=>uD (xS d S1) S1
def rX {P:Hp}{Ok:Ar->ag->Prop}(h:qL X P J (uD o S) Ok):∃ b,o=Aa b/\Ok b S:=by
 cases o with
 |none=>exact Am h
 |some b=>exact⟨b,rfl,h⟩
def AF (N:PE X a (tD X fa))(E:∀ U,isTrue a X.env U=(do let v <- U;Mc a.pos;holding [v] (truthy v)):=by intro _;rfl):PT X a (ny X (bg fa)):=by intro y s Y H Q I h;obtain⟨P,J,z,S,r,A,B⟩:=h;refine isTrue_plain (bi (zO N I r A B) λvv j ⟨v,L,T,w,d,S1,G1,G⟩=>?_) (E _);obtain⟨k,O,q⟩:=rX G;exact aP G1.inv G1.rel G1.val G1.rep O (q L T w G1.rel G1.same G1.pre)
def AC (A:il X (Cs op) g)(E:PE X a (tD X fa))(l:PE X b (tD X fb))(hm:Lz op b=false:=by first|exact dE _|with_unfolding_all rfl):PT X (.Compare a [op] [b] ai) (ny X (bg (d2 g fa fb))):=by
 intro aa s Y H Q I h;obtain⟨P,J,B,S,r,re,n⟩:=h;refine Oh ?_ hm;have O:tD X (d2 g fa fb) Y H (λv G=>∃ k,WR X.K v G k/\Q k G):=by
  refine⟨P,J,B,S,r,re,?_⟩;have U:qL X P J ((d2 g fa fb B S).bind λd S1=>uD (xS d S1) S1) (xn X P J Q):=n;cases q:d2 g fa fb B S with
  |bad=>rw[q] at U;exact U
  |ex c x S'=>rw[q] at U;exact U
  |ok d S1 =>
   rw[q] at U;obtain⟨k,m,N⟩:=rX (X:=X) U;exact λv G P1 J1 L w z i=>⟨k,jX L i m,N G P1 J1 L w z⟩
 exact bi (iE A E l I O) λv s1 h1=>bi h1 λu s2 T=>bi T λx f ⟨y,o,t,r3,k,j,N⟩=>mW aa f Y o y x Q t r3 ⟨k,j,N⟩
def wX (g g':G2)(fa fb fc:DE):DE:=λJ S=>(fa J S).bind λx S1=>(fb J S1).bind λy U=>(g x y U).bind λz Y =>
 match xS z Y with
 |some Vp=>(fc J Y).bind λw G=>g' y w G
 |some Yp=>.ok z Y
 |none=>.bad
inductive F_ (X:Cx)(pins:J0)(Y : _L.St)(P:Hp)(J : Ab Af)(w:Ac)(s1:Ai){γ : Type}(k:D->ag->ax γ)(Ok:γ->ag->Prop):Prop
 |mk (y:V) (H1 P1:Hp) (J1:J9) (d:D) (S1:ag) (I:Inv X pins Y H1 s1) (rv:qT y w) (r:bf X.K H1 P1 J1 S1) (rp:am X.K P1 J1 d y) (e1:qO P P1) (e2:J<+:J1) (q:qL X P J (k d S1) Ok):F_ X pins Y P J w s1 k Ok
def oO {γ:Type}{f:Ac->Ac->Km Ac}{k:D->ag->ax γ}{Ok:γ->ag->Prop}{P:Hp}{v u:V}{B:Ac}{a b:D}(E:il X f g)(I:Inv X aa Y H s)(r:bf X.K H P J S)
  (rv:qT v vv) (ru:qT u B) (n:am X.K P J a v) (m:am X.K P J b u) (U:qL X P J ((g a b S).bind k) Ok) :
  a8 X (f vv B) (λw L=>F_ X aa Y P J w L k Ok) X.xe s:=by
 refine bi (E aa Y H s P J S v u vv B a b (λy O=>∃ G N d S1,bf X.K O G N S1/\am X.K G N d y/\qO P G/\J<+:N/\qL X P J (k d S1) Ok) I r rv ru n m ?_) λw L ⟨y,O,I1,r1,G,N,d,S1,i,A,o,z,q5⟩=>⟨y,O,G,N,d,S1,I1,r1,i,A,o,z,q5⟩;cases q:g a b S with
 |bad=>rw[q] at U;exact U
 |ex c x T=>rw[q] at U;exact U
 |ok d T =>
  rw[q] at U;exact λv H' t j r' h l rp=>⟨t,j,d,T,r',rp,h,l,U⟩
def qL.base' {β:Type}{P P1:Hp}{J J1:J9}{r:ax β}{Ok Y:β->ag->Prop}(e:qO P P1)(h:J<+:J1)(U:∀ d S,Ok d S->Y d S)(k:qL X P J r Ok):qL X P1 J1 r Y:=by
 cases r with
 |ok d S=>exact U d S k
 |ex c x S=>exact λu G q=>k u G (q.base e h)
 |bad=>exact k
def PK (ho:il X (Cs op) g)(A:il X (Cs O) g')(ha:PE X a (tD X fa))(hb:PE X b (tD X fb))(hc:PE X c (tD X fc))
  (hm:Xy [op,O] [b,c]=false:=by with_unfolding_all rfl):PE X (.Compare a [op,O] [b,c] ai) (tD X (wX g g' fa fb fc)):=by
 intro m s Y H Q I h;obtain⟨P,J,ac,S,r,re,af⟩:=h;refine Compare_chain (bi (zO ha I r re af) λvv s1 ⟨v,H1,P1,J1,d,S1,G1,j⟩=>chain_link (bi (zO hb G1.inv G1.rel G1.env (qW.base G1.same G1.pre j)) λuu s2 ⟨u,H2,P2,J2,d',S2,G2,l⟩ =>
  bi (oO ho G2.inv G2.rel G1.val G2.val (am.mono G2.same G2.pre _ _ G1.rep) G2.rep (qW.base G2.same G2.pre l)) λw s3 ⟨y,t,P3,J3,z,S3,I3,n,N,B,L,T,U⟩=>?_)) hm
 cases o:xS z S3 with
 |none=>simp only[o] at U;exact Am U
 |some k =>
  simp only[o] at U;have tv:=jX N B o;refine bi (mW m s3 Y t y w (λE H'=>E=k/\H'=t) I3 n ⟨k,tv,rfl,rfl⟩) λE s4 ⟨f,i,hk,hH⟩=>?_;subst hk;subst hH;cases E with
  |false=>exact ite_ff ⟨y,f,i,n,U y f P3 J3 N L T B⟩
  |true =>
   refine ite_tt (chain_last (bi (zO hc i N (G2.env.mono L T) (qW.base L T U)) λx s5 ⟨w',H5,P5,J5,d5,S5,G,q⟩=>?_));exact A m Y H5 s5 P5 J5 S5 u w' uu x d' d5 Q G.inv G.rel G2.val G.val (am.mono (L.trans G.same) (T.trans G.pre) _ _ G2.rep) G.rep (qW.base G.same G.pre q)
def B3 (ho:il X (Cs op) g)(n:il X (Cs E) g')(ha:PE X a (tD X fa))(hb:PE X b (tD X fb))(hc:PE X c (tD X fc))
  (hm:Xy [op,E] [b,c]=false:=by with_unfolding_all rfl):PT X (.Compare a [op,E] [b,c] ai) (ny X (bg (wX g g' fa fb fc))):=by
 intro aa s Y H Q I h;obtain⟨P,J,G,S,r,re,af⟩:=h;have o:qL X P J ((wX g g' fa fb fc G S).bind λd S1=>uD (xS d S1) S1) (xn X P J Q):=af;have T:(wX g g' fa fb fc G S).bind (λd S1=>uD (xS d S1) S1)=(fa G S).bind λx S1=>(fb G S1).bind λy j=>(g x y j).bind λz U =>
   match xS z U with
   |some Vp=>((fc G U).bind λw O=>g' y w O).bind λd S1=>uD (xS d S1) S1
   |some Yp=>.ok Yp U
   |none=>.bad:=by
  unfold wX;cases fa G S with
  |bad=>rfl
  |ex _ _ _=>rfl
  |ok x S1 =>
   show ax.bind (ax.bind (fb G S1) _) _=ax.bind (fb G S1) _;cases fb G S1 with
   |bad=>rfl
   |ex _ _ _=>rfl
   |ok y j =>
    show ax.bind (ax.bind (g x y j) _) _=ax.bind (g x y j) _;cases g x y j with
    |bad=>rfl
    |ex _ _ _=>rfl
    |ok z U =>
     show ax.bind (match xS z U with|some Vp=>(fc G U).bind λw O=>g' y w O|some Yp=>.ok z U|none=>.bad) _=_;cases A:xS z U with
     |none=>simp only[A,ax.bind]
     |some k=>cases k <;> simp only[A,ax.bind,uD]
 rw[T] at o;refine isTrue_chain (bi (zO ha I r re o) λvv s1 ⟨v,H1,P1,J1,d,S1,G1,i⟩=>test_link (bi (zO hb G1.inv G1.rel G1.env (yO.base G1.same G1.pre i)) λuu s2 ⟨u,H2,P2,J2,d',j,G2,zn⟩ =>
  bi (oO ho G2.inv G2.rel G1.val G2.val (am.mono G2.same G2.pre _ _ G1.rep) G2.rep (yO.base G2.same G2.pre zn)) λw s3 ⟨y,H3,P3,J3,z,U,I3,r3,L,t,l,f,N⟩=>?_)) hm
 cases A:xS z U with
 |none=>simp only[A] at N;exact Am N
 |some k =>
  simp only[A] at N;have tv:=jX L t A;refine bi (mW aa s3 Y H3 y w (λm H'=>m=k/\H'=H3) I3 r3 ⟨k,tv,rfl,rfl⟩) λm s4 ⟨H4,I4,hk,hH⟩=>?_;subst hk;subst hH;cases m with
  |false=>exact ite_ff ⟨H4,I4,N H4 P3 J3 L l f⟩
  |true =>
   have zs:qL X P2 J2 ((fc G U).bind λw O=>(g' d' w O).bind λd S1=>uD (xS d S1) S1) (xn X P2 J2 Q):=by
    have e:((fc G U).bind λw O=>(g' d' w O).bind λd S1=>uD (xS d S1) S1)=(((fc G U).bind λw O=>g' d' w O).bind λd S1=>uD (xS d S1) S1):=by cases fc G U <;> rfl
    rw[e];exact N
   refine ite_tt (test_last (bi (zO hc I4 L (G2.env.mono l f) (yO.base l f zs)) λww s5 ⟨w',H5,P5,J5,d5,S5,B,zl⟩ =>
    bi (oO n B.inv B.rel G2.val B.val (am.mono (l.trans B.same) (f.trans B.pre) _ _ G2.rep) B.rep (yO.base B.same B.pre zl)) λx6 s6 ⟨y6,H6,P6,J6,d6,S6,I6,r6,q,zo,e5,e6,zc⟩=>?_))
   obtain⟨k6,q6,z6⟩:=rX zc;exact aP I6 q r6 zo q6 (z6 H6 P6 J6 q e5 e6)
def xK (t:DT):DT:=λY S=>(t Y S).bind λb S1=>.ok (!b) S1
def yW (t u:DT):DT:=λY S=>(t Y S).bind λb S1=>if b then u Y S1 else .ok Yp S1
def wO (t u:DT):DT:=λY S=>(t Y S).bind λb S1=>if b then .ok Vp S1 else u Y S1
def AD (O:PT X a (ny X ta)):PT X (.UnaryOp .Not a ai) (ny X (xK ta)):=by intro w s Y H Q I h;obtain⟨P,J,o,S,r,z,L⟩:=h;refine isTrue_not (bi (pJ (λN q=>O w s Y H N I q) r z L) λb l ⟨G,E,y,S1,T,A,k,B,j,U⟩=>⟨G,T,U G E y A B j⟩)
def uy (X:Cx)(e:Bl)(t:DT):Prop:=PW X e (ny X t)
def uy.pt (h:uy X e t):PT X e (ny X t):=h _
def LK (Y:PT X a (ny X ta)):uy X (.BoolOp .And [a] ai) ta:=RK Y
def AH (Y:PT X a (ny X ta)):uy X (.BoolOp .Or [a] ai) ta:=qAF Y
def AG {O:Ab Bl}(o:PT X a (ny X ta))(l:uy X (.BoolOp .And (b::O) ai) tb):uy X (.BoolOp .And (a::b::O) ai) (yW ta tb):=by
 intro f B s Y H Q I h;obtain⟨P,J,g,S,r,j,d⟩:=h;refine isTrue_and (bi (pJ (λy q=>o B s Y H y I q) r j d) λk v ⟨N,T,E,S1,w,z,G,A,L,U⟩=>?_);cases k with
 |true=>exact l f B v Y N Q w ⟨T,E,g,S1,z,G,yO.base A L U⟩
 |false=>exact⟨N,w,U N T E z A L⟩
def qA2 {O:Ab Bl}(o:PT X a (ny X ta))(l:uy X (.BoolOp .Or (b::O) ai) tb):uy X (.BoolOp .Or (a::b::O) ai) (wO ta tb):=by
 intro f B s Y H Q I h;obtain⟨P,J,g,S,r,j,d⟩:=h;refine isTrue_or (bi (pJ (λy q=>o B s Y H y I q) r j d) λk v ⟨N,T,E,S1,w,z,G,A,L,U⟩=>?_);cases k with
 |true=>exact⟨N,w,U N T E z A L⟩
 |false=>exact l f B v Y N Q w ⟨T,E,g,S1,z,G,yO.base A L U⟩
def kF (f g:DE):DE:=λY S=>(f Y S).bind λx S1=>match xS x S1 with
 |some Vp=>g Y S1
 |some Yp=>.ok x S1
 |none=>.bad
def wg (f:DE):DE:=λY S=>(f Y S).bind λx S1=>match xS x S1 with
 |some b=>.ok (.bl (!b)) S1
 |none=>.bad
def CK  (h:PE X a (tD X fa)):PE X (.BoolOp op [a] ai) (tD X fa):=OR h
def qAg {R:Ar->Ai->Prop}(I:Inv X aa Y H s)(L:qT v vv)(t:WR X.K v H k)(h:∀ s',Inv X aa Y H s'->R k s') :
  a8 X (truthy vv) R X.xe s:=bi (mW aa s Y H v vv (λJ O=>J=k/\O=H) I L ⟨k,t,rfl,rfl⟩) λJ B ⟨T,N,U,G⟩=>by subst U;subst G;exact h B N
def HX {O:Ab Bl}(w:PE X a (tD X fa))(z:PE X (.BoolOp .And (b::O) ai) (tD X fb)):PE X (.BoolOp .And (a::b::O) ai) (tD X (kF fa fb)):=by
 intro E s Y H Q I h;obtain⟨P,J,j,S,r,A,q⟩:=h;refine BoolOp_and (bi (zO w I r A q) λvv o ⟨v,N,L,T,d,S1,G1,U⟩=>?_);cases G:xS d S1 with
 |none=>simp only[G] at U;exact Am U
 |some k =>
  simp only[G] at U;refine qAg G1.inv G1.val (jX G1.rel G1.rep G) λy B=>?_;cases k with
  |true=>exact z E y Y N Q B ⟨L,T,j,S1,G1.rel,G1.env,qW.base G1.same G1.pre U⟩
  |false=>exact⟨v,N,B,G1.val,U v N L T G1.rel G1.same G1.pre G1.rep⟩
def CJ (O:PE X a (tD X fa)):PE X (.UnaryOp .Not a ai) (tD X (wg fa)):=by
 intro y s Y H Q I h;obtain⟨P,J,w,S,r,T,B⟩:=h;refine UnaryOp_ (bi (zO O I r T B) λvv z ⟨v,N,L,A,d,S1,G1,U⟩=>?_);cases G:xS d S1 with
 |none=>simp only[G] at U;exact Am U
 |some k =>
  simp only[G] at U;exact not_of (qAg G1.inv G1.val (jX G1.rel G1.rep G) λj E=>⟨.bl (!k),N,E,Z,U (.bl (!k)) N L A G1.rel G1.same G1.pre (by simp only[am])⟩)
def mh (t:DT)(f g:DE):DE:=λY S=>(t Y S).bind λb S1=>if b then f Y S1 else g Y S1
def qAu (l:PT X c (ny X ta))(o:PE X a (tD X fa))(v:PE X b (tD X fb)):PE X (.IfExp c a b ai) (tD X (mh ta fa fb)):=by
 intro N s Y H Q I h;obtain⟨P,J,O,S,r,d,g⟩:=h;refine wpAny_IfExp (bi (pJ (λy q=>l N s Y H y I q) r d g) λk L ⟨E,A,j,S1,T,w,G,B,z,U⟩=>?_);cases k with
 |true=>exact o N L Y E Q T ⟨A,j,O,S1,w,G,qW.base B z U⟩
 |false=>exact v N L Y E Q T ⟨A,j,O,S1,w,G,qW.base B z U⟩
end
@[inline] noncomputable def ax.toS {β:Type}(ac:qF)(r:ax β)(k:β->ag->ik):ik:=
 match r with
 |.ok d S=>k d S
 |.ex c x S=>.ex c x ac S
 |.bad=>.bad
section
variable {X:Cx}{a b c e:Bl}{ai:Ea}{fa:DE}{ta:DT}{f g:DS}{st:Du}{aw:Ab Du}
def qU:DS:=λY S=>.nx Y S
def qE (f g:DS):DS:=λJ S=>match f J S with
 |.nx Y S1=>g Y S1
 |o=>o
def A1:jq X [] (ir X qU):=qAA XN λD Y H ⟨P,J,N,S,r,U,G⟩=>G Y H P J r U (qO.refl _) (Bm _)
def LD (w:PS X st (ir X f))(B:jq X aw (ir X g)):jq X (st::aw) (ir X (qE f g)):=qAA (oW w B) λD Y H ⟨P,J,O,S,r,E,G⟩=>by
 refine⟨P,J,O,S,r,E,?_⟩;unfold qE at G;cases q:f O S with
 |nx U S1 =>
  rw[q] at G;exact λj y A T z N L I=>⟨A,T,U,S1,z,N,zI.base L I G⟩
 |rt d S1=>rw[q] at G;exact G
 |bk U S1=>rw[q] at G;exact G
 |ct U S1=>rw[q] at G;exact G
 |ex c x U S1=>rw[q] at G;exact G
 |bad=>rw[q] at G;exact G
def A2 (Y:PS X st (ir X f)):jq X [st] (ir X f):=RH Y
def yA {β:Type}{P:Hp}{r:ax β}{k:β->ag->ik}{D:Ends}(h:zI X P J (r.toS ac k) D):qL X P J r λd S=>zI X P J (k d S) D:=by
 cases r with
 |ok d S=>exact h
 |ex c x S=>exact h
 |bad=>exact h
inductive E_ (X:Cx)(pins:J0)(Y : _L.St)(env:qF)(P:Hp)(J : Ab Af)(u:Ac)(s1:Ai)(k:D->ag->ik)(E:Ends):Prop
 |mk (v:V) (H1 P1:Hp) (J1:J9) (d:D) (S1:ag) (G:Got X pins Y env P J u s1 v H1 P1 J1 d S1) (q:zI X P1 J1 (k d S1) E):E_ X pins Y env P J u s1 k E
def pI {k:D->ag->ik}{H P:Hp}{ac:qF}{D:Ends}(T:PE X e (tD X fa))(I:Inv X aa Y H s)(r:bf X.K H P J S)
  (E:zK X.K P J Y ac) (O:zI X P J ((fa ac S).toS ac k) D) :
  a8 X (eval e X.env) (λu N=>E_ X aa Y ac P J u N k D) X.xe s:=by
 have U:qL X P J ((fa ac S).bind λd S=>.ok d S) λd S=>zI X P J (k d S) D:=by have:=yA O;cases q:fa ac S <;> rw[q] at this <;> exact this
 exact bi (zO T I r E U) λu N ⟨v,B,L,A,d,S1,G,q⟩=>⟨v,B,L,A,d,S1,G,zI.base G.same G.pre q⟩
def wC (f:DE):DS:=λY S=>(f Y S).toS Y λ_ S1=>.nx Y S1
def LG (B:PE X e (tD X fa))(hs:Md e Zw ai.line X.env=pure false:=by rfl):PS X (.Expr e ai) (ir X (wC fa)):=by intro w s Y H D I h;obtain⟨P,J,E,S,r,L,N⟩:=h;exact wpAny_Expr_any (bi (pI B I r L N) λv A ⟨x,U,O,T,d,S1,G,q⟩=>⟨Y,U,G.inv,q Y U O T G.rel G.env (qO.refl _) (Bm _)⟩) I.quiet hs
def qN (f:DE):DS:=λY S=>(f Y S).toS Y λd S1=>.rt d S1
def A4 (B:PE X e (tD X fa)):PS X (.Return (Aa e) ai) (ir X (qN fa)):=by intro w s Y H D I h;obtain⟨P,J,E,S,r,L,N⟩:=h;exact wpAny_Return_some (bi (pI B I r L N) λv A ⟨x,U,O,T,d,S1,G,q⟩=>⟨x,Y,U,G.inv,G.val,q x U O T G.rel (qO.refl _) (Bm _) G.rep⟩)
def cw (t:DT)(f g:DS):DS:=λY S=>(t Y S).toS Y λb S1=>if b then f Y S1 else g Y S1
def qA1 {as bs:Ab Du}(v:PT X c (ny X ta))(t:jq X as (ir X f))(m:jq X bs (ir X g)):PS X (.If c as bs ai) (ir X (cw ta f g)):=by
 intro O s Y H D I h;obtain⟨P,J,U,S,r,o,n⟩:=h;have B:qL X P J ((ta U S).bind λd S=>.ok d S) λb S=>zI X P J (if b then f U S else g U S) D:=by have:=yA n;cases q:ta U S <;> rw[q] at this <;> exact this
 refine wpAny_If (bi (pJ (λl q=>v O s Y H l I q) r o B) λk z ⟨j,T,E,S1,w,y,G,A,L,N⟩=>?_);cases k with
 |true=>exact t O z Y j D w ⟨T,E,U,S1,y,G,zI.base A L N⟩
 |false=>exact m O z Y j D w ⟨T,E,U,S1,y,G,zI.base A L N⟩
abbrev DG:=D->qF->ag->ax qF
abbrev ur:=Ab D->qF->ag->ax qF
def zw (X:Cx)(P:Hp)(J : Ab Af)(Q:_L.St->Hp->Prop)(Y:qF)(B:ag):Prop:=∀ O N U G,bf X.K N U G B->zK X.K U G O Y->qO P U->J<+:G->Q O N
def so (X:Cx)(g:DG):TG:=λv Y H Q=>∃ P J U S d,bf X.K H P J S/\zK X.K P J Y U/\am X.K P J d v/\qL X P J (g d U S) (zw X P J Q)
def QF (X:Cx)(g:ur):xm:=λN Y H Q=>∃ P J U S G,bf X.K H P J S/\zK X.K P J Y U/\qJ X.K P J G N/\qL X P J (g G U S) (zw X P J Q)
def zK.set {K:Ag}{P:Hp}(U:zK K P J Y ac)(i:Aj)(O:am K P J d v):zK K P J (Y.set i (Aa v)) (ac.set i (Aa d)):=by
 refine⟨by simp[U.1],λj B e=>?_⟩;by_cases G:i=j
 .subst G;by_cases N:i<ac.length
  .rw[Fn N] at e;cases e;exact⟨v,by rw[Fn (by rw[<- U.1];exact N)],O⟩
  .rw[Iy (by simp;fin2)] at e;cases e
 .rw[Di G] at e ⊢;exact U.2 j B e
def bc (i:Aj):DG:=λd Y S=>.ok (Y.set i (Aa d)) S
def L7 {i:Aj}(N:X.N.Nodup)(U:X.N[i]? = Aa x:=by rfl)(O:Loc X.env.scope x:=by first|exact Aa8 rfl|exact Ze rfl)(G:X.fn x=Vp\/X.env.scope.names.lookup x=Aa .local:=by first|exact .inl rfl|exact .inr rfl|assumption):PG X (.Name x ai) (so X (bc i)):=by intro T s Y H v u Q I A h;obtain⟨P,J,w,S,d,r,E,L,B⟩:=h;exact R9 N U O G T s Y H v u Q I A (B _ H P J r (E.set i L) (qO.refl _) (Bm _))
def xF:ur:=λJ Y S=>match J with
 |[]=>.ok Y S
 |_=>.bad
def qZ (g:DG)(J:ur):ur:=λG U S=>match G with
 |d::r=>(g d U S).bind λY S1=>J r Y S1
 |[]=>.bad
def L8:wk X [] (QF X xF):=by
 intro O s Y H L us Q I T h;obtain⟨P,J,E,S,U,r,B,N,G⟩:=h;cases U with
 |nil=>exact RA O s Y H L us Q I T ⟨N.nil_inv,G Y H P J r B (qO.refl _) (Bm _)⟩
 |cons d U=>exact Am G
def PR {g:DG}(h1:PG X e (so X g))(y:wk X es (QF X L))(hs:(Gp (e::es) X.env).map (·.2)=assign e X.env::(Gp es X.env).map (·.2):=by rfl):wk X (e::es) (QF X (qZ g L)):=by
 intro aa s Y H vs us Q I rv h;obtain⟨P,J,E,S,N,r,re,rp,z⟩:=h;cases N with
 |nil=>exact Am z
 |cons d N =>
  obtain⟨w,ws,rfl,p1,n⟩:=rp.cons_inv;refine FD h1 y hs aa s Y H _ us Q I rv ⟨w,ws,rfl,P,J,E,S,d,r,re,p1,?_⟩;have U:qL X P J ((g d E S).bind λG S1=>L N G S1) (zw X P J Q):=z;cases q:g d E S with
  |bad=>rw[q] at U;exact U
  |ex c x S'=>rw[q] at U;exact U
  |ok G S1 =>
   rw[q] at U;intro Y' H' m t r' O A T;refine⟨m,t,G,S1,N,r',O,qJ.mono A T _ _ n,qL.base' A T (λj S' ok Y2 H2 i k o B l v=>ok Y2 H2 i k o B (A.trans l) (T.trans v)) U⟩
def lg (n:Aj)(J:ur):DG:=λd U S=>match d with
 |.tup Y=>if Y.length=n then J Y U S else .bad
 |_=>.bad
set_option tactic.hygienic true in
def CU {n:Aj}(w:X.calm=Vp)(h:wk X es (QF X N))(B:(Gp es X.env).length=n:=by rfl)(G:(Gp es X.env).findIdx? (·.1)=none:=by rfl):PG X (.Tuple es k ai) (so X (lg n N)):=by
 intro L s Y H v u Q I z o;obtain⟨P,J,j,S,d,r,T,O,U⟩:=o;cases d with
 |tup E =>
  simp only[am] at O;obtain⟨a,A,rfl,q,t⟩:=O;simp only[lg] at U;split at U;rename_i y;exact OU w h B G L s Y H _ u Q I z ⟨a,A,Z,wJ r.sub q,by rw[<- t.length];exact y,P,J,j,S,E,r,T,t,U⟩;exact Am U
 |_=>exact Am U
abbrev G3:=D->D->D->ag->ax Nx
def OkU (X:Cx)(P:Hp)(J : Ab Af)(Q:Hp->Prop)(_:Nx)(N:ag):Prop:=∀ Y U G,bf X.K Y U G N->qO P U->J<+:G->Q Y
def aO (X:Cx)(g:G3):EW:=λo i v H Q=>∃ P J S a b d,bf X.K H P J S/\am X.K P J a o/\am X.K P J b i/\am X.K P J d v/\qL X P J (g a b d S) (OkU X P J Q)
def zd (U fi:DE)(g:G3):DG:=λd Y S=>(U Y S).bind λo S1=>(fi Y S1).bind λi G=>(g o i d G).bind λ_ J=>.ok Y J
def CT {g:G3}(ho:PE X o (tD X fo))(hi:PE X i (tD X fi))(hs:aS X (aO X g))
  (ha:∀ v,assign (.Subscript o i ai) X.env v=(do
   let G <- holding [v] (eval o X.env);let N <- holding [v,G] (eval i X.env)
   Mc ai
   holding [v,G,N] (setItem G N v)
   release [v,G,N] []):=by intro _;rfl):PG X (.Subscript o i ai) (so X (zd fo fi g)):=by
 intro aa s Y H v u Q I rv h;obtain⟨P,J,ac,S,d,r,re,rp,af⟩:=h;rw[ha];refine Ad (Df (bi (zO ho I r re af) λG s1 ⟨x,H1,k,n,d1,S1,G1,T⟩=>?_));refine Ad (Df (bi (zO hi G1.inv G1.rel G1.env (P:=k) (J:=n) (Ok:=zw X k n Q) (qL.base' G1.same G1.pre (λl S' ok Y2 A L B r2 O e3 e4=>ok Y2 A L B r2 O (G1.same.trans e3) (G1.pre.trans e4)) T)) λN s2 ⟨y,A,L,B,d2,m,G2,U⟩=>?_));refine Ad (Ig (Ad (Df (bi (hs aa s2 Y A x y v G N u (λE=>Q Y E) G2.inv G1.val G2.val rv ⟨L,B,m,d1,d2,d,G2.rel,am.mono G2.same G2.pre _ _ G1.rep,G2.rep,am.mono (G1.same.trans G2.same) (G1.pre.trans G2.pre) _ _ rp,?_⟩) λ_ s3 ⟨E,I3,q3⟩=>?_))))
 .cases q:g d1 d2 d m with
  |bad=>rw[q] at U;exact U
  |ex c x S'=>rw[q] at U;exact λu s' z=>U u s' (z.base G2.same G2.pre)
  |ok w S3 =>
   rw[q] at U;exact λH' P' J' r' j t=>U Y H' P' J' r' (G2.env.mono j t) (G2.same.trans j) (G2.pre.trans t)
 .exact wpAny_release ⟨Y,E,I3,q3⟩
def qV (f:DE)(g:DG):DS:=λJ S=>(f J S).toS J λd S1=>(g d J S1).toS J λY U=>.nx Y U
def VV {g:DG}{P:Hp}{U:Ends}(h:zI X P J ((g d ac S).toS ac λY N=>.nx Y N) U):qL X P J (g d ac S) (zw X P J U.nx):=by
 cases q:g d ac S with
 |bad=>rw[q] at h;exact h
 |ex c x O=>rw[q] at h;exact h
 |ok G S1=>rw[q] at h;exact h
def CY {g:DG}(U:PE X e (tD X fa))(E:PG X tg (so X g))(hs:Ie [tg] e ai.line X.env=pure false:=by rfl)(hw:Ic [tg] e X.env=pure none:=by rfl)
  (A:(Gp [tg] X.env).map (·.2)=[assign tg X.env]:=by rfl):PS X (.Assign [tg] e ai) (ir X (qV fa g)):=by
 intro N s Y H D I h;obtain⟨P,J,L,S,r,O,w⟩:=h;refine wpAny_Assign_stores (bi (pI U I r O w) λv z ⟨x,j,B,T,d,S1,G,q⟩=>?_) hs hw;rw[A];exact bi (E N z Y j x v _ G.inv G.val ⟨B,T,L,S1,d,G.rel,G.env,G.rep,VV q⟩) λ_ y q=>q
def AA {i:Aj}(E:X.N.Nodup)(B:PE X e (tD X fa))(O:X.N[i]? = Aa x:=by rfl)(A:Loc X.env.scope x:=by first|exact Aa8 rfl|exact Ze rfl)(hs:Md e (Aa (.Name x N)) ai.line X.env=pure false:=by rfl)
  (L:X.fn x=Vp\/X.env.scope.names.lookup x=Aa .local:=by first|exact .inl rfl|exact .inr rfl|assumption):PS X (.Assign [.Name x N] e ai) (ir X (qV fa (bc i))):=by
 intro m s Y H D I h;obtain⟨P,J,t,S,r,j,w⟩:=h;refine wpAny_Assign_Name (bi (pI B I r j w) λv o ⟨y,U,z,k,d,S1,G,q⟩=>?_) hs;exact yU G.inv E O A G.val (λl T=>⟨_,U,T,q _ U z k G.rel (G.env.set i G.rep) (qO.refl _) (Bm _)⟩) L
noncomputable def K6 (i j:Aj)(ac:qF)(S1:ag):Ab D->ik
 |[x,y]=>.nx ((ac.set i (Aa x)).set j (Aa y)) S1
 |_=>.bad
def f7 (i j:Aj)(f:DA):DS:=λY S=>(f Y S).toS Y λJ S1=>K6 i j Y S1 J
def A3 {i j:Aj}{f:DA}{O E T:Ea}{kt k2 pt2}(v:X.calm=Vp) (o:X.N.Nodup) (m:PA X [a,b] (kz X f)) (h:X.N[i]? = Aa x:=by rfl) (s:X.N[j]? = Aa y:=by rfl) (L:i≠j:=by decide)
  (l:X.env.scope.names.lookup x=Aa .local:=by rfl) (hy:X.env.scope.names.lookup y=Aa .local:=by rfl)
  (hw:Ic [.Tuple [.Name x O,.Name y E] kt T] (.Tuple [a,b] k2 pt2) X.env=pure (Aa [x,y]):=by rfl)
  (hs:Ie [.Tuple [.Name x O,.Name y E] kt T] (.Tuple [a,b] k2 pt2) ai.line X.env=pure false:=by rfl) :
  PS X (.Assign [.Tuple [.Name x O,.Name y E] kt T] (.Tuple [a,b] k2 pt2) ai) (ir X (f7 i j f)):=_f (OZ v o h s L l hy m hw hs) λD Y H ⟨P,J,B,S,r,A,af⟩=>by
 refine⟨P,J,B,S,r,A,?_⟩;have U:=yA af;cases q:f B S with
 |bad=>rw[q] at U;exact U
 |ex c x S'=>rw[q] at U;exact U
 |ok N S1 =>
  rw[q] at U;intro vs H' P' J' r' I z rp;have G:zI X P J (K6 i j B S1 N) D:=U;cases N with
  |nil=>exact Am G
  |cons d N=>cases N with
   |nil=>exact Am G
   |cons d' N=>cases N with
    |cons _ _=>exact Am G
    |nil =>
     obtain⟨w,ws,rfl,p1,t⟩:=rp.cons_inv;obtain⟨n,zc,rfl,k,t⟩:=t.cons_inv;rw[t.nil_inv];exact⟨w,n,rfl,G _ _ P' J' r' (((A.mono I z).set i p1).set j k) I z⟩
end
structure wq (K:Ag)(Jww:It)(P:Hp)(J : Ab Af)(ds:Ab D):Prop where
 go:∀ i H P1 J1 S,i<ds.length->bf K H P1 J1 S->qO P P1->J<+:J1->Jww.go i H
 yld:∀ i H x H' P1 J1 S,i<ds.length->bf K H P1 J1 S->qO P P1->J<+:J1->Jww.yld i H x H'->∃ P2 d,ds[i]? = Aa d/\bf K H' P2 J1 S/\qO P1 P2/\am K P2 J1 d x
 stop:∀ i H P1 J1 S,ds.length<=i->bf K H P1 J1 S->qO P P1->J<+:J1->Jww.stop i H
abbrev DI:=qF->ag->ax (Ab D)
def yg (X:Cx)(P:Hp)(J : Ab Af)(R:It->Hp->Prop)(ds:Ab D)(O:ag):Prop:=∀ N G Y U,bf X.K G Y U O->qO P Y->J<+:U->wq X.K N Y U ds->R N G
inductive vy (X:Cx)(f:DI)(Y : _L.St)(H:Hp)(R:It->Hp->Prop):Prop
 |mk (P:Hp) (J : Ab Af) (env:qF) (S:ag) (r:bf X.K H P J S) (re:zK X.K P J Y env) (af:qL X P J (f env S) (yg X P J R)):vy X f Y H R
def vO {β:Type}(o:Al β)(S:ag):ax β:=match o with
 |some b=>.ok b S
 |none=>.bad
def vT {X:Cx}{β:Type}{o:Al β}{P:Hp}{Ok:β->ag->Prop}(h:qL X P J (vO o S) Ok):∃ b,o=Aa b/\Ok b S:=by
 cases o with
 |none=>exact Am h
 |some b=>exact⟨b,rfl,h⟩
def xD {X:Cx}{β:Type}{c:Prop}[Jj c]{r:ax β}{P:Hp}{J : Ab Af}{Ok:β->ag->Prop}(h:qL X P J (if c then r else .bad) Ok):c/\qL X P J r Ok:=by
 by_cases z:c;rw[Au z] at h;exact⟨z,h⟩;rw[AT z] at h;exact Am h
def oN {X:Cx}{β:Type}{g:D->ax β}{P:Hp}{Ok:β->ag->Prop}(h:qL X P J (match ds with|[d]=>g d|_=>.bad) Ok):∃ d,ds=[d]/\qL X P J (g d) Ok:=by
 cases ds with
 |nil=>exact Am h
 |cons d ds =>
  cases ds with
  |nil=>exact⟨d,rfl,h⟩
  |cons _ _=>exact Am h
def rL {β:Type}{i:Aj}{f:Ab D->Al β}{g:Ab (ku × D)->Al β}{b:β}(h:(match S[i]? with|some (.lst xs)=>f xs|some (.dct Y)=>g Y|_=>Zw)=Aa b):(∃ xs,S[i]? = Aa (.lst xs)/\f xs=Aa b)\/∃ Y,S[i]? = Aa (.dct Y)/\g Y=Aa b:=by
 cases e:S[i]? with
 |none=>rw[e] at h;exact nn h
 |some m =>
  rw[e] at h;cases m with
  |lst xs=>exact .inl ⟨xs,rfl,h⟩
  |dct Y=>exact .inr ⟨Y,rfl,h⟩
  |_=>exact nn h
def IT {β:Type}{i:Aj}{f:Ab D->Al β}{b:β}(h:(match S[i]? with|some (.lst xs)=>f xs|_=>Zw)=Aa b):∃ xs,S[i]? = Aa (.lst xs)/\f xs=Aa b:=by
 cases e:S[i]? with
 |none=>rw[e] at h;exact nn h
 |some m =>
  rw[e] at h;cases m with
  |lst xs=>exact⟨xs,rfl,h⟩
  |_=>exact nn h
inductive _P (d:D)(xs:Ab D):Prop
 |tup (e:d=.tup xs)
 |lst (e:d=.lst xs)
noncomputable def TX {β:Type}(S:ag)(n:Aj)(f:Ab D->ax β) : ax β:=match S[n]? with
 |some (.lst Y)=>f Y
 |_=>.bad
def bW {X:Cx}{β:Type}{f:Ab D->ax β}{P:Hp}{Ok:β->ag->Prop}(h:qL X P J (TX S n f) Ok):∃ xs,S[n]? = Aa (.lst xs)/\qL X P J (f xs) Ok:=by
 unfold TX at h;cases e:S[n]? with
 |none=>rw[e] at h;exact Am h
 |some m =>
  rw[e] at h;cases m with
  |lst xs=>exact⟨xs,rfl,h⟩
  |_=>exact Am h
def xE:D->Al (Ab D)
 |.tup Y=>Aa Y
 |.lst Y=>Aa Y
 |_=>Zw
def R_ (h:xE d=Aa xs):_P d xs:=by
 cases d with
 |tup Y=>exact .tup (congrArg D.tup (Cw h))
 |lst Y=>exact .lst (congrArg D.lst (Cw h))
 |_=>exact nn h
def uW (f:DE):DI:=λY S=>(f Y S).bind λd S1=>vO (xE d) S1
section
variable {X:Cx}{K:Ag}{tg e:Bl}{fa:DE}
def BL {P:Hp}(q:kr K P a vs)(t:qJ K P J ds vs):wq K (_O K a) P J ds where
 go:=λi H U G S Y r e _=>⟨vs,vs[i]'(by rw[<- t.length];exact Y),(e.trans r.sub).seq q,by simp⟩
 yld:=λi H x T U G S Y r e B y=>by obtain⟨rfl,y⟩:=y;have L:=y vs ((e.trans r.sub).seq q);obtain⟨v,N,O⟩:=t.get (Be Y);rw[L] at N;cases N;exact⟨U,_,Be Y,r,qO.refl _,am.mono e B _ _ O⟩
 stop:=λi H U G S Y r e _=>⟨vs,(e.trans r.sub).seq q,by rw[<- t.length];exact Y⟩
def DH {P:Hp}(q:ke K P a vs)(t:qJ K P J ds vs):wq K (Itt K a) P J ds where
 go:=λi H U G S Y r e _=>⟨vs,vs[i]'(by rw[<- t.length];exact Y),vQ (e.trans r.sub) q,by simp⟩
 yld:=λi H x T U G S Y r e B y=>by obtain⟨rfl,y⟩:=y;have L:=y vs (vQ (e.trans r.sub) q);obtain⟨v,N,O⟩:=t.get (Be Y);rw[L] at N;cases N;exact⟨U,_,Be Y,r,qO.refl _,am.mono e B _ _ O⟩
 stop:=λi H U G S Y r e _=>⟨vs,vQ (e.trans r.sub) q,by rw[<- t.length];exact Y⟩
def iU {H P:Hp}(I:Inv X aa Y H s)(r:bf X.K H P J S)(G:qT v vv)(U:am X.K P J d v)(N:xE d=Aa ds)
  (q:yg X P J R ds S):a8 X (Pj vv) (yf X aa Y tg R) X.xe s:=by
 cases d with
 |tup T =>
  cases N;simp only[am] at U;obtain⟨a,E,rfl,sq,t⟩:=U;cases G;obtain⟨B,G,p,L⟩:=I.tuple (wJ r.sub sq);refine Iw (show s.heap.IsTuple a B.toArray from p) ?_;refine⟨s.heap.objs.size,[s.heap.objs.size],_,_,H,Z,I.kept (t':=s.toks) λb o e=>Ak _ e,VJ a _,⟨_,Bf _ Z,Z,Z⟩,λb O=>?_,q _ _ P J r (qO.refl _) (Bm _) (DH sq t)⟩;have e:b=s.heap.objs.size:=by simpa using O
  subst e;exact I.fpOk (Ay _) (I.hok.fresh (Ay _))
 |lst T =>
  cases N;simp only[am] at U;obtain⟨a,E,rfl,sq,t⟩:=U;cases G;obtain⟨B,G,p,L⟩:=I.list ((w9 r.sub sq).l);refine Gz p.isList ?_;refine⟨s.heap.objs.size,[s.heap.objs.size],_,_,H,rfl,I.kept (t':=s.toks) λb o e=>Ak _ e,cP a _,⟨_,Bf _ rfl,rfl,rfl⟩,λb O=>?_,q _ _ P J r (qO.refl _) (Bm _) (BL sq.l t)⟩;have e:b=s.heap.objs.size:=by simpa using O
  subst e;exact I.fpOk (Ay _) (I.hok.fresh (Ay _))
 |_=>cases N
def yg.base {P P1:Hp}{J J1:J9}(e:qO P P1)(h:J<+:J1)(k:yg X P J R ds S):yg X P1 J1 R ds S:=λO Y N B r G U L=>k O Y N B r (e.trans G) (h.trans U) L
def CV (G:PE X e (tD X fa)):PI X tg e (vy X (uW fa)):=by intro z s Y H R I h;obtain⟨P,J,L,S,r,B,O⟩:=h;refine bi (zO G I r B O) λvv E ⟨v,A,w,j,d,S1,G1,U⟩=>?_;obtain⟨T,N,q⟩:=vT U;exact iU G1.inv G1.rel G1.val G1.rep N (q.base G1.same G1.pre)
noncomputable def yS (lo:Aq)(n:Aj):Ab D:=(Cp n).map λ(i:Aj)=>D.int (lo+(i:Aq))
def bZ (lo:Aq)(n:Aj):(yS lo n).length=n:=by simp[yS]
def c0 {P:Hp}{lo:Aq}:wq K (B_ lo n) P J (yS lo n) where
 go:=λi H U G S Y r e _=>by rw[bZ] at Y;exact Y
 yld:=λi H x O U G S Y r e N y=>by obtain⟨rfl,rfl⟩:=y;rw[bZ] at Y;exact⟨U,.int (lo+i),by simp[yS,Y],r,qO.refl _,by simp only[am]⟩
 stop:=λi H U G S Y r e _=>by rw[bZ] at Y;exact Y
def mQ (ds:Ab D):Al (Ab D):=match ds with
 |[.int j]=>if -(2 ^ 62)<=j/\j<2 ^ 62 then Aa (yS 0 j.toNat) else Zw
 |[.int i,.int j]=>if -(2 ^ 62)<=i/\i<2 ^ 62 /\ -(2 ^ 62)<=j/\j<2 ^ 62 then Aa (yS i (j-i).toNat) else Zw
 |_=>Zw
def kG (f:DA):DI:=λY S=>(f Y S).bind λJ S1=>vO (mQ J) S1
def X_:D->Al Aq
 |.int i=>Aa i
 |_=>Zw
def nF (h:X_ d=Aa i):d=.int i:=by
 cases d with
 |int k=>exact congrArg D.int (Cw h)
 |_=>exact nn h
inductive yd:Ab D->Ab D->Prop
 |one (j:Aq) (h : -(2 ^ 62)<=j/\j<2 ^ 62):yd [.int j] (yS 0 j.toNat)
 |two (i j:Aq) (h : -(2 ^ 62)<=i/\i<2 ^ 62 /\ -(2 ^ 62)<=j/\j<2 ^ 62):yd [.int i,.int j] (yS i (j-i).toNat)
def qBo (d:D):mQ [d]=(X_ d).bind λj=>if -(2 ^ 62)<=j/\j<2 ^ 62 then Aa (yS 0 j.toNat) else none:=by cases d <;> rfl
def qBp (d d':D):mQ [d,d']=(X_ d).bind λi=>(X_ d').bind λj=>if -(2 ^ 62)<=i/\i<2 ^ 62 /\ -(2 ^ 62)<=j/\j<2 ^ 62 then Aa (yS i (j-i).toNat) else none:=by
 cases d with
 |int i=>cases d' <;> rfl
 |_=>rfl
def RU (h:mQ ds=Aa ah):yd ds ah:=by
 cases ds with
 |nil=>exact nn h
 |cons d ds =>
  cases ds with
  |nil =>
   obtain⟨j,e,h⟩:=Eg.mp ((qBo d).symm.trans h);obtain⟨c,rfl⟩:=kL h;rw[nF e];exact .one j c
  |cons J ds =>
   cases ds with
   |nil =>
    obtain⟨i,e,h⟩:=Eg.mp ((qBp d J).symm.trans h);obtain⟨j,G,h⟩:=Eg.mp h;obtain⟨c,rfl⟩:=kL h;rw[nF e,nF G];exact .two i j c
   |cons _ _ =>
    have U:∀ Y t,mQ (d::J::Y::t)=none:=λY t=>by cases d <;> first|rfl|(cases J <;> rfl)
    exact nn ((U _ _).symm.trans h)
def rW {P:Hp}{ds:Ab D}(r:qJ K P J (.int i::ds) vs):∃ ws,vs=.int i::ws/\qJ K P J ds ws:=by obtain⟨w,ws,rfl,p,t⟩:=r.cons_inv;exact⟨ws,congrArg (· :: ws) (by simpa only [am] using p),t⟩
def PI.weak {t t':TI}(h:PI X tg iter t)(w:∀ Y H R,t' Y H R->t Y H R):PI X tg iter t':=λJ s Y H R I q=>h J s Y H R I (w Y H R q)
end
section
variable {X:Cx}{tg:Bl}{f:DA}{p ai:Ea}
def PU {e:Bl}{es:Ab Bl}(hg:Gl X "range")(hm:X.mg "range" = Zw)(l:PA X (e::es) (kz X f))(hs:Bj (e::es) X.env=(Yp,eval e X.env)::Bj es X.env:=by rfl)(N:(Fh ai (Bj es X.env)).any (·.1)=false:=by rfl) :
  PI X tg (.Call (.Name "range" p) (e::es) [] ai) (vy X (kG f)):=by
 intro aa s Y H R I h;obtain⟨P,J,ac,S,r,x,n⟩:=h;refine Call_ (uZ I hg hm boot_range (Gw (bi (yE l I r x n ai) λus s1 ⟨vs,O,A,k,ds,S1,T,y,w,v,E,L,B,G⟩=>?_) hs N));obtain⟨ah,g,q⟩:=vT G;cases RU g with
 |one j c =>
  obtain⟨m,rfl,U⟩:=rW E;cases U.nil_inv;obtain⟨u,rfl,t,rfl⟩:=jT y;refine call_range_1 (oZ T om om c.1 c.2 ?_);have z:=q (B_ 0 j.toNat) O A k w L B c0;rw[Int.sub_zero];exact z
 |two i j c =>
  obtain⟨m,rfl,U⟩:=rW E;obtain⟨o,rfl,d⟩:=rW U;cases d.nil_inv;obtain⟨u,u',rfl,⟨t,rfl⟩,t',rfl⟩:=N6 y;exact call_range_2 (oZ T c.1 c.2.1 c.2.2.1 c.2.2.2 (q (B_ i (j-i).toNat) O A k w L B c0))
noncomputable def gC (g:DG)(f:DS):Ab D->qF->ag->ik
 |[],G,S=>.nx G S
 |d::N,G,S=>(g d G S).toS G λJ S1=>match f J S1 with
  |.nx Y U=>gC g f N Y U
  |.ct Y U=>gC g f N Y U
  |.bk Y U=>.nx Y U
  |o=>o
def gS (fi:DI)(g:DG)(f:DS):DS:=λY S=>(fi Y S).toS Y λJ S1=>gC g f J Y S1
inductive uo (X:Cx)(P1:Hp)(J1:J9)(g:DG)(f:DS)(ds:Ab D)(D:Ends)(i m:Aj)(Y : _L.St)(H:Hp):Prop
 |mk (hi:i<=ds.length) (hm:m=ds.length-i) (P2:Hp) (J2:J9) (env2:qF) (S2:ag) (r:bf X.K H P2 J2 S2) (re:zK X.K P2 J2 Y env2) (e1:qO P1 P2) (e2:J1<+:J2) (af:zI X P2 J2 (gC g f (ds.drop i) env2 S2) D):uo X P1 J1 g f ds D i m Y H
def A0 {f:DS}(hp:Ox (As X.prog X.w) X.A X.env X.xe)(hc:X.calm=Vp)(hi:PI X tg iter (vy X fi))(hg:PG X tg (so X g))(hb:jq X cu (ir X f))
  (hs:∀ x,Gy iter X.env x=pure x:=by intro _;rfl):PS X (.For tg iter cu [] ai) (ir X (gS fi g f)):=_f (OY hp hc hi hg hb hs) λD Y H ⟨P,J,ac,S,r,re,af⟩=>by
 refine⟨P,J,ac,S,r,re,?_⟩;have N:=yA af;cases q:fi ac S with
 |bad=>rw[q] at N;exact N
 |ex c x S'=>rw[q] at N;exact N
 |ok T S1 =>
  rw[q] at N;have zl:zI X P J (gC g f T ac S1) D:=N;intro cg H1 P1 J1 r1 e1 e2 it;refine⟨uo X P1 J1 g f T D,
   ⟨T.length,EQ _,Z,P1,J1,ac,S1,r1,re.mono e1 e2,qO.refl _,Bm _,zI.base e1 e2 zl⟩,?_⟩
  rintro i m Y2 H2 ⟨hi,rfl,P2,l,E,e,h,o,v,n,L⟩;by_cases B:i<T.length
  .refine .inr ⟨it.go i H2 P2 l e B h v n,uo X P1 J1 g f T D (i+1) (T.length-(i+1)),λY' H' w=>⟨_,?_,w⟩,λx H3 y=>?_⟩
   .omega
   .obtain⟨P3,d,hd,r3,e5,rp⟩:=it.yld i H2 x H3 P2 l e B h v n y;have A:T.drop i=d::T.drop (i+1):=by
     rw[Rj B];rw[Be B] at hd;rw[Cw hd]
    rw[A] at L;have O:=yA (zI.base e5 (Bm _) L);refine⟨P3,l,E,e,d,r3,o.mono e5 (Bm _),rp,?_⟩;cases q2:g d E e with
    |bad=>rw[q2] at O;exact O
    |ex c x S'=>rw[q2] at O;exact O
    |ok I S3 =>
     rw[q2] at O;intro Y4 H4 P4 J4 r4 zc e6 e7;refine⟨P4,J4,I,S3,r4,zc,?_⟩;have U:=zI.base e6 e7 O;cases j:f I S3 with
     |bad=>simp only[j] at U;exact U
     |ex c x G k=>simp only[j] at U;exact U
     |rt d4 k=>simp only[j] at U;exact U
     |bk G k=>simp only[j] at U;exact U
     |nx G k =>
      simp only[j] at U;exact λY5 H5 P5 J5 r5 z t s=>⟨B,Z,P5,J5,G,k,r5,z,((v.trans e5).trans e6).trans t,(n.trans e7).trans s,zI.base t s U⟩
     |ct G k =>
      simp only[j] at U;exact λY5 H5 P5 J5 r5 z t s=>⟨B,Z,P5,J5,G,k,r5,z,((v.trans e5).trans e6).trans t,(n.trans e7).trans s,zI.base t s U⟩
  .have A:T.drop i=[]:=Tx om;rw[A] at L;exact .inl ⟨it.stop i H2 P2 l e om h v n,L Y2 H2 P2 l h o (qO.refl _) (Bm _)⟩
end
abbrev DF:=Ab D->ag->ax D
section
variable {X:Cx}{x:Ah}{p ai:Ea}{e:Bl}{es:Ab Bl}{F:DF}{fa:DA}
def qG (F:DF)(fa:DA):DE:=λY S=>(fa Y S).bind λJ S1=>F J S1
def eO {U P P1:Hp}{J J1:J9}{ds:Ab D}(L:wR X u F)(N:Inv X aa Y U G)(E:bf X.K U P1 J1 S1)(T:qQ vs us)
  (B:qJ X.K P1 J1 ds vs) (e1:qO P P1) (e2:J<+:J1) (O:qL X P J (F ds S1) (gy X P J Q)):a8 X (call u us) (EP X aa Y Q) X.xe G:=L aa Y U G P1 J1 S1 vs us ds Q N E T B (qW.base e1 e2 O)
def PH {id:Ek}(B:wR X (.builtin id) F)(o:Gl X x)(hm:X.mg x=Zw)(hv:Gi x=Aa (.builtin id))(O:PA X (e::es) (kz X fa))(j:x ≠ "__name__":=by decide)(N:(x == ("__debug__" : Ah))=false:=by decide)
  (w:Bj (e::es) X.env=(Yp,eval e X.env)::Bj es X.env:=by rfl) (G:(Fh ai (Bj es X.env)).any (·.1)=false:=by rfl):PE X (.Call (.Name x p) (e::es) [] ai) (tD X (qG F fa)):=by
 intro t s Y H Q I h;obtain⟨P,J,g,S,r,y,T⟩:=h;refine Hr (uZ I o hm hv ?_ j N);exact Ot (bi (yE O I r y T ai) λus d ⟨m,v,f,n,c,S1,E,q,z,l,A,L,k,U⟩=>eO B E z q A L k U) w G
def U9 (B:wR X (.type T) F)(l:Gl X x)(hm:X.mg x=Zw)(hv:Gi x=Aa (.type T))(O:PA X (e::es) (kz X fa))(y:x ≠ "__name__":=by decide)(N:(x == ("__debug__" : Ah))=false:=by decide)
  (z:Bj (e::es) X.env=(Yp,eval e X.env)::Bj es X.env:=by rfl) (G:(Fh ai (Bj es X.env)).any (·.1)=false:=by rfl):PE X (.Call (.Name x p) (e::es) [] ai) (tD X (qG F fa)):=by
 intro m s Y H Q I h;obtain⟨P,J,c,S,r,k,E⟩:=h;refine Hr (uZ I l hm hv ?_ y N);exact Gw (bi (yE O I r k E ai) λus v ⟨n,f,t,i,d,S1,A,o,j,g,w,L,q,U⟩=>eO B A j o w L q U) z G
end
def zR.there {P:Ba}(x:zR P w H h a o):∃ Y,h.get? a=Aa Y:=by
 cases o with
 |lst U=>obtain⟨_,_,_,_,e⟩:=x;exact⟨_,e⟩
 |tup U=>obtain⟨_,_,_,Y,e,_⟩:=x;exact⟨_,e⟩
 |dK J=>obtain⟨_,_,_,_,o,_,_,e,_⟩:=x;exact⟨_,e⟩
 |dT J=>obtain⟨_,_,_,_,o,_,_,e,_⟩:=x;exact⟨_,e⟩
 |set S n=>obtain⟨o,_,_,_,e,_⟩:=x;exact⟨_,e⟩
 |ins C B G=>obtain⟨_,_,_,e,_⟩:=x;exact⟨_,e⟩
 |own y=>obtain⟨_,e⟩:=x;exact⟨_,e⟩
 |xd G=>obtain⟨_,⟨_,_,_,e,_⟩,_⟩:=x;exact⟨_,e⟩
 |rng lo N=>obtain⟨_,_,_,e⟩:=x;exact⟨_,e⟩
 |frz Y u=>obtain⟨e,_⟩:=x;exact⟨_,e⟩
 |tbl O=>exact⟨_,show h.get? a=Aa _ from x⟩
 |met f y=>exact⟨_,show h.get? a=Aa _ from x⟩
 |ext φ => obtain⟨_,e,_⟩:=x;exact e
section
variable {X:Cx}{aa:J0}{Y: _L.St}{H:Hp}{s:Ai}{B h':Bc}
abbrev Fn1 (X:Cx):Prop:=X.ex=[]/\X.stack=X.env::X.outer/\X.env.frame=Aa X.env.locals
def Fn1.mem (F:Fn1 X){b:Af}:b∈gx X.stack↔b=X.env.locals\/b∈X.fs:=by rw[F.2.1];unfold gx;rw[Hb,F.2.2];exact Av
def qm.there (I:Inv X aa Y H s)(F:Fn1 X){b:Af}(o:qm X aa H b):∃ J,s.heap.get? b=Aa J:=by
 rcases o with⟨o,e,_⟩|e|⟨p,U,rfl⟩|⟨x,e⟩
 .exact I.base.there b o e (by rw[F.1];simp)
 .cases q:H b with
  |none=>exact absurd q e
  |some u=>exact zR.there (I.hok b u q)
 .exact⟨_,(I.pin p U).1⟩
 .obtain⟨v,J,G,_⟩:=I.cell x b e;exact⟨J,G⟩
def Inv.fly (I:Inv X aa Y H s)(F:Fn1 X)(cv:Cv X aa H B s.heap)(st:B.StaysIn h')(up:s.heap.UpToSlots h'):Inv X aa Y H { s with heap:=h' } /\ Cv X aa H B h':=by
 have E:∀ b o,s.heap.get? b=Aa o->qm X aa H b->b ∉ gx X.stack->h'.get? b=Aa o:=λb o e q n=>st b o (cv b o e q n);have g:∀ b o,X.s₀.heap.get? b=Aa o->b≠X.env.locals:=λb o e=>Cm (Bq (Bh e) I.ok.above);have O:∀ b o,X.s₀.heap.get? b=Aa o->b ∉ X.fs->b ∉ gx X.stack:=λb o e n z=>(F.mem.mp z).elim (g b o e) n;have nx:∀ b,b ∉ X.ex:=λb=>by rw[F.1];simp
 have L:∀ b,b∈gx X.stack->∀ o,s.heap.get? b=Aa o->∃ sl,h'.get? b=Aa { o with slots:=sl }:=λb hb o e=>by obtain⟨_,j,t,w⟩:=I.stack.mem hb;rw[e] at t;cases t;exact up b o e w
 have J:∀ x c,X.env.cells.lookup x=Aa c->∀ v,s.heap.IsCell c v->h'.IsCell c v:=λx c e v ⟨o,ho,h⟩=>by
  obtain⟨sl,q⟩:=up c o ho λvs z=>by rw[h] at z;cases z
  exact⟨_,q,h⟩
 refine⟨⟨I.ok,I.os,I.bare,⟨λb o e n hb N=>?_,λb o e n hb N=>?_,I.base.free,λb o e N=>?_,I.base.tups,I.base.frzs,I.base.tbls⟩,?_,λx c e=>?_,I.free,I.freeC,λp hp=>?_,λa o e=>?_,I.len⟩,λb o e q n=>?_⟩;exact E b o (I.base.keep b o e n hb N) (.inl ⟨o,e,N⟩) (O b o e hb);obtain⟨sl,G⟩:=I.base.slot b o e n hb N;obtain⟨y,U⟩:=L b (F.mem.mpr (.inr hb)) _ G;exact⟨y,U⟩
 .obtain⟨j,G⟩:=I.base.there b o e N;by_cases hb:b∈gx X.stack
  .obtain⟨sl,U⟩:=L b hb _ G;exact⟨_,U⟩
  .exact⟨j,E b j G (.inl ⟨o,e,N⟩) hb⟩
 .obtain⟨m,A,hl⟩:=I.loc;refine⟨m,up.ns A,λi x v G U T=>?_⟩;obtain⟨u,r,l⟩:=hl i x v G U T;refine⟨u,r,?_⟩;rcases l with l|⟨k,c,e,z⟩
  .exact .inl l
  .exact .inr ⟨k,c,e,J x c e _ z⟩
 .obtain⟨v,z⟩:=I.cell x c e;exact⟨v,J x c e v z⟩
 .obtain⟨e,n,f,w,d⟩:=I.pin p hp;exact⟨E p.1 p.2 e (.inr (.inr (.inl ⟨p,hp,Z⟩))) λz=>(F.mem.mp z).elim f w,n,f,w,d⟩
 .refine(I.hok a o e).stay (λb u hb q=>?_) (λ_ q=>q) λ_ _ q=>q;have A:H b≠none:=by
   rcases hb with rfl|hb
   .rw[e];intro z;cases z
   .rw[hb];intro z;cases z
  exact E b u q (.inr (.inl A)) λz=>A (I.stkFree b z)
 .obtain⟨o1,G⟩:=qm.there I F q;have U:=cv b o1 G q n;have T:=st b o1 U;rw[e] at T;cases T;exact U
def sT (o:Ce)(f:Bs Ac->Bs Ac):(o.mapFields f).dict=o.dict:=by obtain⟨c,d,J,sl⟩:=o;cases J <;> rfl
section
variable {M:Nq}{A:Bp}{E:J7}
def UE {ac:Hn}{c:Ab Hn}{vs:Bs Ac}{head:Ac}{J:Ar}{Q:Nx->Ai->Prop}(f:A.frames=Aa (ac::c))(d:s.heap.FunFrames B (ac::c))(hf:ac.frame=Aa L)(g:s.heap.get? e=Aa I)
  (v:B.StaysIn s.heap) (G:B.get? e=Zw) (N:I.data=.fields vs) (j:1<vs.size) (h:∀ h',ud B (ac::c) e I.cls I.dict (Ju L) h'->s.heap.UpToSlots h'->Q () { s with heap:=h' }) :
  Ap M A (do let a <- frameOf ac;let pl <- entryPlaceOf L J;let b <- Vz head a .none (Ju L) .none pl;setField (.ref e) 1 b) Q E s:=by
 have ne:e ∉ (ac::c).filterMap (·.frame):=λz=>by obtain⟨_,o,t,y⟩:=d.mem z;rw[g] at t;cases t;exact y vs N
 refine Ad (wpAny_frameOf_fun f d hf λU l=>Ad (wpAny_entryPlaceOf λpl O=>?_));unfold Vz newFields;refine Ad (Dj ?_ (O.sizeOk5 _ _ _ _ _));generalize hT:({ cls:=.type "traceback",dict:=Zw,data:=.fields ([head,.ref L,.none,Ju L,.none]++(if pl.isEmpty then Da 6 Ei else pl)).toArray } : Ce)=T;obtain⟨k,x,h3⟩:∃ k,T.data=.fields k/\k[3]? = Aa (Ju L):=⟨_,by rw[<- hT],by first|(simp;done)|(rcases O with rfl|⟨_,_,_,_,_,_,_,rfl⟩ <;> simp)⟩
 have fT:T.isFreed=false:=IN x;have m:U.get? e=Aa I:=(l.2.1 e ne).trans g;have e2:=Ak (h:=U) T m;have nT:U.objs.size≠e:=Hl (Bh m);have r:∀ b o,b≠e->U.get? b=Aa o->((U.push T).update e (Ko (·.setIfInBounds 1 (Cc U.objs.size)))).get? b=Aa o:=λb o n q=>by rw[Cj _ _ (Dm n)];exact Ak _ q
 refine Gj e2 N j (h _ ?_ ?_);have i:B.StaysIn U:=λb o q=>(l.2.1 b λz=>by rw[(d.mem z).1] at q;cases q).trans (v b o q);have d3:=Hs N (·.setIfInBounds 1 (Cc U.objs.size));refine⟨λb o q=>r b o (λz=>by rw[z,G] at q;cases q) (i b o q),G,d.of_keeps λb o q y=>?_,.mk _ _ U.objs.size T k (Dx _ e2 (IN d3)) (Rk _ _) (sT _ _) d3 (by simp[j]) i.fresh nT ((Cj _ _ (Dm nT)).trans (Bf U fT)) x h3⟩;obtain⟨sl,z⟩:=l.2.2 b o q;exact⟨_,r b _ (λw=>by rw[w,g] at q;cases q;exact y vs N) z,rfl⟩;intro b o q y;obtain⟨sl,z⟩:=l.2.2 b o q;exact⟨sl,r b _ (λw=>by rw[w,g] at q;cases q;exact y vs N) z⟩
def iQ {l:Ab Hn}{v:Ac}(x:ud B l e c dd fl h):∃ U vs T L G,h.get? e=Aa U/\U.cls=c/\U.dict=dd/\U.data=.fields vs/\vs[1]? = Aa (.ref T)/\h.get? T=Aa L/\L.data=.fields G/\G[3]? = Aa fl /\
  ud B l e c dd v (h.update T (Ko (·.setIfInBounds 3 v)))/\h.UpToSlots (h.update T (Ko (·.setIfInBounds 3 v))):=by
 obtain⟨a,i,m,U,vs,T,L,G,t,g,O,y,r,k,d,w,J,j⟩:=x;have I:∀ b,b≠T->(h.update T (Ko (·.setIfInBounds 3 v))).get? b=h.get? b:=λb n=>Cj _ _ (Dm n);have f:∀ b o,h.get? b=Aa o->(∀ vs,o.data≠.fields vs)->b≠T:=λb o q N z=>by rw[z,w] at q;cases q;exact N G J
 refine⟨U,vs,T,L,G,t,g,O,y,r,w,J,j,⟨λb o q=>(I b λz=>by rw[z,k] at q;cases q).trans (a b o q),i,m.of_keeps λb o q N=>⟨o,(I b (f b o q N)).trans q,rfl⟩,.mk U vs T _ _ ((I e (Dm d)).trans t) g O y r k d (Dx _ w (IN (Hs J _))) (Hs J _) ?_⟩,λb o q N=>⟨o.slots,(I b (f b o q N)).trans q⟩⟩;simp[(Cq.mp j).1]
def YI {l:Ab Hn}{Q:Nx->Ai->Prop}(x:ud B l e c dd fl s.heap)(N:∀ h',ud B l e c dd .none h'->s.heap.UpToSlots h'->Q () { s with heap:=h' }) : Ap M A (Rl (.ref e) Zw) Q E s:=by obtain⟨z,w,T,y,j,I,_,_,G,L,O,J,U,k,up⟩:=iQ (v:=.none) x;unfold Rl;refine Ad (Dt I G L ?_);rw[Au (show (Cc T != Ei)=Vp from by simp)];exact Gj O J (Cq.mp U).1 (N _ k up)
end
def YV {M:Nq}{A:Bp}{E:J7}{Q:Nx->Ai->Prop}(I:Inv X aa Y H s)(F:Fn1 X)(r:A.frames=Aa X.stack)(f:kx X aa H c dd e s.heap)
  (l:∀ h' B,ud B X.stack e c dd (Ju X.env.locals) h'->Cv X aa H B s.heap->s.heap.UpToSlots h'->Q () { s with heap:=h' }) : Ap M A (Kf (.ref e) X.env) Q E s:=by
 have z:=F.2.1;rw[z] at r;unfold Kf;simp only[F.2.2];cases f with
 |new ob t U m J j no nf =>
  subst m J;refine Ad (Dt U j (x:=.none) rfl ?_);rw[AT aC];have g:=Tz (as:=e::gx X.stack) I.stack λac U a ha=>Bn _ (Ir.mpr ⟨ac,U,ha⟩);have O:Cv X aa H (Gk s.heap (e::gx X.stack)) s.heap:=λb o q zn n=>Pm _ q λw=>(Av.mp w).elim (λw=>no (w▸zn)) n;have L:(Gk s.heap (e::gx X.stack)).get? e=none:=Ls _ Cr;have k4:(Gk s.heap (e::gx X.stack)).StaysIn s.heap:=λb o q=>Qi _ q;generalize Gk s.heap (e::gx X.stack)=B at g O L k4;exact UE r (z▸g) F.2.2 U k4 L j aA λh' k up=>l h' B (z▸k) O up
 |fly B v fl cv =>
  obtain⟨oe,vs,T,oT,ts,U,m,J,j,h1,hT,N,h3,k,up⟩:=iQ (v:=.none) fl;subst m J;refine Ad (Dt U j h1 ?_);rw[Au (show (Cc T != Ei)=Vp from by simp)];refine Ad (Dt hT N h3 ?_);by_cases hv:(v == Ju X.env.locals)=Vp
  .rw[Au hv];have zc:v=Ju X.env.locals:=by simpa using hv
   subst zc;exact An (l s.heap B fl cv λb o q _=>⟨o.slots,q⟩)
  rw[AT hv];refine Ad (Gj hT N (Cq.mp h3).1 ?_);obtain⟨g,O,L,zs,zo,_,_,_,zl,h,G,d,i,_⟩:=k;rw[<- h,<- G] at l;exact UE (z▸r) (z▸L) F.2.2 zl g O d (Cq.mp i).1 λh' y u=>l h' B (z▸y) cv (up.trans u)
def _G {M:Nq}{A:Bp}{E:J7}{Q:Nx->Ai->Prop}(I:Inv X aa Y H s)(F:Fn1 X)(O:A.frames=Aa X.stack)(f:kx X aa H c dd e s.heap)
  (q:∀ h' B,ud B X.outer e c dd .none h'->Inv X aa Y H { s with heap:=h' } -> Cv X aa H B h'->Q () { s with heap:=h' }) : Ap M A (leaving X.env (.ref e)) Q E s:=by
 unfold leaving;refine Ad (YV I F O f λl B k j T=>YI (s:={ s with heap:=l }) k λN U o=>?_);obtain⟨w,J⟩:=Inv.fly I F j U.1 (T.trans o);obtain⟨z,y,G,L⟩:=U;rw[F.2.1] at G;exact q N B ⟨z,y,G.2.2,L⟩ w J
end
def qe (P:Ba)(w:Bu):wu:=λU H s E u Y =>
 ∃ e c dd J B,u=.ref e/\Y.os=s.os/\Oc Y.gens/\Un (gx U) [] H J s.heap Y.heap/\jp P w J Y.heap/\ud B U e c dd .none Y.heap /\
  (∀ b o,Y.heap.get? b=Aa o->((∃ o,s.heap.get? b=Aa o)\/J b≠Zw)->b ∉ gx U->B.get? b=Aa o)/\E c dd J
section
variable {X:Cx}{aa:J0}{Y: _L.St}{H:Hp}{s s':Ai}
def AQ (I:Inv X aa Y H s)(h:qe X.prog X.w X.stack H s E u s'):∃ e c dd H',u=.ref e/\Inv X aa Y H' s'/\kx X aa H' c dd e s'.heap/\E c dd H':=by
 obtain⟨e,c,dd,H',B,rfl,os,J,w,U,fl,G,q⟩:=h;have y:Inv X aa Y H' s':=Inv.call' I os w U J (ch:=[]) λb z=>absurd z aA;refine⟨e,c,dd,H',rfl,y,.fly B .none fl λb o A N n=>G b o A ?_ n,q⟩;rcases N with⟨o,z,L⟩|z|⟨p,j,rfl⟩|⟨x,z⟩
 .exact .inl (I.base.there b o z L)
 .exact .inr z
 .exact .inl ⟨_,(I.pin p j).1⟩
 .obtain⟨v,O,T,_⟩:=I.cell x b z;exact .inl ⟨O,T⟩
end
structure RoomC (cm:Ar)(k:Aj)(A:Bp):Prop where
 hd:cm=Vp->A.handled=Zw
 dp:A.depth+3*k+5<Vb
 un:A.units+16*k+200<Fj
 gd:A.guards=Aa []
def RoomC.mono {j k:Aj}(r:RoomC cm k A)(h:j<=k:=by decide):RoomC cm j A:=⟨r.hd,by have:=r.dp;fin2,by have:=r.un;fin2,r.gd⟩
def RoomC.deeper {k:Aj}(r:RoomC cm (k+1) A)(ac:Hn):RoomC cm k (A.deeper ac):=
 ⟨r.hd,by have:=r.dp;show A.depth+1+3*k+5<_;fin2,by have:=r.un;show A.units+3+16*k+200<_;fin2,r.gd⟩
def RoomC.depth (r:RoomC cm k A):A.depth<Vb:=by have:=r.dp;fin2
def RoomC.units (r:RoomC cm k A):A.units+64<Fj:=by have:=r.un;fin2
def RoomC.of (r:oi k A):RoomC Vp k A:=⟨λ_=>r.hd,r.dp,r.un,r.gd⟩
def RoomC.any (r:RoomC cm k A):RoomC Yp k A:=⟨(λz=>nomatch z),r.dp,r.un,r.gd⟩
def RoomC.mark (r:RoomC cm k A)(h:Al Ac):RoomC Yp k (A.mark h):=⟨(λz=>nomatch z),r.dp,r.un,r.gd⟩
noncomputable abbrev Cx.re (X:Cx)(A:Bp)(cm:Ar)(E:J7):Cx:={ X with A:=A,calm:=cm,xe:=E }
def Inv.re {X:Cx}(I:Inv X aa Y H s)(A:Bp)(cm:Ar)(E:J7)(J:A.frames=Aa X.stack)(U:cm=Vp->A.handled=Zw):Inv (Cx.re X A cm E) aa Y H s:=
 ⟨⟨I.ok.mod,I.ok.kind,I.ok.glob,I.ok.blt,I.ok.above,I.ok.inj,I.ok.has,I.ok.cab,U,J,I.ok.stk,I.ok.exf,I.ok.bs,I.ok.bsz,I.ok.noex,I.ok.exfs,I.ok.funs,I.ok.frf⟩,I.os,I.bare,I.base,I.loc,I.cell,I.free,I.freeC,I.pin,I.hok,I.len⟩
def Inv.unre {X:Cx}(I:Inv (Cx.re X A cm E) aa Y H s)(J:X.A.frames=Aa X.stack)(U:X.calm=Vp->X.A.handled=Zw):Inv X aa Y H s:=
 ⟨⟨I.ok.mod,I.ok.kind,I.ok.glob,I.ok.blt,I.ok.above,I.ok.inj,I.ok.has,I.ok.cab,U,J,I.ok.stk,I.ok.exf,I.ok.bs,I.ok.bsz,I.ok.noex,I.ok.exfs,I.ok.funs,I.ok.frf⟩,I.os,I.bare,I.base,I.loc,I.cell,I.free,I.freeC,I.pin,I.hok,I.len⟩
structure sd (P:Ba)(w:Bu)(K:Ag)(mg:J8)(base:Bc)(cm:Ar)(k:Aj)(f:Af)(fd:Ft)(ps:Y8)(sp:Sp):Prop where
 len:∀ vs H Q E,sp vs H Q E->vs.length=ps.length
 run:∀ (A:Bp) (outer:Ab Hn) (s:Ai) (H:Hp) (args:Args) (us:Y0) (vs:Ab V) (Q:VK) (E:XK),RoomC cm k A->oo P w K mg base A outer s H->Oe s fd args (ps.zip us)->qQ vs us->sp vs H Q E ->
  Gs (As P w) A (.call (.ref f) args) (CR (qe P w) outer P w H s Q E) s
def sd.ok {P:Ba}{K:Ag}{base:Bc}(F:sd P w K mg base Vp k f fd ps sp):q_ P w K mg base (qe P w) k f fd ps sp:=
 ⟨F.len,λA G s H Y us U Q E J=>F.run A G s H Y us U Q E (.of J)⟩
def sd.imp {P:Ba}{K:Ag}{base:Bc}{Y:Sp}(F:sd P w K mg base cm k f fd ps sp)
  (h:∀ vs H Q E,Y vs H Q E->sp vs H Q E):sd P w K mg base cm k f fd ps Y:=
 ⟨λvs H Q E q=>F.len vs H Q E (h _ _ _ _ q),λA B s H J us vs Q E U G O hv N=>F.run A B s H J us vs Q E U G O hv (h _ _ _ _ N)⟩
noncomputable def jv (cm:Ar)(P:Ba)(w:Bu)(K:Ag)(mg:J8)(base:Bc)(N:Y8)(U:Ah)(ae:Ey)(f:Af)(J:Ac)(A:Bp)(G:Ab Hn)(s:Ai)(H:Hp)(E:XK):Cx where
 prog:=P
 w:=w
 K:=K
 mg:=mg
 base:=base
 A:=A.deeper (Fw U ae s.heap.objs.size f J)
 N:=N
 s₀:=s
 H₀:=H
 env:=Fw U ae s.heap.objs.size f J
 outer:=G
 stack:=Fw U ae s.heap.objs.size f J::G
 ex:=[]
 calm:=cm
 fn:=λ_=>Vp
 pn:=[]
 xe:=λe B=>Ap (As P w) (A.deeper (Fw U ae s.heap.objs.size f J)) (leaving (Fw U ae s.heap.objs.size f J) e) (λ_ Y=>qe P w G H s E e Y) (λO Y=>qe P w G H s E O Y) B
section
variable {P:Ba}{w:Bu}{K:Ag}{mg:J8}{base:Bc}{cm:Ar}{N:Y8}{av:Ah}{ae:Ey}{f:Af}{cd:Ac}{A:Bp}{aj:Ab Hn}{s:Ai}{H:Hp}{E:XK}
def PC:Ox (As P w) (A.deeper (Fw av ae s.heap.objs.size f cd)) (Fw av ae s.heap.objs.size f cd) (jv cm P w K mg base N av ae f cd A aj s H E).xe:=PassesOwn.leaving (Q₁:=λe Y=>qe P w aj H s E e Y)
abbrev _U (P:Ba)(w:Bu)(A:Bp)(ac:Hn)(aj:Ab Hn)(H:Hp)(s:Ai)(E:XK):Ac->Ai->Prop:=λe U=>Ap (As P w) (A.deeper ac) (leaving ac e) (λ_ Y=>qe P w aj H s E e Y) (λJ Y=>qe P w aj H s E J Y) U
def PD {X:Cx}(F:Fn1 X)(l:X.A=A.deeper X.env)(k:p_ X L J c x S u s')
  (q:∀ H' O G dd,bf X.K H' O G S->qO L O->J<+:G->yi X.K O G c x dd->E c dd H'):_U X.prog X.w A X.env X.outer X.H₀ X.s₀ E u s':=by
 obtain⟨e,aa,Y,j,m,J1,rfl,I,r,g,h,dd,fl,t⟩:=k;unfold _U;rw[<- l];refine _G I F I.ok.frames fl λh' B v U a=>?_;refine⟨e,c,dd,j,B,rfl,U.os,U.bare,by have z:=U.base;rw[F.1] at z;exact z,U.hok,v,λb o d y n=>a b o d ?_ λz=>?_,q j m J1 dd r g h t⟩
 .rcases y with z|z
  .obtain⟨T,z⟩:=z;exact .inl ⟨T,z,by rw[F.1];simp⟩
  .exact .inr (.inl z)
 .rcases (Fn1.mem F).mp z with z|z
  .subst z;rcases y with⟨T,i⟩|z
   .exact absurd (Bh i) (Me.mpr U.ok.above)
   .exact z U.free
  .exact n z
def YB {J:Ai}{vs:Ab V}(S:c_ N ps ae)(G:cm=Vp->A.handled=Zw)(Y:oo P w K mg base A aj s H)(O:vs.length=ps.length)(r:qQ vs us)
  (x:InCallC s s.heap.objs.size (Vr (Fw av ae s.heap.objs.size f cd).kindOf (ps.zip us) λ_=>Zw) (HT (s.heap.objs.size+1) ae.names []) (Vs (Fw av ae s.heap.objs.size f cd).kindOf (ps.zip us) λ_=>Zw) J) :
  Inv (jv cm P w K mg base N av ae f cd A aj s H E) [] (_L.v9 N vs) H J:=by
 have I:=UX (CX:=qe P w) (E:=E) (A:={ A with handled:=Zw }) S Z ⟨Y.frames,Y.mod,Y.bs,Y.bsz,Y.funs,Y.frf,Y.hok,Y.bare⟩ O r x;have U:=Inv.re I (A.deeper (Fw av ae s.heap.objs.size f cd)) cm (jv cm P w K mg base N av ae f cd A aj s H E).xe (Vh Y.frames) G;exact U
end
def AS {P:Ba}{w:Bu}{K:Ag}{mg:J8}{base:Bc}{cm:Ar}{k:Aj}{f:Af}{T:Ah}{qp:Arguments}{ae:Ey}{oc:Ac}{an:Al Af}{d:Bs (Al Ac)}{x:Ah}{kV l pm Y ct:Ac}{N ps:Y8}
  {A:Bp} {L:Ab Hn} {s:Ai} {H:Hp} {J:Args} {us:Y0} {vs:Ab V} {Q:VK} {E:XK} (lk:K.lookup f=Aa ⟨oc,od,.func (Fp x T qp cu ae .none kV l pm an Y ct),d⟩) (m:Js K Y T=Vp) (S:c_ N ps ae) (hl:vs.length=ps.length) (a:RoomC cm (k+1) A)
  (z:oo P w K mg base A L s H) (hb:Oe s (Fp x T qp cu ae .none kV l pm an Y ct) J (ps.zip us)) (r:qQ vs us)
  (G:∃ t,jq (jv cm P w K mg base N T ae f Y A L s H E) cu t/\t { nx:=λ_ H'=>Q .non H',rt:=Q } (_L.v9 N vs) H) :
  Gs (As P w) A (.call (.ref f) J) (CR (qe P w) L P w H s Q E) s:=by
 have KX:K.In s.heap:=z.mod.kin.keeps λb o e=>(z.bs b o e).1;have bb:s.heap.NoLimit:=z.mod.nolimit.keeps λb o e=>(z.bs b o e).1;have O:∀ y∈ps.zip us,ae.names.lookup y.1=Aa .local \/ (ae.names.lookup y.1=Aa .cell/\((HT (s.heap.objs.size+1) ae.names []).lookup y.1).isSome=Vp):=λ⟨n,v⟩ hy=>by
  rcases S.par n (Tu hy).1 with q|q
  .exact .inl q
  .exact .inr ⟨q,Ny _ _ _ (.inl q)⟩
 refine codeAny_call_function a.depth (KX _ _ lk) rfl S.co S.gen rfl (PySem.W.codeRec_of KX m) (hb _ _ _ _ ?_);refine wpAny_newFunctionEnv_cells S.kind O λac he h x=>?_;subst he;refine⟨bb.keeps x.toInCall.keep,codeAny_func ?_⟩;obtain⟨t,ht,hq⟩:=G;have I:Inv (jv cm P w K mg base N T ae f Y A L s H E) [] (_L.v9 N vs) H h:=YB S a.hd z hl r x;refine Ga (ht [] h (_L.v9 N vs) H _ I hq) (λfl i B=>?_) λe i B=>B;have j:∀ {g : _L.St} {H':Hp} {v:V} {u:Ac},Inv (jv cm P w K mg base N T ae f Y A L s H E) [] g H' i->qT v u->Q v H'->CE L P w H s Q u i:=
  λ{g H' v u} U c q=>⟨v,H',U.os,U.bare,U.base,U.hok,c,q⟩
 cases fl with
 |ret u =>
  obtain⟨v,g,H',U,c,q⟩:=B;exact j U c q
 |next =>
  obtain⟨g,H',U,q⟩:=B;exact j (v:=V.non) (u:=Ei) U rfl q
 |brk =>
  obtain⟨_,_,_,q⟩:=B;exact Am q
 |cont =>
  obtain⟨_,_,_,q⟩:=B;exact Am q
def fU (K:Ag)(x:Ah)(Y:Ac):Prop:=∀ c T,Do K x=Aa (c,T)->Y=.ref c
def UP {P:Ba}{w:Bu}{K:Ag}{mg:J8}{base:Bc}{cm:Ar}{k:Aj}{st:Du}(F:uq K x O st f fd)(S:c_ N ps (qH st))
  (len:∀ vs H Q E,sp vs H Q E->vs.length=ps.length)
  (J:∀ (Y:Ac) (A:Bp) (G:Ab Hn) (s:Ai) (H:Hp) (vs:Ab V) (Q:VK) (E:XK),fd.code=Y/\Mod K mg base->RoomC cm k (A.deeper (Fw O (qH st) s.heap.objs.size f Y))->sp vs H Q E ->
   ∃ t,jq (jv cm P w K mg base N O (qH st) f Y A G s H E) (zJ st) t/\t { nx:=λ_ H'=>Q .non H',rt:=Q } (_L.v9 N vs) H) :
  sd P w K mg base cm (k+1) f fd ps sp:=by
 obtain⟨l,od,kV,z,o,q,Y,g,y,rfl,lk,B⟩:=F.ex;exact⟨len,λA G s H I us vs Q E L T j r U=>AS lk B S (len _ _ _ _ U) L T j r (J Y A G s H vs Q E ⟨rfl,T.mod⟩ (L.deeper _) U)⟩
def yG (n:Aj)(ds:Ab D):qF:=ds.map Aa++Da (n-ds.length) Zw
noncomputable def jG:ik->ax D
 |.rt d S=>.ok d S
 |.nx _ S=>.ok .non S
 |.ex c x _ S=>.ex c x S
 |_=>.bad
def qM (n:Aj)(g:DS):DF:=λY S=>jG (g (yG n Y) S)
def _e (K:Ag)(P:Hp)(J : Ab Af)(R:ax D)(Q:VK)(E:XK):Prop:=match R with
 |.ok d N=>∀ v G Y U,bf K G Y U N->qO P Y->J<+:U->am K Y U d v->Q v G
 |.ex c x N=>∀ G Y U dd,bf K G Y U N->qO P Y->J<+:U->yi K Y U c x dd->E c dd G
 |.bad=>Fz
def wz (K:Ag)(n:Aj)(F:DF):Sp:=λY H Q E=>Y.length=n/\∃ P J U S,bf K H P J S/\qJ K P J U Y/\_e K P J (F U S) Q E
def V7 {K:Ag}{P:Hp}(r:qJ K P J ds vs):zK K P J (_L.v9 N vs) (yG N.length ds):=by
 refine⟨by simp[yG,_L.v9,r.length],λi d e=>?_⟩;unfold yG at e;unfold _L.v9;by_cases Y:i<ds.length
 .rw[Cn (by simpa using Y),Er] at e;rw[Cn (by rw[Ao,<- r.length];exact Y),Er];cases q:ds[i]? with
  |none=>rw[q] at e;cases e
  |some O =>
   rw[q] at e;cases e;obtain⟨v,G,U⟩:=r.get q;exact⟨v,by rw[G];rfl,U⟩
 .rw[Ec (by simpa using Y),Nc] at e;split at e <;> cases e
section
variable {P:Ba}{w:Bu}{K:Ag}{mg:J8}{base:Bc}{cm:Ar}
def GT {H I:Hp}{J:J9}{ds:Ab D}{vs:Ab V}{j:ag}(l:jq (jv cm P w K mg base N k ae f U A y s H E) cu (ir (jv cm P w K mg base N k ae f U A y s H E) g))
  (r:bf K H I J j) (i:qJ K I J ds vs) (Y:_e K I J (qM N.length g ds j) Q E):∃ t,jq (jv cm P w K mg base N k ae f U A y s H E) cu t/\t { nx:=λ_ H'=>Q .non H',rt:=Q } (_L.v9 N vs) H:=by
 refine⟨_,l,I,J,yG N.length ds,j,r,V7 i,?_⟩;unfold qM at Y;cases q:g (yG N.length ds) j with
 |rt d S1=>rw[q] at Y;exact λv H' B T L O G n=>Y v H' B T L O G n
 |nx o S1=>rw[q] at Y;exact λb H' B T L m O G=>Y .non H' B T L O G (by simp only[am])
 |bk o S1=>rw[q] at Y;exact Am Y
 |ct o S1=>rw[q] at Y;exact Am Y
 |ex c x o S1=>rw[q] at Y;exact λu e z=>PD ⟨rfl,rfl,rfl⟩ (A:=A) rfl z λH' B T dd L O G=>Y H' B T dd L O G
 |bad=>rw[q] at Y;exact Am Y
def fnX {st:Du}{k:Aj}{g:DS}(F:uq K x O st f fd)(S:c_ N ps (qH st))
  (U:∀ (Y:Ac) (A:Bp) (G:Ab Hn) (s:Ai) (H:Hp) (E:XK),fd.code=Y/\Mod K mg base->RoomC cm k (A.deeper (Fw O (qH st) s.heap.objs.size f Y)) ->
   jq (jv cm P w K mg base N O (qH st) f Y A G s H E) (zJ st) (ir (jv cm P w K mg base N O (qH st) f Y A G s H E) g)) :
  sd P w K mg base cm (k+1) f fd ps (wz K ps.length (qM N.length g)):=by
 refine UP F S (λz H Q E h=>h.1) λY A G s H z Q E L B h=>?_;obtain⟨o,q,J,j,y,r,I,T⟩:=h;exact GT (U Y A G s H E L B) r I T
end
section
variable {X:Cx}{cm:Ar}{k:Aj}{f:Af}{fd:Ft}{ps:Y8}{F:DF}{x:Ah}{p ai:Ea}{e:Bl}{es:Ab Bl}{fa:DA}{n:Aj}
def qI (n:Aj)(F:DF)(fa:DA):DE:=λJ S=>(fa J S).bind λY S1=>if Y.length=n then F Y S1 else .bad
def EX (X:Cx)(P:Hp)(J : Ab Af)(R:ax D):XK:=λc dd O=>match R with
 |.ex G x N=>c=G/\∃ Y U,bf X.K O Y U N/\qO P Y/\J<+:U/\yi X.K Y U c x dd
 |_=>Fz
def qAU {P:Hp}{R:ax D}(Y:qW X P J R Q):_e X.K P J R Q (EX X P J R):=by
 cases R with
 |ok d N=>exact Y
 |ex c x N=>exact λE U L dd T O B G=>⟨rfl,U,L,T,O,B,G⟩
 |bad=>exact Y
def GW {P:Hp}{R:ax D}(I:Inv X aa Y H s)(G:qW X P J R Q)
  (h:Gs (As X.prog X.w) X.A (.call u ⟨us,[]⟩) (CR (qe X.prog X.w) X.stack X.prog X.w H s Q (EX X P J R)) s):a8 X (call u us) (EP X aa Y Q) X.xe s:=by
 refine L2 (Lq h λr j U=>?_);cases r with
 |error u =>
  have U:qe X.prog X.w X.stack H s (EX X P J R) u j:=U;cases R with
  |ok d L=>obtain⟨_,_,_,_,_,_,_,_,_,_,_,_,q⟩:=U;exact Am q
  |bad=>exact Am G
  |ex y o L =>
   obtain⟨a,c,dd,E,rfl,A,fl,rfl,w,B,z,N,T,O⟩:=AQ I U;exact G _ _ ⟨a,aa,Y,E,w,B,rfl,A,z,N,T,dd,fl,O⟩
 |ok fl =>
  cases fl with
  |ret u=>exact I.after U
  |next=>exact Am U
  |brk=>exact Am U
  |cont=>exact Am U
def pW {aa:J0}{Y:_L.St}{H:Hp}{s:Ai}{vs:Ab V}{P:Hp}{J:J9}{ds:Ab D}(G:sd X.prog X.w X.K X.mg X.base cm k f fd ps (wz X.K n F))(T:RoomC cm k X.A)(A:yM X.K fd ps [])
  (I:Inv X aa Y H s) (r:bf X.K H P J S) (L:qQ vs us) (B:qJ X.K P J ds vs) (E:ds.length=n) (O:qW X P J (F ds S) Q):a8 X (call (.ref f) us) (EP X aa Y Q) X.xe s:=by
 have N:wz X.K n F vs H Q (EX X P J (F ds S)):=⟨by rw[<- B.length];exact E,P,J,ds,S,r,B,qAU O⟩
 have w:us.length=ps.length:=by rw[<- L.length];exact G.len _ _ _ _ N
 have U:=A s us I.kIn (by rw[Hc];exact w);rw[Hc] at U;exact GW I O (G.run X.A X.stack s H ⟨us,[]⟩ us vs Q _ T I.env0 U L N)
def eS {ac:qF}{S:ag}{P:Hp}{ds:Ab D}{Ok:D->ag->Prop}(h:qL X P J (if ds.length=n then F ds S1 else .bad) Ok):ds.length=n/\qL X P J (F ds S1) Ok:=by
 by_cases Y:ds.length=n;rw[Au Y] at h;exact⟨Y,h⟩;rw[AT Y] at h;exact Am h
def NU (G:sd X.prog X.w X.K X.mg X.base cm k f fd ps (wz X.K n F))(E:RoomC cm k X.A)(hF:Fn1 X)(v:Gl X x)(hm:X.mg x=Aa (.ref f))(T:Dd X.K (.ref f)=Vp)(c:yM X.K fd ps [])
  (A:PA X (e::es) (kz X fa)) (B:(x == ("__debug__" : Ah))=false:=by decide) (y:Bj (e::es) X.env=(Yp,eval e X.env)::Bj es X.env:=by rfl) (O:(Fh ai (Bj es X.env)).any (·.1)=false:=by rfl) :
  PE X (.Call (.Name x p) (e::es) [] ai) (tD X (qI n F fa)):=by
 intro aa s Y H Q I h;obtain⟨P,J,ac,S,r,l,z⟩:=h;refine Hr (y8 I v hm ?_ B);refine My (h₀:=X.base) I.ok.mod.kin T (bi (yE A I r l z ai) λus i ⟨vs,b,a,J1,m,S1,L,d,q,t,j,w,g,N⟩=>⟨L.kIn,?_⟩) y O;obtain⟨o,U⟩:=eS (ac:=ac) (S:=S) N;exact pW G E c L q d j o (qW.base w g U)
end
noncomputable abbrev gO:Ab Ac:=[.type "ValueError",.type "Exception",.type "BaseException",.type "object"]
noncomputable def isStr:Ac->Ar
 |.str _ _=>Vp
 |_=>Yp
def aQ (K:Ag)(N:Af):Ar:=match Eu N K with
 |some o=>match o.data with
  |.dict Y _=>Y.toList.all λe=>isStr e.key
  |_=>Yp
 |none=>Yp
def jV (K:Ag)(N:Af):Ar:=aQ K N&&decide (Br K N "__init__" = Aa Zw)
def QL {K:Ag}(Y:aQ K N=Vp):Vc K N=true:=by
 unfold aQ at Y;unfold Vc;cases e:Eu N K with
 |none=>rw[e] at Y;cases Y
 |some o =>
  rw[e] at Y;obtain⟨O,od,U,sl⟩:=o;cases U with
  |dict J G =>
   simp only at Y ⊢;rw[Sr] at Y;refine Eq.trans (congrArg (λf=>Array.all J f) (funext λe=>?_)) Y;cases e.key <;> rfl
  |_=>cases Y
def xY {K:Ag}(h:jV K N=Vp):Vc K N=Vp/\Br K N "__init__" = Aa none:=by unfold jV at h;rw[Ax,Bb] at h;exact⟨QL h.1,h.2⟩
def tR (K:Ag)(C:Af)(f:Ac->Xz->Bs (Al Ac)->Ar):Ar:=match Eu C K with
 |some o=>(match o.data with|.cls Y=>f o.cls Y o.slots|_=>Yp)
 |none=>Yp
def bV {K:Ag}{f:Ac->Xz->Bs (Al Ac)->Ar}(h:tR K C f=Vp):∃ Y od J sl,Eu C K=Aa ⟨Y,od,.cls J,sl⟩/\f Y J sl=true:=by
 unfold tR at h;cases e:Eu C K with
 |none=>rw[e] at h;exact Gr h
 |some o =>
  rw[e] at h;obtain⟨Y,od,U,sl⟩:=o;cases U with
  |cls J=>exact⟨Y,od,J,sl,rfl,h⟩
  |_=>exact Gr h
def nP (K:Ag)(C A:Af):Ar:=tR K C λJ Y sl=>tR K A λ_ U _=>decide (J=.type "type")&&(decide (Y.mro=.ref C::.ref A::gO)&&(!Y.hasDel&&(jV K Y.ns&&(jV K U.ns&&(decide (sl.toList.length=6)&&decide (sl.toList[4]? = Aa (Aa (.builtin "ValueError.__new__"))))))))
inductive yl (h:Bc)(C:Af):Prop
 |mk (nm q:Ah) (N:Af) (bs bm:Y0) (hdct:Ar) (sn:Y8) (sub:Y0) (ab:Ar) (col:Al Ar) (dd:Al Af) (k0 k1 k2 k3 k5:Al Ac) (mN:J8) (hC:h.get? C=Aa (Ld nm q C N bs bm hdct sn sub ab col dd k0 k1 k2 k3 k5 "ValueError.__new__")) (hN:h.Ns N mN) (hni:mN "__init__" = Zw) (T:Wa h gO bm):yl h C
def rS {β:Type}{l:Ab β}{n:Aj}(h:l.length=n+1):∃ a t,l=a::t/\t.length=n:=by
 cases l with
 |nil=>exact Nat.noConfusion h
 |cons a t=>exact⟨a,t,rfl,AaL h⟩
def _Y {β:Type}{l:Ab β}(h:l.length=6):∃ a b c d e f,l=[a,b,c,d,e,f]:=by obtain⟨a,t,G,h⟩:=rS h;obtain⟨b,T,N,h⟩:=rS h;obtain⟨c,B,Y,h⟩:=rS h;obtain⟨d,L,J,h⟩:=rS h;obtain⟨e,E,U,h⟩:=rS h;obtain⟨f,I,O,h⟩:=rS h;exact⟨a,b,c,d,e,f,by rw[G,N,Y,J,U,O,Kg.mp h]⟩
def K3 {Y:Xz}{U:Y0}{k0 k1 k2 k3 N k5:Al Ac}(hm:Y.mro=.ref C::U)(G:Y.hasDel=Yp)(hs:sl.toList=[k0,k1,k2,k3,N,k5])(J:sl.toList[4]? = Aa (Aa (.builtin n))) :
  (⟨.type "type",od,.cls Y,sl⟩:Ce)=Ld Y.name Y.qualname C Y.ns Y.bases U Y.hasDict Y.slotNames Y.subclasses Y.abstract Y.collection od k0 k1 k2 k3 k5 n:=by
 rw[hs] at J;cases J;cases Y;cases sl;cases hm;cases G;cases hs;rfl
def LP {K:Ag}(J:K.In h)(e:Eu C K=Aa ⟨.type "type",od,.cls Y,sl⟩)(O:Y.mro=.ref C::.ref A::gO)(G:Y.hasDel=Yp)(U:jV K Y.ns=Vp)(z:sl.toList.length=6)(H:sl.toList[4]? = Aa (Aa (.builtin "ValueError.__new__")))(T:Wa h gO (.ref A::gO)):yl h C:=by obtain⟨E,w,B,L,x,N,I⟩:=_Y z;exact⟨_,_,_,_,_,_,_,_,_,_,_,E,w,B,L,N,_,(J _ _ e).trans (congrArg Aa (K3 O G I H)),.of_isNs (Mz J (xY U).1),Mw J (xY U).1 (xY U).2,T⟩
def LQ {K:Ag}(J:K.In h)(z:nP K C A=Vp):yl h C:=by obtain⟨w,od,E,sl,e,z⟩:=bV z;obtain⟨T,H,j,I,L,z⟩:=bV z;have B:=Ct.mp z;have U:=Ct.mp B.2;have N:=Ct.mp U.2;have O:=Ct.mp N.2;have Y:=Ct.mp O.2;have G:=Ct.mp Y.2;rw[Bd B.1] at e;exact LP J e (Bd U.1) (Jn _▸N.1) O.1 (Bd G.1) (Bd G.2) (.own (J _ _ L) (.of_isNs (Mz J (xY Y.1).1)) (Mw J (xY Y.1).1 (xY Y.1).2) .base)
section
variable {X:Cx}{ai:Ea}{fa:DA}
def xI (c:Ac)(fa:DA):DS:=λY S=>(fa Y S).toS Y λJ S1=>if J.length<=bb then .ex c .non Y S1 else .bad
inductive xo (X:Cx)(pins:J0)(Y : _L.St)(env:qF)(P:Hp)(J : Ab Af)(us:Y0)(s1:Ai)(k:Ab D->ag->ik)(E:Ends):Prop
 |mk (vs:Ab V) (H1 P1:Hp) (J1:J9) (ds:Ab D) (S1:ag) (I:Inv X pins Y H1 s1) (rv:qQ vs us) (r:bf X.K H1 P1 J1 S1) (re:zK X.K P1 J1 Y env) (rp:qJ X.K P1 J1 ds vs) (e1:qO P P1) (e2:J<+:J1) (q:zI X P1 J1 (k ds S1) E):xo X pins Y env P J us s1 k E
def sQ {k:Ab D->ag->ik}{H P:Hp}{ac:qF}{D:Ends}(j:PA X es (kz X fa))(I:Inv X aa Y H s)(r:bf X.K H P J S)
  (o:zK X.K P J Y ac) (T:zI X P J ((fa ac S).toS ac k) D) (ai:Ea) :
  a8 X (spliced (Fh ai (Bj es X.env))) (λus O=>xo X aa Y ac P J us O k D) X.xe s:=by
 have U:qL X P J ((fa ac S).bind λd S=>.ok d S) λd S=>zI X P J (k d S) D:=by have:=yA T;cases q:fa ac S <;> rw[q] at this <;> exact this
 exact bi (yE j I r o U ai) λu O ⟨l,w,z,c,L,S1,E,g,y,G,A,N,B,q⟩=>⟨l,w,z,c,L,S1,E,g,y,G,A,N,B,zI.base N B q⟩
def B1 {U:Bl}{G:Ab Bl}{np L:Ea}(hc:X.calm=Vp)(hF:Fn1 X)(hg:Gl X x)(hm:X.mg x=Aa (.ref C))(f:nP X.K C g=Vp)(ha:PA X (U::G) (kz X fa))
  (y:(x == ("__debug__" : Ah))=false:=by decide) (E:Bj (U::G) X.env=(Yp,eval U X.env)::Bj G X.env:=by rfl) (j:(Fh L (Bj G X.env)).any (·.1)=false:=by rfl) :
  PS X (.Raise (Aa (.Call (.Name x np) (U::G) [] L)) Zw ai) (ir X (xI (.ref C) fa)):=by
 intro i s Y H D I h;obtain⟨P,J,ac,S,r,b,m⟩:=h;obtain⟨nm,qn,N,bs,c,hdct,sn,sub,ab,col,dd,k0,k1,k2,k3,k5,mN,hC,hN,k,T⟩:=LQ I.mod.kin f;refine wpAny_Raise_call_subT (C:=C) (nm:=nm) (q:=qn) (N:=N) (bs:=bs) (bm:=c) (hdct:=hdct) (sn:=sn) (sub:=sub) (ab:=ab) (col:=col) (dd:=dd) (k0:=k0) (k1:=k1) (k2:=k2) (k3:=k3) (k5:=k5)
  Ja (mN:=mN) (T.hasType Ja.hasBase) (I.ok.hd hc) (by rw[E];show (Yp||(Fh L (Bj G X.env)).any (·.1))=Yp;rw[j];rfl) k (y8 I hg hm ⟨rfl,?_⟩ y)
 have run:=sQ ha I r b m L;rw[E] at run ⊢;refine Lu (bi run λus s2 ⟨vs,d,P1,J1,l,S1,O,a,r1,v,n,e1,e2,q⟩=>?_);have hl:us.length=l.length:=by rw[n.length,a.length]
 by_cases w:l.length<=bb
 .rw[Au w] at q;refine⟨Z,by rw[hl,<- zP];exact w,O.bk _ _ hC,hN.keeps O.bk,T.keeps O.bk,λh' e hm=>?_⟩;obtain⟨t,E,_,_⟩:=hm.there;refine q _ _ ⟨e,i,Y,d,P1,J1,rfl,O.kept (t':=s2.toks) hm.keeps,r1,qO.refl _,Bm _,Zw,.new _ t E rfl rfl rfl (λA=>?_) (λz=>?_),trivial⟩
  .obtain⟨o1,B⟩:=qm.there O hF A;rw[hm.new] at B;cases B
  .obtain⟨_,o,B,_⟩:=O.stack.mem z;rw[hm.new] at B;cases B
 .rw[AT w] at q;exact Am q
end
section
variable {X:Cx}{aa:J0}{Y: _L.St}{H:Hp}{s:Ai}
def BV {M:Nq}{A:Bp}{E:J7}{Q:Nx->Ai->Prop}(I:Inv X aa Y H s)(F:Fn1 X)(O:A.frames=Aa X.stack)(f:kx X aa H c dd e s.heap)
  (z:∀ h' B,ud B X.stack e c dd .none h'->Inv X aa Y H { s with heap:=h' } -> Cv X aa H B h'->Q () { s with heap:=h' }) :
  Ap M A (Kf (.ref e) X.env) (λ_ J=>Ap M A (Rl (.ref e) Zw) Q E J) E s:=
 YV I F O f λy B k T L=>YI (s:={ s with heap:=y }) k λN G j =>
  let ⟨w,U⟩:=Inv.fly I F T G.1 (L.trans j)
  z N B G w U
def sY (I:Inv X aa Y H s)(x:ud B X.stack e c dd fl s.heap)(y:Cv X aa H B s.heap):¬ qm X aa H e/\e ∉ gx X.stack/\∃ J vs,s.heap.get? e=Aa J/\J.cls=c/\J.dict=dd/\J.data=.fields vs:=by
 obtain⟨l,j,k,O,vs,T,d,g,G,w,U,N,_⟩:=x;have E:e ∉ gx X.stack:=λz=>by obtain⟨_,o,L,A⟩:=I.stack.mem z;rw[G] at L;cases L;exact A vs N
 refine⟨λz=>?_,E,O,vs,G,w,U,N⟩;have q:=y e O G z E;rw[j] at q;cases q
def Inv.track {φ:Bc->Prop}(I:Inv X aa Y H s)(F:Fn1 X)(G:¬ qm X aa H e)(nf:e ∉ gx X.stack)(E:∀ H',zR X.prog X.w H' s.heap e (.ext φ)) : Inv X aa Y (bz H e (.ext φ)) s:=by
 have J:H e=none:=by
  cases q:H e with
  |none=>rfl
  |some u=>exact absurd (.inr (.inl (by rw[q];intro z;cases z))) G
 have B:e≠X.env.locals:=λz=>nf (F.mem.mpr (.inl z));have g:∀ b o,X.s₀.heap.get? b=Aa o->b≠e:=λb o q z=>G (.inl ⟨o,z▸q,by rw[F.1];simp⟩);refine⟨I.ok,I.os,I.bare,⟨I.base.keep,I.base.slot,λb o q n T=>?_,I.base.there,λb U q=>?_,λb o U q=>?_,λb j q=>?_⟩,I.loc,I.cell,?_,λx k q=>?_,λp N=>?_,λb u q=>?_,I.len⟩;rw[qP (g b o q)];exact I.base.free b o q n T;have z:=I.base.tups b U q;rw[qP (zG z J)];exact z;have z:=I.base.frzs b o U q;rw[qP (zG z J)];exact z;obtain⟨m,z⟩:=I.base.tbls b j q;exact⟨m,by rw[qP (zG z J)];exact z⟩;rw[qP (Dm B)];exact I.free;have z:k≠e:=λz=>G (.inr (.inr (.inr ⟨x,z▸q⟩)));rw[qP z];exact I.freeC x k q;obtain⟨l,L,w,y,A⟩:=I.pin p N;have z:p.1≠e:=λz=>G (.inr (.inr (.inl ⟨p,N,z⟩)));exact⟨l,by rw[qP z];exact L,w,y,A⟩
 .by_cases O:b=e
  .subst O;rw[qX] at q;cases q;exact E _
  .rw[qP O] at q;exact(I.hok b u q).stay (λ_ _ _ z=>z) (λk z=>by rw[qP (zG z J)];exact z) λk U z=>by rw[qP (zG z J)];exact z
def Inv.gone {i t':Aj}{h':Bc}(I:Inv X aa Y H s)(h:X.N.Nodup)(f:X.N[i]? = Aa n){m:J8}{v:Al Ac}(t:∀ (j:Aj) (y:Ah) (w:V),X.N[j]? = Aa y->Y[j]? = Aa (Aa w)->qi X.env.scope y->∃ u,qT w u/\EU X.env s.heap m y u)(hv:h'.Ns X.env.locals λy=>if y=n then v else m y)(B:Ew X.env.locals s.heap h') :
  Inv X aa (Y.set i Zw) H { s with heap:=h',toks:=t' }:=by
 have J:∀ b o,X.s₀.heap.get? b=Aa o->b≠X.env.locals:=λb o e=>Cm (Bq (Bh e) I.ok.above);have G:∀ b o,b≠X.env.locals->s.heap.get? b=Aa o->h'.get? b=Aa o:=λb o n e=>(B.2 b n).trans e;refine⟨I.ok,I.os,I.bare,⟨λb o e n O N=>G b o (J b o e) (I.base.keep b o e n O N),λb o e n O N=>?_,I.base.free,λb o e N=>?_,I.base.tups,I.base.frzs,I.base.tbls⟩,⟨_,hv,λj y w A U g=>?_⟩,λx c e=>?_,I.free,I.freeC,λp hp=>?_,λb u q=>?_,by simpa using I.len⟩;obtain⟨sl,q⟩:=I.base.slot b o e n O N;exact⟨sl,G b _ (J b o e) q⟩;obtain⟨L,q⟩:=I.base.there b o e N;exact⟨L,G b L (J b o e) q⟩
 .have E:i≠j:=λz=>by
   subst z;by_cases a:i<Y.length;rw[Fn a] at U;cases U;rw[Iy (by simp;fin2)] at U;cases U
  rw[Di E] at U;obtain⟨u,r,l⟩:=t j y w A U g;refine⟨u,r,?_⟩;rcases l with⟨k,z⟩|⟨k,c,z,zc⟩
  .refine .inl ⟨k,?_⟩;have:y≠n:=λz=>E (l9 h f (z▸A));simp[this,z]
  .exact .inr ⟨k,c,z,zc.sameBut B (I.cne y c z)⟩
 .obtain⟨w,z⟩:=I.cell x c e;exact⟨w,z.sameBut B (I.cne x c e)⟩
 .obtain⟨e,n,T,nf,d⟩:=I.pin p hp;exact⟨G p.1 p.2 T e,n,T,nf,d⟩
 .refine(I.hok b u q).stay (λc w hc z=>G c w ?_ z) (λ_ z=>z) λ_ _ z=>z;rintro rfl;rcases hc with rfl|hc
  .rw[I.free] at q;cases q
  .rw[I.free] at hc;cases hc
theorem ZN {A:Bp}{E:J7}{i:Aj}{O:Ea}{Q:Nx->Ai->Prop}(I:Inv X aa Y H s)(U:X.N.Nodup)(G:X.N[i]? = Aa n)(J:X.env.scope.names.lookup n=Aa .local)
  (h:∀ s',Inv X aa (Y.set i Zw) H s'->Q () s'):Ap M A (do Lp X.env n .none;unbindBehindTheSuite X.env n O) Q E s:=by
 obtain⟨m,B,L⟩:=id I.loc;exact wpAny_nameGoes_keeps J B (by rw[I.ok.kind];rfl) λT v hv N=>h _ (Inv.gone I U G L hv N)
end
noncomputable abbrev Cx.tryIn (X:Cx)(E:J7)(pn:J0):Cx:={ X with xe:=E,pn:=pn }
abbrev Cx.suite (X:Cx)(e:Af):Cx:=Cx.re X (X.A.mark (Aa (.ref e))) Yp λ_ _=>Fz
noncomputable def gP (c:Ac)(x:D):D:=match x with
 |.exl _ _ _=>x
 |_=>.exn c
def lB (N i:Aj)(cs:Y0)(f g:DS):DS:=λG S=>match f G S with
 |.ex c x U S1=>if cs.contains c then (match g ((Da N Zw).set i (Aa (gP c x))) S1 with
   |.rt d J=>.rt d J
   |.nx Y J=>.nx (Y.set i Zw) J
   |_=>.bad) else .bad
 |o=>o
section
variable {X:Cx}{aa:J0}{Y: _L.St}{H:Hp}{s:Ai}
def Inv.inTry (I:Inv X aa Y H s)(E:J7):Inv (Cx.tryIn X E (X.pn++aa)) [] Y H s:=
 ⟨⟨I.ok.mod,I.ok.kind,I.ok.glob,I.ok.blt,I.ok.above,I.ok.inj,I.ok.has,I.ok.cab,I.ok.hd,I.ok.frames,I.ok.stk,I.ok.exf,I.ok.bs,I.ok.bsz,I.ok.noex,I.ok.exfs,I.ok.funs,I.ok.frf⟩,I.os,I.bare,I.base,I.loc,I.cell,I.free,I.freeC,λp J=>I.pin p (by simpa using J),I.hok,I.len⟩
def Inv.outTry (I:Inv (Cx.tryIn X E (X.pn++aa)) jf Y H s):Inv X aa Y H s:=
 ⟨⟨I.ok.mod,I.ok.kind,I.ok.glob,I.ok.blt,I.ok.above,I.ok.inj,I.ok.has,I.ok.cab,I.ok.hd,I.ok.frames,I.ok.stk,I.ok.exf,I.ok.bs,I.ok.bsz,I.ok.noex,I.ok.exfs,I.ok.funs,I.ok.frf⟩,I.os,I.bare,I.base,I.loc,I.cell,I.free,I.freeC,λp J=>I.pin p (Dh _ J),I.hok,I.len⟩
theorem SP.outTry {D:Ends}(h:SP (Cx.tryIn X E (X.pn++aa)) [] D f s'):SP X aa D f s':=by
 cases f with
 |next=>obtain⟨U,J,I,q⟩:=h;exact⟨U,J,Inv.outTry I,q⟩
 |brk=>obtain⟨U,J,I,q⟩:=h;exact⟨U,J,Inv.outTry I,q⟩
 |cont=>obtain⟨U,J,I,q⟩:=h;exact⟨U,J,Inv.outTry I,q⟩
 |ret u=>obtain⟨v,U,J,I,r,q⟩:=h;exact⟨v,U,J,Inv.outTry I,r,q⟩
def kx.outTry (f:kx (Cx.tryIn X E (X.pn++aa)) jf H c dd e h):kx X aa H c dd e h:=by
 have J:∀ b,qm X aa H b->qm (Cx.tryIn X E (X.pn++aa)) jf H b:=λb o=>by
  rcases o with o|o|⟨p,T,z⟩|o
  .exact .inl o
  .exact .inr (.inl o)
  .exact .inr (.inr (.inl ⟨p,Dh _ T,z⟩))
  .exact .inr (.inr (.inr o))
 cases f with
 |new G t w L U N O A=>exact .new G t w L U N (λz=>O (J e z)) A
 |fly B v fl I=>exact .fly B v fl λb o e q n=>I b o e (J b q) n
def KG {K:Ag}{P:Hp}{n:Aj}(h:Y.length=n):zK K P J Y (Da n Zw):=by refine⟨by simp[h],λi d e=>?_⟩;rw[Nc] at e;split at e <;> cases e
def zK.unset {K:Ag}{P:Hp}(U:zK K P J Y ac)(i:Aj):zK K P J (Y.set i Zw) (ac.set i Zw):=by
 refine⟨by simp[U.1],λj d e=>?_⟩;by_cases G:i=j
 .subst G;by_cases N:i<ac.length
  .rw[Fn N] at e;cases e
  .rw[Iy (by simp;fin2)] at e;cases e
 .rw[Di G] at e ⊢;exact U.2 j d e
end
section
variable {X:Cx}{ai:Ea}{f g:DS}
def LR {K:Ag}{P:Hp}(j:yi K P J c x dd):∃ φ,(∀ (G:Ba) (w:Bu) (H:Hp) (h:Bc) Y vs,h.get? e=Aa Y->Y.cls=c->Y.dict=dd->Y.data=.fields vs->zR G w H h e (.ext φ)) /\ ∀ U,qO P U->U e=Aa (.ext φ) -> am K U J (gP c x) (.ref e):=by
 have z:∃ φ,(∀ (G:Ba) (w:Bu) (H:Hp) (h:Bc) Y vs,h.get? e=Aa Y->Y.cls=c->Y.dict=dd->Y.data=.fields vs->zR G w H h e (.ext φ)) /\ ∀ U,qO P U->U e=Aa (.ext φ) -> am K U J (.exn c) (.ref e):=
  ⟨_,λG w H h Y vs O B _ _=>(⟨⟨Y,O,B⟩,⟨Y,O⟩,λt A ⟨o,T,N⟩ k=>⟨o,k o T,N⟩⟩:zR G w H h e (AL e c)),λU s q=>by simp only[am];exact⟨e,Z,q⟩⟩
 cases x with
 |exl I y v =>
  obtain⟨rfl,E,vs,rfl,q,d,r⟩:=j;refine⟨_,λG w H h Y vs O B L l=>(⟨⟨Y,O,B,L,vs,l⟩,⟨Y,O⟩,λt A ⟨o,T,N⟩ k=>⟨o,k o T,N⟩⟩:zR G w H h e (AK e I E)),λU s N=>?_⟩;show am K U J (.exl I y v) (.ref e);simp only[am];exact⟨e,E,vs,rfl,N,s _ _ q,d,qJ.mono s (Bm _) _ _ r⟩
 |_=>exact z
def AW {aa:J0}{D:Ends}{c:Ac}{x0:_D.D}{e C0:Af}{s':Ai}{Y:_L.St}{H P:Hp}{J:J9}{x n:Ah}{i:Aj}{T:Du}{N:Ab Du}{y:Ea}
  (F:Fn1 X) (hg:Gl X x) (hm:X.mg x=Aa (.ref C0)) (zo:∀ c∈cs,Jt X.K c (.ref C0)=Aa Vp) (hN:X.N.Nodup) (hi:X.N[i]? = Aa n) (L:X.env.scope.names.lookup n=Aa .local)
  (hs:∀ e,jq (Cx.suite X e) (T::N) (ir (Cx.suite X e) g)) (hc:cs.contains c=Vp) (I:Inv X aa Y H s') (r:bf X.K H P J S1) (fl:kx X aa H c dd e s'.heap) (ln:yi X.K P J c x0 dd)
  (G:zI X P J (match g ((Da X.N.length Zw).set i (Aa (gP c x0))) S1 with|.rt d E=>.rt d E|.nx U E=>.nx (U.set i Zw) E|_=>.bad) D) (z1:(x == ("__debug__" : Ah))=Yp) :
  a8 X (Kf (.ref e) X.env) (λ_ l=>a8 X (Rl (.ref e) Zw) (λ_ m =>
   a8 X (handleBy (.ref e) X.env [.ExceptHandler (Aa (.Name x np)) (Aa n) (T::N) y]) (SP X aa D) X.xe m) X.xe l) X.xe s':=by
 have k:Jt X.K c (.ref C0)=Aa true:=zo c (by simpa using hc);have w:∀ {Y : _L.St} {H:Hp} {s:Ai},Inv X aa Y H s->Inv (Cx.suite X e) aa Y H s:=λI=>Inv.re I _ Yp _ I.ok.frames λz=>nomatch z;refine BV I F I.ok.frames fl λh5 B f5 h j=>?_;refine wpAny_handleBy_cons (codeAny_handlers_test (A:=X.A.mark (Aa (.ref e))) (y8 (X:=Cx.suite X e) (w h) hg hm ?_ z1)) (by intro q;cases q);obtain⟨yq,z8,ys,yr,zc,zn,_,_⟩:=sY h f5 j;refine(PySem.W.exm_one h.kIn (by subst zn;exact(PySem.W.Looks.ld zc).andThen .now) k).at ?_;refine codeAny_handlers_suite_as ?_;refine YI (s:={ s' with heap:=h5 }) f5 λh6 f6 u6=>?_;obtain⟨I6,zl⟩:=Inv.fly h F j f6.1 u6;obtain⟨a,z3,z7,yv,z4,zs,t,z6⟩:=sY I6 f6 zl;obtain⟨φ,ho,hr⟩:=LR (e:=e) ln;have b:Inv X aa Y (bz H e (.ext φ)) { s' with heap:=h6 }:=Inv.track I6 F a z3 λ_=>ho _ _ _ _ _ _ z4 zs t z6;have hn:H e=none:=by
  cases q:H e with
  |none=>rfl
  |some u=>exact absurd (.inr (.inl (by rw[q];intro z;cases z))) a
 obtain⟨r1,sP⟩:=r.pure (o:=.ext φ) hn;refine yU (X:=Cx.suite X e) (v:=.ref e) (w b) hN hi (.inl L) rfl (λs7 I7=>?_) (.inr L);have z5:zK X.K (bz P e (.ext φ)) J (Y.set i (Aa (.ref e))) ((Da X.N.length Zw).set i (Aa (gP c x0))):=(KG I.len).set i (hr _ sP qX);refine Ga (hs e aa s7 _ _ { nx:=λY' O=>D.nx (Y'.set i Zw) O,rt:=D.rt } I7 ⟨_,J,_,S1,r1,z5,?_⟩) (λfl s8 q=>?_) λ_ _ z=>Am z
 .cases q:g ((Da X.N.length Zw).set i (Aa (gP c x0))) S1 with
  |rt d E=>rw[q] at G;exact λv O P' J' r' e1 e2 rp=>G v O P' J' r' (sP.trans e1) e2 rp
  |nx U E=>rw[q] at G;exact λY' O P' J' r' z2 e1 e2=>G _ O P' J' r' (zK.unset z2 i) (sP.trans e1) e2
  |bk U E=>rw[q] at G;exact Am G
  |ct U E=>rw[q] at G;exact Am G
  |ex c' x' U E=>rw[q] at G;exact Am G
  |bad=>rw[q] at G;exact Am G
 .cases fl with
  |next =>
   obtain⟨Y',O,I8,q⟩:=q;exact ZN (Inv.unre I8 I.ok.frames I.ok.hd) hN hi L λs9 I9=>⟨_,O,I9,q⟩
  |brk =>
   obtain⟨_,_,_,q⟩:=q;exact Am q
  |cont =>
   obtain⟨_,_,_,q⟩:=q;exact Am q
  |ret u =>
   obtain⟨v,Y',O,I8,rv,q⟩:=q;exact ZN (Inv.unre I8 I.ok.frames I.ok.hd) hN hi L λs9 I9=>⟨v,_,O,I9,rv,q⟩
set_option tactic.hygienic true in
def AB {x n:Ah}{m:Af}{i:Aj}{O:Du}{G:Ab Du}{np B:Ea}(F:Fn1 X)(hb:∀ E b,Ox (As X.prog X.w) X.A X.env E->jq (Cx.tryIn X E b) cu (ir (Cx.tryIn X E b) f))
  (hs:∀ e,jq (Cx.suite X e) (O::G) (ir (Cx.suite X e) g)) (hg:Gl X x) (hm:X.mg x=Aa (.ref m)) (j:∀ c∈cs,Jt X.K c (.ref m)=Aa Vp) (a:X.N.Nodup) (hi:X.N[i]? = Aa n:=by rfl) (o:X.env.scope.names.lookup n=Aa .local:=by rfl)
  (l:(x == ("__debug__" : Ah))=false:=by decide):PS X (.Try cu [.ExceptHandler (Aa (.Name x np)) (Aa n) (O::G) B] [] [] ai) (ir X (lB X.N.length i cs f g)):=by
 intro t s Y H D I h;obtain⟨P,J,v,S,r,re,U⟩:=h;refine wpAny_Try_except ?_;refine Ga (hb _ (X.pn++t) (PassesOwn.looking (K:=λe L=>a8 X (Rl e Zw) (λ_ T=>a8 X (handleBy e X.env [.ExceptHandler (Aa (.Name x np)) (Aa n) (O::G) B]) (SP X t D) X.xe T) X.xe L) (E₁:=X.xe))
  [] s Y H D (Inv.inTry I _) ⟨P,J,v,S,r,re,?_⟩) (λfl s1 q=>?_) λ_ _ z=>z
 .unfold lB at U;cases q:f v S with
  |rt d w=>rw[q] at U;exact U
  |nx N w=>rw[q] at U;exact U
  |bk N w=>rw[q] at U;exact U
  |ct N w=>rw[q] at U;exact U
  |bad=>rw[q] at U;exact U
  |ex c x' N w =>
   rw[q] at U;dsimp only at U;intro u s' k;obtain⟨e,y,Y',H',P',J',rfl,I',r',e1,e2,dd,fl,ln⟩:=k;split at U;rename_i hc;exact AW F hg hm j a hi o hs hc (Inv.outTry I') r' (kx.outTry fl) ln (zI.base e1 e2 U) l;exact Am U
 .have A:=SP.outTry q;cases fl with
  |next=>exact Ml A
  |brk=>exact A
  |cont=>exact A
  |ret u=>exact A
end
end _D
namespace _D
open _L PySem.W
variable {R:Qr->Ai->Prop}
structure ol (K:Ag)(C:Af):Prop where
 ga:findIn K (.ref C) "__getattribute__" = Aa (Aa (.builtin "BaseException.__getattribute__"))
 hk:findIn K (.ref C) "__getattr__" = Aa Zw
 cl:findIn K (.ref C) "__class__" = Aa (Aa (.builtin "object.__class__"))
 sp:specialIn K (.builtin "object.__class__") "__get__" = Aa (Aa (.builtin "getset_descriptor.__get__"))
 tk:takesIn K (.builtin "object.__class__")=Aa Vp
 mo:mroIn K C (.type "object")=Aa Vp
 mb:mroIn K C (.type "BaseException")=Aa Vp
 isC:(clsIn K C).isSome=Vp
section
variable {prog:Ba}{w:Bu}{A:Bp}{E:J7}{s:Ai}{K:Ag}{x C:Af}
abbrev uN (x C:Af)(h:Bc):Prop:=∃ Q,h.get? x=Aa Q/\Q.cls=.ref C
def uN.type (I:uN x C h):Looks M h (typeOf (.ref x)) (.ref C):=by obtain⟨Q,e,c⟩:=I;rw[<- c];exact(Looks.ld e).andThen .now
def B8 (X:K.In h)(Q:ol K C):Looks M h (AaM (.ref x) (.ref C) "__class__") (.bind (.builtin "getset_descriptor.__get__") (.builtin "object.__class__")):=by have J:=Nh (M:=M) X Q.cl;have G:Looks M h (AaJ (Aa (.builtin "object.__class__"))) (Aa (.builtin "getset_descriptor.__get__")):=looks_specialIn X Q.sp;have Y:=looks_takesIn (M:=M) X Q.tk;have U:Looks M h (Xg (Aa (.builtin "object.__class__")) (Aa (.builtin "getset_descriptor.__get__"))) (Aa (.builtin "getset_descriptor.__get__",.builtin "object.__class__")):=Y.andThen .now;exact J.andThen (G.andThen (U.andThen (Looks.tag .now)))
def LV {tp:Ac}(X:K.In s.heap)(Q:ol K C)(I:uN x C s.heap)(h:R (.ok (.ret (.ref C))) s) :
  Gs (As prog w) A (.call (.builtin "getset_descriptor.__get__") ⟨[.builtin "object.__class__",.ref x,tp],[]⟩) R s:=by
 have LT:=uN.type (M:=As prog w) I;have Y:=Um (M:=As prog w) X Q.mo;cases s;refine Jp KF.slot_gs.plain KF.entry_gs (KF.slot_gs.check _ _ _ _ _ _ _ _ KF.type_class (KF.args_gs _ _ _) ?_);unfold Ih.«getset_descriptor.__get__» Xh;rw[dga_obj];refine Ad (An ?_);unfold Wb To T0 Wc;simp only[KF.owner_class]
 repeat lk
 refine⟨Na _ (by decide +kernel),Jh KF.entry_class ?_⟩;unfold Ih.«object.__class__» shownTypeOf
 repeat lk
 exact h
def AM {J:Mx}(X:K.In s.heap)(Y:ol K C)(I:uN x C s.heap)(h:R (.ok (.ret (.ref C))) s) :
  Gs (As prog w) A (.call (.builtin "BaseException.__getattribute__") ⟨[.ref x,.str "__class__" J],[]⟩) R s:=by
 have LT:=uN.type (M:=As prog w) I;have O:=Um (M:=As prog w) X Y.mb;have B:=B8 (M:=As prog w) (x:=x) X Y;have N:builtinKind "BaseException.__getattribute__" = Aa .slot:=by decide +kernel
 have U:splitId "BaseException.__getattribute__" = Aa ("BaseException","__getattribute__"):=by decide +kernel
 have G:∀ (A:Bp) (Q:Nx->Ai->Prop) (E:J7),Q () s->Ap (As prog w) A (Ss "BaseException.__getattribute__" ⟨[.ref x,.str "__class__" J],[]⟩) Q E s:=by
  intro A Q E L;have T:=Vj (.ref x) (.str "__class__" J);simp only[Ss,N,U];unfold Wc;refine Ad (Ad (LT.here (O.here ?_)))
  repeat (any_goals (first|assumption|wp_step))
 refine Jp Kh.ga.plain Uo (G _ _ _ ?_);cases s;unfold Ih.«object.__getattribute__»;refine Ad (Ka (show slotArgs "__getattribute__" 1 ⟨[.ref x,.str "__class__" J],[]⟩=pure (.ref x,[.str "__class__" J]) from by kernel_rfl) ?_);refine Ad (An (Ad (LT.at (Ad (B.at ?_)))));show Ap _ _ (Rm _ _ _ _) _ _ _;unfold Rm;dsimp only;exact Ad (Df (L2 (LV X Y I (An h))))
def UL {Q:Al Ac->Ai->Prop}(X:K.In s.heap)(Y:ol K C)(I:uN x C s.heap)(h:Q (Aa (.ref C)) { s with toks:=s.toks+1 }) : Ap (As prog w) A (getAttr? (.ref x) "__class__") Q E s:=by
 have LT:=uN.type (M:=As prog w) I;have G:=Nh (M:=As prog w) X Y.ga;have J:=Nh (M:=As prog w) X Y.hk;unfold getAttr? getAttrBy? getAttrBy;cases s;refine Ad (wpAny_mkText (Ad (Kq (Df (Ad (LT.at (Ad (G.at ?_))))))));dsimp only;have U:(Mf "BaseException.__getattribute__" == Mf "object.__getattribute__")=false:=by decide +kernel
 rw[U,Hu,AT Es];unfold f8 hookBefore;rw[Au (show onTheHeap (.ref C)=Vp from Z)];refine Ad (J.at (Ad (Kq (Df ?_))));unfold Zf;rw[Gv,AT Es];unfold boundAndCalled;refine Ad (Ka (Kh.ga.bind (.ref x)) ?_);refine L2 (AM X Y I ?_);show Ap _ _ (handedOut (.ref C)) _ _ _;exact An (An h)
set_option tactic.hygienic true in
def bQ (Q:ol K C):KitX K (.ref x) (.ref C) (uN x C) where
 ty:=λ_ _ _ I=>I.type
 it:=λM h X _=>by
  have z:=Q.isC;unfold clsIn at z;split at z;rename_i Y;intro T O L j k q;unfold isType loadHead;exact Ad (Py (k _ _ (X _ _ Y)) (An q));cases z
 ne:=λh U N B n H X J=>by
  have z:=Q.isC;unfold clsIn at z;split at z
  .rename_i Y;cases G:(Cc C == Cc U) with
   |false=>rfl
   |true =>
    obtain rfl:C=U:=Value.ref.inj (Jv.mp G);have y:=(X _ _ Y).symm.trans J;cases y
  .cases z
 ca:=λX I k=>UL X Q I k
end
end _D
namespace _D
open _L
variable {jx:Ab (Ah × Af)}{J J1:J9}{ds:Ab D}{E:J7}{a C:Af}{K:Ag}{s:Ai}{w:Bu}{o:Ce}{H P P1:Hp}
def MB {J:Type}{t:Km J}{Q Y:J->Ai->Prop}(h:Ap M A t Q (λ_ _=>Fz) s)(U:∀ a s,Q a s->Y a s):Ap M A t Y E s:=Ga h U λ_ _ x=>x.elim
def kW (Q:Ab Bl)(ac:Hn):Km Ar:=forIn Q Vp λc r=>if r=Vp then do let ok <- AaN c ac (eval c ac);pure (Kr ok) else pure (Kr r)
def uz (X:Cx)(G:Ab Bl)(t:DT):Prop:=
 ∀ (U:J0) (s:Ai) (Y : _L.St) (H:Hp) (Q:Ar->Hp->Prop),Inv X U Y H s->ny X t Y H Q->a8 X (kW G X.env) (TP X U Y Q) X.xe s
def zX:DT:=λ_ S=>.ok Vp S
section
variable {X:Cx}
theorem nE {prog:Ba}{A:Bp}{ac:Hn}{Q:Ar->Ai->Prop}:∀ (Y:Ab Bl) {s:Ai},Q Yp s ->
  Ap (As prog w) A (forIn Y Yp λc r=>if r=Vp then do let ok <- AaN c ac (eval c ac);pure (Kr ok) else pure (Kr r)) Q E s
 |[],s,h=>by rw[Np];exact An h
 |c::U,s,h=>by rw[Mn];rw[AT aA];refine Ad (An ?_);exact nE U h
def LJ:uz X [] zX:=λG s Y H Q I ⟨P,J,O,S,r,N,U⟩=>by unfold kW;rw[Np];exact An ⟨H,I,U H P J r (qO.refl _) (Bm _)⟩
def B4 (l:PT X c (ny X t))(j:uz X N u):uz X (c::N) (yW t u):=λB s Y H Q I ⟨P,J,p,S,r,y,g⟩=>by
 unfold kW;rw[Mn,Au rfl];refine Ad (Ad (bi (pJ (λk q=>l B s Y H k I q) r y g) λb d ⟨O,P1,J1,z,A,M,G,T,L,U⟩=>An ?_));cases b with
 |true=>exact j B d Y O Q A ⟨P1,J1,p,z,M,G,yO.base T L U⟩
 |false=>exact nE N ⟨O,A,U O P1 J1 M T L⟩
def qBm {S:ag}(k:uz X G t)(I:Inv X aa Y H s)(r:bf X.K H P J S)(B:zK X.K P J Y ac)(q:t ac S=.ok b S1) :
  a8 X (kW G X.env) (λU O=>U=b/\∃ Q P1 J1,Inv X aa Y Q O/\bf X.K Q P1 J1 S1/\zK X.K P1 J1 Y ac/\qO P P1/\J<+:J1) X.xe s:=by
 refine bi (k aa s Y H (λU Q=>U=b/\∃ P1 J1,bf X.K Q P1 J1 S1/\zK X.K P1 J1 Y ac/\qO P P1/\J<+:J1) I ⟨P,J,ac,S,r,B,?_⟩) λU O ⟨Q,z,e,P1,J1,A,M,y,T⟩=>⟨e,Q,P1,J1,z,A,M,y,T⟩;rw[q];exact λl u j p N L=>⟨Z,u,j,p,B.mono N L,N,L⟩
def qCi {ac Q:qF}{S:ag}{d:D}{S1:ag}(f:PG X tg (so X g))(I:Inv X aa Y H s)(r:bf X.K H P J S)(k:zK X.K P J Y ac)(l:qT v u)
  (z:am X.K P J d v) (q:g d ac S=.ok Q S1) :
  a8 X (assign tg X.env u) (λ_ O=>∃ G U P1 J1,Inv X aa G U O/\bf X.K U P1 J1 S1/\zK X.K P1 J1 G Q/\qO P P1/\J<+:J1) X.xe s:=by
 refine bi (f aa s Y H v u (λG U=>∃ P1 J1,bf X.K U P1 J1 S1/\zK X.K P1 J1 G Q/\qO P P1/\J<+:J1) I l ⟨P,J,ac,S,d,r,k,z,?_⟩) λ_ O ⟨G,U,M,P1,J1,L,T,j,B⟩=>⟨G,U,P1,J1,M,L,T,j,B⟩;rw[q];exact λm n c y t N A p=>⟨c,y,t,N,A,p⟩
def fS (K:Ag)(P:Hp)(J : Ab Af)(ds:Ab D)(o:Ce):Prop:=∃ (Y:Y0) (n:Aj) (Q:Ab V),o={ cls:=.type "list",data:=.seq Y.toArray n } /\ qQ Q Y/\qJ K P J ds Q/\ds.length<=bb
def fS.mono (e:qO P P1)(h:J<+:J1)(a:fS K P J ds o):fS K P1 J1 ds o:=by obtain⟨Q,n,Y,O,N,U,G⟩:=a;exact⟨Q,n,Y,O,N,qJ.mono e h _ _ U,G⟩
def fS.cell (a:fS K P J ds o):∀ v,o.data≠.cell v:=by obtain⟨Q,n,Y,rfl,_⟩:=a;intro v z;cases z
def Inv.pin1 (I:Inv X aa Y H s)(f:xO X aa H a)(e:s.heap.get? a=Aa o)(d:∀ v,o.data≠.cell v):Inv X (aa++[(a,o)]) Y H s:=
 I.pins_of λp Q=>(Ch.mp Q).elim (λz=>I.pin p (Cb _ z)) λz=>by
  have U:p=(a,o):=by simpa using z
  subst U;exact⟨e,f.1,f.2.1,f.2.2.1,d⟩
def Inv.pinned1 {aa:J0}{Y:_L.St}(I:Inv X (aa++[(a,o)]) Y H s):s.heap.get? a=Aa o/\H a=none:=by have:=I.pin (a,o) (Cb _ (Cb _ aA));exact⟨this.1,this.2.1⟩
end
structure Acc where
 m:Ar
 O:Ag->Hp->Ab Af->Ab D->Ce->Prop
 mono:∀ {K:Ag} {P P1:Hp} {J J1:J9} {ds:Ab D} {o:Ce},qO P P1->J<+:J1->O K P J ds o->O K P1 J1 ds o
 cell:∀ {K:Ag} {P:Hp} {J : Ab Af} {ds:Ab D} {o:Ce},O K P J ds o->∀ v,o.data≠.cell v
@[reducible] def og:Acc:=⟨Yp,fS,fS.mono,fS.cell⟩
def wM (m:Ar)(Q:Bl)(Y:Ab Dy)(ae:Ey)(U:Ea):Bl:=match m with
 |false=>.ListComp Q Y ae U
 |true=>.SetComp Q Y ae U
structure gf (B:Acc)(Yww:Cx)(pins:J0)(P1:Hp)(J1:J9)(fp:J9)(acc:Af)(env:qF)(S:ag)(ds:Ab D)(s:Ai)(Y : _L.St)(H P:Hp)(J : Ab Af)(o:Ce):Prop where
 inv:Inv Yww pins Y H s
 rel:bf Yww.K H P J S
 env:zK Yww.K P J Y env
 same:qO P1 P
 pre:J1<+:J
 fpn:∀ b∈fp,H b=Zw
 acn:H acc=Zw
 at':s.heap.get? acc=Aa o
 acc:B.O Yww.K P J ds o
noncomputable def u4 (jx:Ab (Ah × Af)):Ab (Ah × Hz)->Ab (Ah × Af)->Ab (Ah × Af)
 |[],Q=>Q
 |(n,k)::r,Q=>u4 jx r (if k == .free then (n,(jx.lookup n).getD 0)::Q else Q)
def cS {ac:Hn}{ae:Ey}(h:∀ y∈ae.names,y.2=.free->∃ c,ac.cells.lookup y.1=Aa c):closureFor ae ac=pure (u4 ac.cells ae.names []):=by
 have A:∀ (l:Ab (Ah × Hz)) (Y:Ab (Ah × Af)),(∀ y∈l,y.2=.free->∃ c,ac.cells.lookup y.1=Aa c) ->
   (forIn l Y λx Y=>match x with|(Q,G)=>if (G == Ho)=Vp then do let a <- cellOf ac Q;pure (Kr ((Q,a)::Y)) else pure (Kr Y):Km (Ab (Ah × Af)))=pure (u4 ac.cells l Y):=by
  intro l
  induction l with
  |nil=>intro Y _;rfl
  |cons y r L =>
   intro Y O;obtain⟨n,k⟩:=y;rw[Mn];by_cases B:k=.free
   .subst B;obtain⟨c,I⟩:=O (n,.free) Cr rfl;have U:ac.cells.lookup n=Aa c:=I;have e:cellOf ac n=pure c:=by unfold cellOf;rw[U]
    simp only[Em,Dr,e,pure_bind];rw[L _ λz N=>O z (Bn _ N)];simp only[u4,Em,Dr,U,Su]
   .have T:(k == Ho)=false:=by simpa using B
    simp only[T,Bt,Dq,pure_bind];rw[L _ λz N=>O z (Bn _ N)];simp only[u4,T,Bt,Dq]
 unfold closureFor;have:=A ae.names [] h;simp only[bind_pure];exact this
theorem tY:∀ (l:Ab (Ah × Hz)) (Y:Ab (Ah × Af)),(u4 jx l Y).lookup x=Aa c->Y.lookup x=Aa c\/((x,Ho)∈l/\c=(jx.lookup x).getD 0)
 |[],Y,h=>.inl h
 |(n,k)::r,Y,h=>by
  rcases tY r _ h with h|⟨G,N⟩
  .by_cases U:k=.free
   .subst U;simp only[Em,Dr,En] at h;cases Q:x == n with
    |true =>
     rw[Q] at h;have e:x=n:=by simpa using Q
     subst e;exact .inr ⟨Cr,(Cw h).symm⟩
    |false=>rw[Q] at h;exact .inl h
   .have Q:(k == Ho)=false:=by simpa using U
    simp only[Q,Bt,Dq] at h;exact .inl h
  .exact .inr ⟨Bn _ G,N⟩
theorem eQ {x:Ah}:∀ (l:Ab (Ah × Hz)) (Q:Ab (Ah × Af)),((x,Ho)∈l\/∃ c,Q.lookup x=Aa c)->∃ c,(u4 jx l Q).lookup x=Aa c
 |[],Q,h=>by
  rcases h with h|h
  .cases h
  .exact h
 |(n,k)::r,Q,h=>by
  refine eQ r _ ?_;rcases h with h|⟨c,h⟩
  .rcases Av.mp h with e|h
   .cases e;exact .inr ⟨(jx.lookup x).getD 0,by simp only[Em,Dr,En]⟩
   .exact .inl h
  .by_cases Y:k=.free
   .subst Y;simp only[Em,Dr,En];cases U:x == n with
    |true=>exact .inr ⟨_,rfl⟩
    |false=>exact .inr ⟨c,h⟩
   .have U:(k == Ho)=false:=by simpa using Y
    simp only[U,Bt,Dq];exact .inr ⟨c,h⟩
structure gk (scX:Ey)(NX:Y8)(scope:Ey)(N':Y8)(cap:Ab (Al Aj)):Prop where
 kind:scope.kind=.function
 names:∀ y∈scope.names,y.2=.local -> scope.names.lookup y.1=Aa .local
 cel:∀ y∈scope.names,y.2=.cell->scope.names.lookup y.1=Aa .cell
 free:∀ y∈scope.names,y.2=.free->scX.names.lookup y.1=Aa .cell\/scX.names.lookup y.1=Aa .free
 fr2:∀ y∈scope.names,y.2=.free->scope.names.lookup y.1=Aa .free
 len:cap.length=N'.length
 caps:((cap.zip N').all λp=>match p.1 with|none=>Vp|some i=>NX[i]? == Aa p.2&&scope.names.lookup p.2 == Aa .free)=Vp
 nd:N'.Nodup
def uE (cr:Ab (Al Aj))(Y : _L.St):_L.St:=cr.map λo=>match o with
 |none=>Zw
 |some i=>(Y[i]?).join
def xB (cr:Ab (Al Aj))(ac:qF):qF:=cr.map λo=>match o with
 |none=>Zw
 |some i=>(ac[i]?).join
def KE (N:zK K P J Y ac)(cr:Ab (Al Aj)):zK K P J (uE cr Y) (xB cr ac):=by
 refine⟨by simp[uE,xB],λj d e=>?_⟩;unfold xB at e;unfold uE;rw[Er] at e ⊢;cases q:cr[j]? with
 |none=>rw[q] at e;cases e
 |some o =>
  rw[q] at e;cases o with
  |none=>cases e
  |some i =>
   have Q:(ac[i]?).join=Aa d:=by simpa using e
   cases z:ac[i]? with
   |none=>rw[z] at Q;cases Q
   |some w =>
    rw[z] at Q;have U:w=Aa d:=Q;subst U;obtain⟨v,G,O⟩:=N.2 i d z;exact⟨v,by simp[G],O⟩
noncomputable def vE (X:Cx)(Y:Y8)(ae:Ey)(Q:Ab (Ah × Af))(C:Af)(ex:J9)(s₀:Ai)(H₀:Hp):Cx:=
 { X with N:=Y,s₀:=s₀,H₀:=H₀,env:=compEnvC ae Q C X.env,outer:=X.stack,stack:=X.stack,ex:=ex,fn:=λx=>decide (ae.names.lookup x=Aa .cell),pn:=[],xe:=λ_ _=>Fz }
theorem kO {ae:Ey}{ac:Hn}:∀ {Q:Ab (Ah × Hz)} {x:Ah} {k:Hz},
  (Q.map λ(n,k)=>if (k == Ho&&ac.scope.kind == .function&&ac.kindOf n == Aa .cell) then (n,Ol) else (n,k)).lookup x=Aa k ->
  Q.lookup x=Aa k\/(k=.cell/\Q.lookup x=Aa .free)
 |[],_,_,h=>by simp at h
 |(n,G)::r,x,k,h=>by
  rw[Ej,En] at h;rw[En];dsimp only at h;cases U:(G == Ho&&ac.scope.kind == .function&&ac.kindOf n == Aa .cell) with
  |true =>
   rw[U] at h;simp only[Dr] at h;cases Y:x == n with
   |true =>
    rw[Y] at h;have e:Ol=k:=Cw h;have N:G=.free:=by have:=(Ax _ _).mp U;have:=(Ax _ _).mp this.1;simpa using this.1
    subst N;exact .inr ⟨e.symm,rfl⟩
   |false=>rw[Y] at h;exact kO (ae:=ae) h
  |false =>
   rw[U] at h;simp only[Bt,Dq] at h;cases Y:x == n with
   |true=>rw[Y] at h;exact .inl h
   |false=>rw[Y] at h;exact kO (ae:=ae) h
section
variable {X:Cx}{ae:Ey}{N':Y8}{cr:Ab (Al Aj)}{aa:J0}{Y: _L.St}{H2:Hp}{s2:Ai}{fp:J9}
def bD (S:gk X.env.scope X.N ae N' cr){x:Ah}{k:Hz}(h:(relabel ae X.env).names.lookup x=Aa k):ae.names.lookup x=Aa k\/(k=.cell/\ae.names.lookup x=Aa .free):=kO (ae:=ae) h
def U4 (S:gk X.env.scope X.N ae N' cr)(ok:X.Ok){x:Ah}{c:Af}(h:(u4 X.env.cells ae.names []).lookup x=Aa c):X.env.cells.lookup x=Aa c/\(x,Ho)∈ae.names:=by
 rcases tY _ _ h with h|⟨G,U⟩
 .cases h
 .have:=S.free _ G Z;obtain⟨N,Q⟩:=ok.has x this;rw[Q,Su] at U;rw[Q,U];exact⟨rfl,G⟩
def FA (ae:Ey)(C:Af):Ab (Ah × Af):=HT (C+1) ae.names []
def kE (X:Cx)(ae:Ey)(C:Af):Ab (Ah × Af):=HT (C+1) ae.names (u4 X.env.cells ae.names [])
theorem vS:∀ (Q:Ab (Ah × Hz)) (lo:Aj) (aq:Ab (Ah × Af)),HT lo Q aq=HT lo Q [] ++ aq
 |[],_,_=>rfl
 |(n,k)::r,lo,aq=>by
  unfold HT;split;rw[vS r _ ((n,lo)::aq),vS r _ [(n,lo)],Ia];rfl;exact vS r lo aq
set_option tactic.hygienic true in
theorem fX:∀ (Q:Ab (Ah × Hz)) (lo:Aj) {n:Ah} {c:Af},(n,c)∈HT lo Q [] -> (n,Ol)∈Q
 |[],_,_,_,h=>by cases h
 |(G,k)::r,lo,n,c,h=>by
  unfold HT at h;split at h
  .rename_i U;rw[vS] at h;rcases Ch.mp h with h|h
   .exact Bn _ (fX r _ h)
   .have e:(n,c)=(G,lo):=by simpa using h
    cases e;have:k=Ol:=by simpa using U
    rw[this];exact Cr
  .exact Bn _ (fX r _ h)
def xX (S:gk X.env.scope X.N ae N' cr)(ok:X.Ok){C:Af}{x:Ah}{c:Af}(h:(kE X ae C).lookup x=Aa c):((x,c)∈FA ae C/\ae.names.lookup x=Aa .cell)\/(X.env.cells.lookup x=Aa c/\(x,Ho)∈ae.names):=by
 unfold kE at h;rw[vS,WF] at h;cases q:(HT (C+1) ae.names []).lookup x with
 |some Q =>
  rw[q] at h;cases h;have m:=Ge q;exact .inl ⟨m,S.cel _ (fX _ _ m) rfl⟩
 |none =>
  rw[q] at h;exact .inr (U4 S ok h)
def iD (S:gk X.env.scope X.N ae N' cr)(ok:X.Ok){C:Af}{x:Ah}(h:ae.names.lookup x=Aa .cell\/ae.names.lookup x=Aa .free):∃ c,(kE X ae C).lookup x=Aa c:=by
 unfold kE;rw[vS,WF];rcases h with h|h
 .have:=Ny ae.names (C+1) [] (x:=x) (.inl h);obtain⟨c,G⟩:=Mt.mp this;exact⟨c,by rw[G];rfl⟩
 .obtain⟨U,Q⟩:=eQ (jx:=X.env.cells) ae.names [] (.inl (Ge h));rw[Q];cases (HT (C+1) ae.names []).lookup x with
  |none=>exact⟨U,rfl⟩
  |some c=>exact⟨c,rfl⟩
def NR (S:gk X.env.scope X.N ae N' cr)(Q:Inv X aa Y H2 s2)(k:∀ b∈fp,xO X aa H2 b)(T:∀ b∈fp,b<s2.heap.objs.size)(N:s2.heap.objs.size<=C){I:Bc}(A:CellsOk I (C+1) (FA ae C)) :
  (vE X N' ae (kE X ae C) C fp s2 H2).Ok where
 mod:=Q.ok.mod
 kind:=S.kind
 glob:=Q.ok.glob
 blt:=Q.ok.blt
 above:=N
 inj:=λx y c I O=>by
  rcases xX S Q.ok I with⟨L,_⟩|⟨L,_⟩ <;> rcases xX S Q.ok O with⟨B,_⟩|⟨B,_⟩
  .exact PySem.name_of_addr A.apart L B
  .obtain⟨v,q,G,_⟩:=Q.cell y c B;exact absurd (Bq (Bh G) N) (Me.mpr (Hk (A.empty x c L).2))
  .obtain⟨v,q,G,_⟩:=Q.cell x c L;exact absurd (Bq (Bh G) N) (Me.mpr (Hk (A.empty y c B).2))
  .exact Q.ok.inj x y c L B
 has:=λx M=>by
  have u:(relabel ae X.env).names.lookup x=Aa .cell\/(relabel ae X.env).names.lookup x=Aa .free:=M;refine iD S Q.ok ?_;rcases u with h|h
  .rcases bD S h with h|⟨_,h⟩
   .exact .inl h
   .exact .inr h
  .rcases bD S h with h|⟨z,_⟩
   .exact .inr h
   .cases z
 cab:=λx c h O=>by
  have M:ae.names.lookup x=Aa .cell:=Bd h;rcases xX S Q.ok O with⟨m,_⟩|⟨_,m⟩
  .exact Ca N (Hk (A.empty x c m).2)
  .have:=S.fr2 _ m Z;have this':ae.names.lookup x=Aa .free:=this;rw[M] at this';cases this'
 hd:=Q.ok.hd
 frames:=Q.ok.frames
 stk:=.inl Z
 exf:=λb U=>⟨Cm (Bq (T b U) N),λx c h=>by
  rcases xX S Q.ok h with⟨m,_⟩|⟨m,_⟩
  .exact Dm (Cm (Ng (Bq (T b U) N) (A.empty x c m).2))
  .exact(k b U).2.2.2.2.1 x c m⟩
 bs:=Q.bs
 bsz:=Ca Q.ok.bsz Q.sz
 noex:=λb o e U=>by
  obtain⟨_,_,_,h,_⟩:=k b U;rcases h with h|h
  .exact Q.ok.noex b o e h
  .exact absurd (Bq (Bh e) (Ca Q.ok.bsz h)) (Fg _)
 exfs:=λb U j=>by
  obtain⟨_,I,O,_⟩:=k b U;rcases Av.mp (Q.stkSub b j) with z|z
  .exact I z
  .exact O z
 funs:=Q.stack
 frf:=Q.stkFree
def P8 {s4:Ai}{m:J8}(S:gk X.env.scope X.N ae N' cr)(U:Inv X aa Y H2 s2)(hf:∀ b∈fp,xO X aa H2 b)(t:∀ b∈fp,b<s2.heap.objs.size)(d:s2.heap.objs.size<=C)
  (hn:s4.heap.Ns C m) (os:s4.os=s2.os) (bp:s4.gens=s2.gens) (Q:∀ b o,s2.heap.get? b=Aa o->s4.heap.get? b=Aa o) (n:CellsOk s4.heap (C+1) (FA ae C)) :
  Inv (vE X N' ae (kE X ae C) C fp s2 H2) [] (uE cr Y) H2 s4 where
 ok:=NR S U hf t d n
 os:=os
 bare:=bp▸U.bare
 base:=Un.kept Q
 loc:=by
  refine⟨m,hn,λj x v h1 N h3=>?_⟩;have g:N'[j]? = Aa x:=h1;unfold uE at N;rw[Er] at N;cases q:cr[j]? with
  |none=>rw[q] at N;cases N
  |some o =>
   rw[q] at N;cases o with
   |none=>cases N
   |some i =>
    have M:(Y[i]?).join=Aa v:=by simpa using N
    have hY:Y[i]? = Aa (Aa v):=by
     cases z:Y[i]? with
     |none=>rw[z] at M;cases M
     |some w=>rw[z] at M;have:w=Aa v:=M;rw[this]
    have hz:(Aa i,x)∈cr.zip N':=by refine Uq.mpr ⟨j,?_⟩;rw[List.getElem?_zip_eq_some];exact⟨q,g⟩
    have hc:=Bg.mp S.caps _ hz;simp only[Ax,Jv] at hc;obtain⟨hN,G⟩:=hc;have e:=S.free _ (Ge G) rfl;obtain⟨mo,zc,hl⟩:=U.loc;have y:qi X.env.scope x:=by
     rcases e with k|k
     .exact .inr (.inl k)
     .exact .inr (.inr k)
    obtain⟨u,ru,lk⟩:=hl i x v hN hY y;refine⟨u,ru,?_⟩;rcases lk with⟨kl,_⟩|⟨_,c,f,O⟩
    .have I:X.env.scope.names.lookup x=Aa .local:=kl;rcases e with k|k
     .have A:X.env.scope.names.lookup x=Aa .cell:=k;rw[I] at A;cases A
     .have A:X.env.scope.names.lookup x=Aa .free:=k;rw[I] at A;cases A
    .obtain⟨c',T⟩:=iD S U.ok (C:=C) (.inr G);have e2:X.env.cells.lookup x=Aa c':=by
      rcases xX S U.ok T with⟨_,z⟩|⟨z,_⟩
      .rw[G] at z;cases z
      .exact z
     rw[f] at e2;cases e2;refine .inr ⟨?_,c,T,?_⟩
     .have l:qi (relabel ae X.env) x:=h3;rcases l with h|h|h
      .rcases bD S h with h|⟨z,_⟩
       .rw[G] at h;cases h
       .cases z
      .exact .inl h
      .exact .inr h
     .obtain⟨L,B,r⟩:=O;exact⟨L,Q c L B,r⟩
 cell:=λx c h=>by
  rcases xX S U.ok h with⟨m,_⟩|⟨m,_⟩
  .exact⟨Zw,(n.empty x c m).1⟩
  .obtain⟨v,L,B,r⟩:=U.cell x c m;exact⟨v,L,Q c L B,r⟩
 free:=U.hok.fresh d
 freeC:=λx c h=>by
  rcases xX S U.ok h with⟨m,_⟩|⟨m,_⟩
  .exact U.hok.fresh (Ca d (Hk (n.empty x c m).2))
  .exact U.freeC x c m
 pin:=λp hp=>absurd (show p∈([]:J0) from hp) aA
 hok:=U.hok.kept Q
 len:=by show (uE cr Y).length=N'.length;simp[uE,S.len]
end
def UU {P:Ba}{o:HO}(x:jp P w H h)(Y:H a=Zw)(Q:zR P w (bz H a o) h a o):jp P w (bz H a o) h:=λb u e=>by
 by_cases U:b=a;subst U;rw[qX] at e;cases e;exact Q;rw[qP U] at e;exact(x b u e).stay (λc v _ q=>q) (λc q=>by rw[qP (zG q Y)];exact q) λc G q=>by rw[qP (zG q Y)];exact q
def UT {P:Ba}{h h':Bc}(x:jp P w H h)(Q:H C=Zw)(k:∀ b o,b≠C->h.get? b=Aa o->h'.get? b=Aa o):jp P w H h':=λb u e =>
 (x b u e).stay (λc v Y q=>k c v (by
  rintro rfl;rcases Y with z|z
  .subst z;rw[Q] at e;cases e
  .rw[Q] at z;cases z) q) (λ_ q=>q) λ_ _ q=>q
section
variable {X:Cx}{ae:Ey}{N':Y8}{cr:Ab (Al Aj)}
def gU (X:Cx)(aa:J0)(Y : _L.St)(P1:Hp)(J1:J9)(ds:Ab D)(O:ag)(aq C:Af)(s:Ai):Prop:=
 ∃ (Q G:Hp) (U : Ab Af) (N:Ab V),Inv X aa Y (bz Q aq (.lst N)) s/\bf X.K Q G U O/\Q aq=Zw/\qO P1 G/\J1<+:U/\qJ X.K G U ds N/\Q C=Zw
def iC {ay:Cx}{Y Y':_L.St}{U s':Ai}{fp:J9}{aq:Af}{H' v:Hp}{d:J9}{T:qF}{l:ag}{cl:Ab (Ah × Af)}(h:Inv X aa Y I U)
  (x:∀ b∈fp,xO X aa I b) (hY:ay=vE X N' ae cl C fp U I) (m:U.heap.objs.size<=C) (hA:U.heap.objs.size<=aq) (z:aq≠C) (st:gf og ay [] P1 J1 fp aq T l ds s' Y' H' v d o)
  {h':Bc} (sb:Ew C s'.heap h'):gU X aa Y P1 J1 ds l aq C { s' with heap:=h' }:=by
 subst hY;obtain⟨c,n,k,rfl,rv,f,hz⟩:=st.acc;have O:∀ b o,b≠C->s'.heap.get? b=Aa o->h'.get? b=Aa o:=λb o G e=>(sb.2 b G).trans e;have j:∀ b o,U.heap.get? b=Aa o->b≠C:=λb o e=>Cm (Bq (Bh e) m);have nA:∀ b o,U.heap.get? b=Aa o->b≠aq:=λb o e=>Cm (Bq (Bh e) hA);have base:Un (gx X.stack) fp I H' U.heap s'.heap:=st.inv.base;have y:∀ b u,H' b=Aa u->b≠aq:=λb u e=>zG e st.acn;have un:Un (gx X.stack) fp I (bz H' aq (.lst k)) U.heap h':=by
  refine⟨λb Q q L G N=>O b Q (j b Q q) (base.keep b Q q L G N),λb Q q L G N=>?_,λb Q q L N=>?_,λb Q q N=>?_,λb xs q=>?_,λb Q u q=>?_,λb ps q=>?_⟩;obtain⟨sl,e⟩:=base.slot b Q q L G N;exact⟨sl,O b _ (j b Q q) e⟩;rw[qP (nA b Q q)];exact base.free b Q q L N;obtain⟨p,e⟩:=base.there b Q q N;exact⟨p,O b p (j b Q q) e⟩;have:=base.tups b xs q;rw[qP (y _ _ this)];exact this;have:=base.frzs b Q u q;rw[qP (y _ _ this)];exact this;obtain⟨r,e⟩:=base.tbls b ps q;exact⟨r,by rw[qP (y _ _ e)];exact e⟩
 have B:jp X.prog X.w H' h':=UT st.inv.hok st.inv.free O;have M:h'.get? aq=Aa { cls:=.type "list",data:=.seq c.toArray n }:=O aq _ z st.at';have A:jp X.prog X.w (bz H' aq (.lst k)) h':=UU B st.acn ⟨by rw[<- f.length,<- zP];exact hz,c,n,rv,M⟩;refine⟨H',v,d,k,?_,st.rel,st.acn,st.same,st.pre,f,st.inv.free⟩;exact h.call' (s':={ s' with heap:=h' }) (ch:=fp) (st.inv.os) un A st.inv.bare λb G=>by obtain⟨_,h1,h2,h3,i,h5⟩:=x b G;exact⟨h3,h1,i,h5⟩
def ZE (S:gk X.env.scope X.N ae N' cr)(ok:X.Ok):closureFor ae X.env=pure (u4 X.env.cells ae.names []):=cS λy Y Q=>ok.has y.1 (S.free y Y Q)
def LN (c:gU X aa Y P1 J1 ds U aq C s)(ok:gy X P1 J1 Q (.lst ds) U):EP X aa Y Q (.ref aq) s:=by obtain⟨u,q,p,k,I,r,G,M,N,j,_⟩:=c;exact⟨.ref aq,_,I,rfl,wQ r G j λv z B O L T A y=>ok v z B O L (M.trans T) (N.trans A) y⟩
end
end _D
section
namespace _D
open _L PySem.SeqAt
noncomputable def W_ (b:Ar):Aq:=if b then 1 else 0
mutual
def gz:D->D->Ar
 |.non,.non=>Vp
 |.bl a,.bl b=>a == b
 |.bl a,.int b=>W_ a == b
 |.int a,.bl b=>a == W_ b
 |.int a,.int b=>a == b
 |.str a,.str b=>a == b
 |.tup Q,.tup Y=>xW Q Y
 |.lst Q,.lst Y=>xW Q Y
 |_,_=>Yp
def xW:Ab D->Ab D->Ar
 |[],[]=>Vp
 |x::Q,y::Y=>gz x y&&xW Q Y
 |_,_=>Yp
end
noncomputable def pl:Aj->D->Ar
 |_,.non=>Vp
 |_,.bl _=>Vp
 |_,.int _=>Vp
 |_,.str _=>Vp
 |n+1,.tup Q=>Q.all (pl n)
 |n+1,.lst Q=>Q.all (pl n)
 |_,_=>Yp
def UG (x y:D)(xs ys:Ab D):xW (x::xs) (y::ys)=(gz x y&&xW xs ys):=Z
theorem vK:∀ (xs ys:Ab D),xW xs ys=((Cp (min xs.length ys.length)).all (λj=>gz (xs.getD j .non) (ys.getD j .non))&&xs.length == ys.length)
 |[],[]=>rfl
 |[],y::ys=>rfl
 |x::xs,[]=>rfl
 |x::xs,y::ys=>by
  have Q:=vK xs ys;rw[UG,Q,Aw,Aw,Nat.succ_min_succ,Ks,Ik,Hm,Bool.and_assoc];have e:(xs.length+1 == ys.length+1)=(xs.length == ys.length):=by simp
  rw[e];rfl
def B7 {xs ys:Ab D}(h:xs.length≠ys.length):xW xs ys=false:=by rw[vK];simp[h]
def sX (xs ys:Ab D):gz (.tup xs) (.tup ys)=xW xs ys:=Z
def sW (xs ys:Ab D):gz (.lst xs) (.lst ys)=xW xs ys:=Z
section
variable {X:Cx}{aa:J0}{Y: _L.St}{H P:Hp}{J: Ab Af}{S:ag}{s:Ai}
inductive Kd (X:Cx)(P:Hp)(J : Ab Af)(s:Ai):D->Ac->Prop where
 |non:Kd X P J s .non .none
 |bl (b:Ar):Kd X P J s (.bl b) (.bool b)
 |int (i:Aq) (t:Mx):Kd X P J s (.int i) (.int i t)
 |str (x:Ah) (t:Mx):Kd X P J s (.str x) (.str x t)
 |tup (a:Af) (xs:Ab D) (its:Y0) (vs:Ab V) (rp:qJ X.K P J xs vs) (rv:qQ vs its) (h:s.heap.IsTuple a its.toArray) (q:ke X.K P a vs):Kd X P J s (.tup xs) (.ref a)
 |lst (a:Af) (xs:Ab D) (its:Y0) (vs:Ab V) (rp:qJ X.K P J xs vs) (rv:qQ vs its) (h:s.heap.IsList a its.toArray) (q:sw X.K P a vs):Kd X P J s (.lst xs) (.ref a)
def vI (I:Inv X aa Y H s)(r:bf X.K H P J S){n:Aj}{d:D}{v:V}{u:Ac}(h:pl n d=Vp)(p:am X.K P J d v)(Q:qT v u):Kd X P J s d u:=by
 cases d with
 |non=>simp only[am] at p;subst p;cases Q;exact .non
 |bl b=>simp only[am] at p;subst p;cases Q;exact .bl b
 |int i=>simp only[am] at p;subst p;obtain⟨t,rfl⟩:=Q;exact .int i t
 |str x=>simp only[am] at p;subst p;obtain⟨t,rfl⟩:=Q;exact .str x t
 |tup O =>
  simp only[am] at p;obtain⟨a,C,rfl,q,t⟩:=p;cases Q;obtain⟨U,N,G,_⟩:=I.tuple (wJ r.sub q);exact .tup a O U C t N G q
 |lst O =>
  simp only[am] at p;obtain⟨a,C,rfl,q,t⟩:=p;cases Q;obtain⟨U,N,G,_⟩:=I.list ((w9 r.sub q).l);exact .lst a O U C t N G.isList q
 |_=>cases n <;> exact Gr h
def vM (N:qJ X.K P J ds vs)(G:qQ vs ah){j:Aj}(h:j<ah.toArray.size):∃ v,am X.K P J (ds.getD j .non) v/\qT v ah.toArray[j]/\ds.getD j .non∈ds:=by
 have E:=N.length;have T:=G.length;have B:j<ah.length:=by simpa using h
 have Q:j<ds.length:=by lia
 obtain⟨v,L,p⟩:=N.get (Be Q);obtain⟨u,U,q⟩:=G.get L;have O:ah.toArray[j]=u:=by have:ah[j]? = Aa ah[j]:=Be B;rw[this] at U;simpa using Cw U
 have C:ds.getD j .non=ds[j]:=by simp[Mg,Q]
 rw[O,C];exact⟨v,p,q,Fx Q⟩
def wV {ds:Ab D}(h:ds.all (pl n)=Vp){d:D}(Q:d∈ds):pl n d=true:=Bg.mp h d Q
def ZX {h:Bc}(G:h.IsTuple a xs)(Q:h.IsTuple a ys):xs=ys:=by obtain⟨o,e,_,n,d⟩:=G;obtain⟨O,N,_,C,U⟩:=Q;cases e.symm.trans N;cases d.symm.trans U;rfl
def ZV {h:Bc}(G:h.IsList a xs)(Q:h.IsList a ys):xs=ys:=by obtain⟨o,e,_,n,d⟩:=G;obtain⟨O,N,_,C,U⟩:=Q;cases e.symm.trans N;cases d.symm.trans U;rfl
def YD {h:Bc}(G:h.IsTuple a xs)(U:h.IsList a ys):Fz:=by obtain⟨o,e,c,_⟩:=G;obtain⟨O,N,Q,_⟩:=U;cases e.symm.trans N;exact absurd (c.symm.trans Q) aC
inductive kf (X:Cx)(P:Hp)(J : Ab Af)(xs ys:Ab D)(its its2:Y0):Prop
 |mk (vs ws:Ab V) (rp:qJ X.K P J xs vs) (rv:qQ vs its) (rp2:qJ X.K P J ys ws) (rv2:qQ ws its2):kf X P J xs ys its its2
def kf.len1 (q:kf X P J xs ys ah Q):xs.length=ah.length:=by obtain⟨N,O,G,U,_,_⟩:=q;exact G.length.trans U.length
def kf.len2 (q:kf X P J xs ys ah Q):ys.length=Q.length:=by obtain⟨N,O,_,_,G,U⟩:=q;exact G.length.trans U.length
inductive r_ (X:Cx)(P:Hp)(J : Ab Af):D->D->Prop
 |eq {d d':D} (h:gz d d'=Vp):r_ X P J d d'
 |tt (xs ys:Ab D) (its:Y0) (q:kf X P J xs ys its its):r_ X P J (.tup xs) (.tup ys)
 |ll (xs ys:Ab D) (its:Y0) (q:kf X P J xs ys its its):r_ X P J (.lst xs) (.lst ys)
def XZ (k1:Kd X P J s d u)(k2:Kd X P J s d' u):r_ X P J d d':=by
 cases k1 with
 |non=>cases k2;exact .eq rfl
 |bl b=>cases k2;exact .eq (Em _)
 |int i t=>cases k2;exact .eq (Em _)
 |str x t=>cases k2;exact .eq (Em _)
 |tup a B I L A E h q =>
  cases k2 with
  |tup _ O G C Q U N T =>
   cases ZX h N;exact .tt B O I ⟨L,C,A,E,Q,U⟩
  |lst _ O G C Q U N T=>exact(YD h N).elim
 |lst a B I L A E h q =>
  cases k2 with
  |lst _ O G C Q U N T =>
   cases ZV h N;exact .ll B O I ⟨L,C,A,E,Q,U⟩
  |tup _ O G C Q U N T=>exact(YD N h).elim
def eU (I:Inv X aa Y H s)(r:bf X.K H P J S){m:Aj}(M:∀ (d d':D) (u:Ac),pl m d=Vp->pl m d'=Vp->Kd X P J s d u->Kd X P J s d' u->gz d d'=Vp){xs ys:Ab D}{ah:Y0}(T:xs.all (pl m)=Vp)(N:ys.all (pl m)=Vp)(q:kf X P J xs ys ah ah):xW xs ys=true:=by obtain⟨l,o,B,L,Q,U⟩:=q;have w:=B.length.trans L.length;have A:=Q.length.trans U.length;rw[vK,w,A,Xi,Ax];refine⟨Bg.mpr λj G=>?_,BEq.rfl⟩;have G:j<ah.toArray.size:=Fe.mp G;obtain⟨p,k,z,C⟩:=vM B L G;obtain⟨g,y,E,O⟩:=vM Q U G;exact M _ _ _ (wV T C) (wV N O) (vI I r (wV T C) k z) (vI I r (wV N O) y E)
def ZI (I:Inv X aa Y H s)(r:bf X.K H P J S):∀ (n:Aj) (d d':D) (u:Ac),pl n d=Vp->pl n d'=Vp->Kd X P J s d u->Kd X P J s d' u->gz d d'=true:=by
 intro n
 induction n with
 |zero =>
  intro d d' u Q U C G;cases XZ C G with
  |eq h=>exact h
  |tt=>exact Gr Q
  |ll=>exact Gr Q
 |succ m B =>
  intro d d' u Q U C G;cases XZ C G with
  |eq h=>exact h
  |tt O N L q=>exact(sX O N).trans (eU I r B Q U q)
  |ll O N L q=>exact(sW O N).trans (eU I r B Q U q)
structure E3 (A:Bp)(s:Ai)(u u':Ac)(b:Ar):Prop where
 eq:EqAt A s u u' b
 rc:RcAt A s u u' b
 ne:RcNeAt A s u u' (!b)
inductive Z9 (X:Cx)(P:Hp)(J : Ab Af)(A:Bp)(s:Ai):D->D->Ac->Ac->Prop
 |of {d d':D} {u u':Ac} (b:Ar) (e:gz d d'=b) (h:E3 A s u u' b):Z9 X P J A s d d' u u'
 |tt (a b:Af) (xs ys:Ab D) (its its2:Y0) (ha:s.heap.IsTuple a its.toArray) (hb:s.heap.IsTuple b its2.toArray) (q:kf X P J xs ys its its2):Z9 X P J A s (.tup xs) (.tup ys) (.ref a) (.ref b)
 |ll (a b:Af) (xs ys:Ab D) (its its2:Y0) (ha:s.heap.IsList a its.toArray) (hb:s.heap.IsList b its2.toArray) (q:kf X P J xs ys its its2):Z9 X P J A s (.lst xs) (.lst ys) (.ref a) (.ref b)
def MV {A:Bp}(Q:A.units<Fj)(k1:Kd X P J s d u)(k2:Kd X P J s d' k):Z9 X P J A s d d' u k:=by
 cases k1 with
 |non  =>
  cases k2 with
  |non  => exact .of _ rfl ⟨AaB _,RcAt.none_none,RcNeAt.none_none⟩
  |bl b=>exact .of _ rfl ⟨EqAt.none_bool b,RcAt.none_bool b,RcNeAt.none_bool b⟩
  |int b U=>exact .of _ rfl ⟨EqAt.none_int b U,RcAt.none_int b U,RcNeAt.none_int b U⟩
  |str b U=>exact .of _ rfl ⟨EqAt.none_str b U,RcAt.none_str b U,RcNeAt.none_str b U⟩
  |tup b E N T B L G I=>exact .of _ rfl ⟨EqAt.none_tuple G Q,RcAt.none_tuple G Q,RcNeAt.none_tuple G Q⟩
  |lst b E N T B L G I=>exact .of _ rfl ⟨EqAt.none_list G Q,RcAt.none_list G Q,RcNeAt.none_list G Q⟩
 |bl a =>
  cases k2 with
  |non  => exact .of _ rfl ⟨EqAt.bool_none a,RcAt.bool_none a,RcNeAt.bool_none a⟩
  |bl b=>exact .of _ rfl ⟨EqAt.bool_bool a b,RcAt.bool_bool a b,RcNeAt.bool_bool a b⟩
  |int b U=>exact .of _ rfl ⟨EqAt.bool_int a b U,RcAt.bool_int a b U,RcNeAt.bool_int a b U⟩
  |str b U=>exact .of _ rfl ⟨EqAt.bool_str a b U,RcAt.bool_str a b U,RcNeAt.bool_str a b U⟩
  |tup b E N T B L G I=>exact .of _ rfl ⟨EqAt.bool_tuple a G Q,RcAt.bool_tuple a G Q,RcNeAt.bool_tuple a G Q⟩
  |lst b E N T B L G I=>exact .of _ rfl ⟨EqAt.bool_list a G Q,RcAt.bool_list a G Q,RcNeAt.bool_list a G Q⟩
 |int a O =>
  cases k2 with
  |non  => exact .of _ rfl ⟨EqAt.int_none a O,RcAt.int_none a O,RcNeAt.int_none a O⟩
  |bl b=>exact .of _ rfl ⟨EqAt.int_bool a O b,RcAt.int_bool a O b,RcNeAt.int_bool a O b⟩
  |int b U=>exact .of _ rfl ⟨EqAt.int_int a O b U,RcAt.int_int a O b U,RcNeAt.int_int a O b U⟩
  |str b U=>exact .of _ rfl ⟨EqAt.int_str a O b U,RcAt.int_str a O b U,RcNeAt.int_str a O b U⟩
  |tup b E N T B L G I=>exact .of _ rfl ⟨EqAt.int_tuple a O G Q,RcAt.int_tuple a O G Q,RcNeAt.int_tuple a O G Q⟩
  |lst b E N T B L G I=>exact .of _ rfl ⟨EqAt.int_list a O G Q,RcAt.int_list a O G Q,RcNeAt.int_list a O G Q⟩
 |str a O =>
  cases k2 with
  |non  => exact .of _ rfl ⟨EqAt.str_none a O,RcAt.str_none a O,RcNeAt.str_none a O⟩
  |bl b=>exact .of _ rfl ⟨EqAt.str_bool a O b,RcAt.str_bool a O b,RcNeAt.str_bool a O b⟩
  |int b U=>exact .of _ rfl ⟨EqAt.str_int a O b U,RcAt.str_int a O b U,RcNeAt.str_int a O b U⟩
  |str b U=>exact .of _ rfl ⟨EqAt.str_str a O b U,RcAt.str_str a O b U,RcNeAt.str_str a O b U⟩
  |tup b E N T B L G I=>exact .of _ rfl ⟨EqAt.str_tuple a O G Q,RcAt.str_tuple a O G Q,RcNeAt.str_tuple a O G Q⟩
  |lst b E N T B L G I=>exact .of _ rfl ⟨EqAt.str_list a O G Q,RcAt.str_list a O G Q,RcNeAt.str_list a O G Q⟩
 |tup a M j w y z C q =>
  cases k2 with
  |non  => exact .of _ rfl ⟨EqAt.tuple_none C Q,RcAt.tuple_none C Q,RcNeAt.tuple_none C Q⟩
  |bl b=>exact .of _ rfl ⟨EqAt.tuple_bool b C Q,RcAt.tuple_bool b C Q,RcNeAt.tuple_bool b C Q⟩
  |int b U=>exact .of _ rfl ⟨EqAt.tuple_int b U C Q,RcAt.tuple_int b U C Q,RcNeAt.tuple_int b U C Q⟩
  |str b U=>exact .of _ rfl ⟨EqAt.tuple_str b U C Q,RcAt.tuple_str b U C Q,RcNeAt.tuple_str b U C Q⟩
  |tup b E N T B L G I=>exact .tt a b M E j N C G ⟨w,T,y,z,B,L⟩
  |lst b E N T B L G I=>exact .of _ rfl ⟨EqAt.tuple_list C G Q,RcAt.tuple_list C G Q,RcNeAt.tuple_list C G Q⟩
 |lst a M j w y z C q =>
  cases k2 with
  |non  => exact .of _ rfl ⟨EqAt.list_none C Q,RcAt.list_none C Q,RcNeAt.list_none C Q⟩
  |bl b=>exact .of _ rfl ⟨EqAt.list_bool b C Q,RcAt.list_bool b C Q,RcNeAt.list_bool b C Q⟩
  |int b U=>exact .of _ rfl ⟨EqAt.list_int b U C Q,RcAt.list_int b U C Q,RcNeAt.list_int b U C Q⟩
  |str b U=>exact .of _ rfl ⟨EqAt.list_str b U C Q,RcAt.list_str b U C Q,RcNeAt.list_str b U C Q⟩
  |tup b E N T B L G I=>exact .of _ rfl ⟨EqAt.list_tuple C G Q,RcAt.list_tuple C G Q,RcNeAt.list_tuple C G Q⟩
  |lst b E N T B L G I=>exact .ll a b M E j N C G ⟨w,T,y,z,B,L⟩
def E3.cast {b c:Ar}(e:c=b)(h:E3 A s u Q b):E3 A s u Q c:=e▸h
def qA4 {A:Bp}{xs ys:Ab D}{ah Q:Y0}(O:A.units<Fj)(N:s.heap.IsTuple a ah.toArray)(C:s.heap.IsTuple b Q.toArray)(L:xs.length=ah.length)(B:ys.length=Q.length)
  (sub:∀ j (E:j<ah.toArray.size) (T:j<Q.toArray.size),EqAt A.in1 s ah.toArray[j] Q.toArray[j] (gz (xs.getD j .non) (ys.getD j .non))) (same:a=b->xW xs ys=Vp):E3 A s (.ref a) (.ref b) (xW xs ys):=by
 have e:xW xs ys=((Cp (min ah.toArray.size Q.toArray.size)).all (λj=>gz (xs.getD j .non) (ys.getD j .non))&&ah.toArray.size == Q.toArray.size):=by rw[vK,L,B];rfl
 have G:=RcAt.tuples N C O sub;have R2:=RcNeAt.tuples N C O sub;rw[<- e] at G R2;refine⟨?_,G,R2⟩;by_cases U:a=b;rw[same U,U];exact AaB _;exact EqAt.of_refs U G
def qA3 {A:Bp}{xs ys:Ab D}{ah Q:Y0}(O:A.units<Fj)(N:s.heap.IsList a ah.toArray)(C:s.heap.IsList b Q.toArray)(L:xs.length=ah.length)(B:ys.length=Q.length)
  (sub:∀ j (I:j<ah.toArray.size) (E:j<Q.toArray.size),EqAt A.in1 s ah.toArray[j] Q.toArray[j] (gz (xs.getD j .non) (ys.getD j .non))) (same:a=b->xW xs ys=Vp):E3 A s (.ref a) (.ref b) (xW xs ys):=by
 have R:RcAt A s (.ref a) (.ref b) (xW xs ys)/\RcNeAt A s (.ref a) (.ref b) (!xW xs ys):=by
  by_cases G:ah.length=Q.length
  .have e:xW xs ys=(Cp ah.toArray.size).all (λj=>gz (xs.getD j .non) (ys.getD j .non)):=by rw[vK,L,B,<- G,Xi,BEq.rfl,Bool.and_true];rfl
   rw[e];exact⟨RcAt.lists N C G O sub,RcNeAt.lists N C G O sub⟩
  .rw[B7 (by rw[L,B];exact G)];have T:(ah.toArray.size != Q.toArray.size)=true:=bne_iff_ne.mpr G;exact⟨RcAt.lists_lengths N C T O,RcNeAt.lists_lengths N C T O⟩
 refine⟨?_,R.1,R.2⟩;by_cases U:a=b;rw[same U,U];exact AaB _;exact EqAt.of_refs U R.1
def iI (I:Inv X aa Y H s)(r:bf X.K H P J S):∀ (n:Aj) (A:Bp) (d d':D) (u E:Ac),A.units+n<Fj->pl n d=Vp->pl n d'=Vp->Kd X P J s d u->Kd X P J s d' E->E3 A s u E (gz d d'):=by
 intro n
 induction n with
 |zero =>
  intro A d d' u E w N C T L;cases MV w T L with
  |of b e h=>exact h.cast e
  |tt=>exact Gr N
  |ll=>exact Gr N
 |succ m v =>
  intro A d d' u E w N C T L;have O:A.units<Fj:=Ql (Zg _ _) w;have T_:A.in1.units+m<Fj:=by show A.units+1+m<Fj;lia
  have sub:∀ {G U:Ab D} {B Q:Y0},G.all (pl m)=Vp->U.all (pl m)=Vp->kf X P J G U B Q ->
    ∀ j (N:j<B.toArray.size) (C:j<Q.toArray.size),EqAt A.in1 s B.toArray[j] Q.toArray[j] (gz (G.getD j .non) (U.getD j .non)):=λ{G U B Q} o p ⟨vs,ws,f,g,c,t⟩ j x g2=>by
   obtain⟨w1,y1,i,k⟩:=vM f g x;obtain⟨w2,y2,l,y⟩:=vM c t g2;exact(v A.in1 _ _ _ _ T_ (wV o k) (wV p y) (vI I r (wV o k) y1 i) (vI I r (wV p y) y2 l)).eq
  cases MV O T L with
  |of b e h=>exact h.cast e
  |tt a b G U B Q M z q=>exact(qA4 O M z q.len1 q.len2 (sub N C q) λe=>by subst e;exact(sX G U).symm.trans (ZI I r (m+1) _ _ _ N C T L)).cast (sX G U)
  |ll a b G U B Q M z q=>exact(qA3 O M z q.len1 q.len2 (sub N C q) λe=>by subst e;exact(sW G U).symm.trans (ZI I r (m+1) _ _ _ N C T L)).cast (sW G U)
def qY:Aj:=30
def fx:G2:=λa b S=>if pl qY a&&pl qY b then .ok (.bl (gz a b)) S else .bad
def io:G2:=λa b S=>if pl qY a&&pl qY b then .ok (.bl (!gz a b)) S else .bad
set_option tactic.hygienic true in
def qBV (T:X.A.units+64<Fj):il X (Cs .Eq) fx:=by
 intro aa Y H s P J S v u N L a b Q I r O B G C U;unfold fx at U;split at U;rename_i h;rw[Ax] at h;exact(iI I r qY X.A a b N L (by unfold qY;lia) h.1 h.2 (vI I r h.1 G O) (vI I r h.2 C B)).rc _ _ _ _ ⟨.bl _,H,I,Z,xr U r (by simp only[am])⟩;exact Am U
set_option tactic.hygienic true in
def qBb (T:X.A.units+64<Fj):il X (Cs .NotEq) io:=by
 intro aa Y H s P J S v u N L a b Q I r O B G C U;unfold io at U;split at U;rename_i h;rw[Ax] at h;exact(iI I r qY X.A a b N L (by unfold qY;lia) h.1 h.2 (vI I r h.1 G O) (vI I r h.2 C B)).ne _ _ _ _ ⟨.bl _,H,I,Z,xr U r (by simp only[am])⟩;exact Am U
end
end _D
end
namespace _D
open _L
variable {aa:J0}{ah us:Y0}{J:J9}{xs ds:Ab D}{vs:Ab V}{f:Ac->Ac->Km Ac}{s:Ai}{d:D}{P H:Hp}{S:ag}{v:V}{Q:VK}{Y:_L.St}
section
variable {X:Cx}
noncomputable def i2 (C:Aq->Aq->Ar)(f:Aq->Aq->D):G2:=λa b S=>match a,b with
 |.int i,.int j=>if C i j then .ok (f i j) S else .bad
 |_,_=>.bad
def MX {C:Aq->Aq->Ar}{f:Aq->Aq->D}{Ok:D->ag->Prop}(h:qL X P J (i2 C f a b S) Ok):∃ i j,a=.int i/\b=.int j/\C i j=Vp/\Ok (f i j) S:=by
 cases a with
 |int i =>
  cases b with
  |int j =>
   obtain⟨U,h⟩:=xD (X:=X) h;exact⟨i,j,rfl,rfl,U,h⟩
  |_=>exact Am h
 |_=>exact Am h
def xU (r:am X.K P J (.int i) v):v=.int i:=by simpa only [am] using r
def dH {U:Aq->Aq->Prop}{v:Aq->Aq->V}{C:Aq->Aq->Ar}{d:Aq->Aq->D}(h:pe X f (rI U v))(L:∀ i j,C i j=Vp->U i j)(hv:∀ P J i j,am X.K P J (d i j) (v i j)):il X f (i2 C d):=
 il.of h λH P J S x y a b Q r O G B=>by obtain⟨i,j,rfl,rfl,N,ok⟩:=MX B;exact⟨i,j,xU O,xU G,L i j N,xr ok r (hv P J i j)⟩
def mO {v:Aq->Aq->V}{d:Aq->Aq->D}(h:pe X f (vz v))(hv:∀ P J i j,am X.K P J (d i j) (v i j)):il X f (i2 (λ_ _=>Vp) d):=
 il.of h λH P J S x y a b Q r G U N=>by obtain⟨i,j,rfl,rfl,_,ok⟩:=MX N;exact⟨i,j,xU G,xU U,xr ok r (hv P J i j)⟩
def jE:G2:=i2 (λ_ _=>Vp) λi j=>.int (i-j)
def OC:il X (Et .Sub) jE:=mO ON λP J i j=>by simp only[am]
noncomputable def i0 (i j:Aq):Ar:=decide (-(2 ^ 64)<i/\i<2 ^ 64)||decide (-(2 ^ 64)<j/\j<2 ^ 64)
def SV:il X (Et .Mult) (i2 i0 λi j=>.int (i*j)):=dH OL (λi j h=>by
 unfold i0 at h;rw[Kt] at h;rcases h with h|h
 .exact .inl (Bd h)
 .exact .inr (Bd h)) λP J i j=>by simp only[am]
noncomputable def HF (i j:Aq):Ar:=decide (0<j/\j<1073741824)
def m7:G2:=i2 HF λi j=>.int (i/j)
def O8:il X (Et .FloorDiv) m7:=dH SZ (λi j h=>(Bd h:0<j/\j<1073741824)) λP J i j=>by simp only[am]
def kI:G2:=i2 (λ_ j=>decide (0<j)) λi j=>.int (i % j)
def OA:il X (Et .Mod) kI:=dH OK (λi j h=>Bd h) λP J i j=>by simp only[am]
noncomputable def qCI (i j:Aq):Ar:=decide (0<=j/\j<=1000000/\i.natAbs<2 ^ 64)
def BB:G2:=i2 qCI λi j=>.int (i ^ j.toNat)
def OB:il X (Et .Pow) BB:=dH OM (λi j h=>(Bd h:0<=j/\j<=1000000/\i.natAbs<2 ^ 64)) λP J i j=>by simp only[am]
def wb:G2:=i2 (λ_ _=>Vp) λi j=>.bl (decide (i<j))
def sv:G2:=i2 (λ_ _=>Vp) λi j=>.bl (decide (i<=j))
def yo:G2:=i2 (λ_ _=>Vp) λi j=>.bl (decide (j<i))
def ze:G2:=i2 (λ_ _=>Vp) λi j=>.bl (decide (j<=i))
def TV:il X (Cs .Lt) wb:=mO qBf λP J i j=>by simp only[am]
def qBa:il X (Cs .LtE) sv:=mO qBe λP J i j=>by simp only[am]
def qBX:il X (Cs .Gt) yo:=mO qBd λP J i j=>by simp only[am]
def qBW:il X (Cs .GtE) ze:=mO qBc λP J i j=>by simp only[am]
def yB:D->ag->ax D:=λa S=>match a with
 |.int i=>.ok (.int (-i)) S
 |_=>.bad
def qAi:_z X (Yx .USub) yB:=by
 intro aa Y H s P J S v N a Q I r G p U;cases a with
 |int i=>exact qAj aa s Y H v N Q I G ⟨i,xU p,xr U r (by simp only[am])⟩
 |_=>exact Am U
noncomputable def xh:G2:=λa b S=>match b with
 |.non=>match a with
  |.non=>.ok (.bl Vp) S
  |_=>.ok (.bl Yp) S
 |_=>.bad
def SI (r:am X.K P J d v):decide (v=.non)=(match d with|.non=>Vp|_=>Yp):=by
 cases d <;> simp only[am] at r
 case non=>subst r;rfl
 case bl=>subst r;rfl
 case int=>subst r;rfl
 case str=>subst r;rfl
 case ty=>subst r;rfl
 case clo=>obtain⟨rfl,_⟩:=r;rfl
 case obj=>obtain⟨rfl,_⟩:=r;rfl
 case tup=>obtain⟨a,vs,rfl,_⟩:=r;rfl
 case lst=>obtain⟨a,vs,rfl,_⟩:=r;rfl
 case dct0=>obtain⟨a,rfl,_⟩:=r;rfl
 case loc=>obtain⟨a,rfl,_⟩:=r;rfl
 case exn=>obtain⟨a,rfl,_⟩:=r;rfl
 case fd=>obtain⟨a,o,vs,rfl,_⟩:=r;rfl
 case exl=>obtain⟨a,U,vs,rfl,_⟩:=r;rfl
def qBZ:il X (Cs .Is) xh:=il.of OJ λH P J S x y a b Q r N U G=>by
 cases b with
 |non =>
  simp only[am] at U;refine⟨U,?_⟩;rw[SI N];cases a <;> exact xr G r (by simp only[am])
 |_=>exact Am G
def qR:G2:=λa b S=>match a,b with
 |.int i,.int j=>.ok (.int (i+j)) S
 |.str x,.str y=>if x.length+y.length<=bb then .ok (.str (x++y)) S else .bad
 |.tup xs,.tup U=>if xs.length+U.length<=bb then .ok (.tup (xs++U)) S else .bad
 |.lst xs,.lst U=>if xs.length+U.length<=bb then .ok (.lst (xs++U)) S else .bad
 |_,_=>.bad
def kX (I:Inv X aa Y H s)(r:bf X.K H P J S)(p:am X.K P J (.tup xs) v) :
  ∃ a vs ah,v=.ref a/\ke X.K P a vs/\qJ X.K P J xs vs/\qQ vs ah/\Tc s.heap a ah.toArray/\xs.length=ah.length/\xs.length<=bb:=by
 simp only[am] at p;obtain⟨a,vs,rfl,q,t⟩:=p;obtain⟨ah,U,G,z⟩:=I.tuple (wJ r.sub q);exact⟨a,vs,ah,rfl,q,t,U,G,by rw[t.length,U.length],by rw[t.length,zP];exact z⟩
def uB (I:Inv X aa Y H s)(r:bf X.K H P J S)(p:am X.K P J (.lst xs) v) :
  ∃ a vs ah n,v=.ref a/\sw X.K P a vs/\qJ X.K P J xs vs/\qQ vs ah/\s.heap.get? a=Aa { cls:=.type "list",data:=.seq ah.toArray n } /\ xs.length=ah.length/\xs.length<=bb:=by
 simp only[am] at p;obtain⟨a,vs,rfl,q,t⟩:=p;have:∃ ah n,qQ vs ah/\s.heap.get? a=Aa { cls:=.type "list",data:=.seq ah.toArray n } /\ vs.length<=sizeLine:=by
  rcases q with q|⟨ah,n,e,z,U⟩
  .obtain⟨z,ah,n,U,e⟩:=(XT r.sub q).ok I.hok;exact⟨ah,n,U,e,z⟩
  .exact⟨ah,n,U,I.kIn _ _ e,z⟩
 obtain⟨ah,n,U,e,z⟩:=this;exact⟨a,vs,ah,n,rfl,q,t,U,e,by rw[t.length,U.length],by rw[t.length,zP];exact z⟩
def BQ (I:Inv X aa Y H s)(r:bf X.K H P J S)(t:qJ X.K P J xs vs)(U:qQ vs ah)(hz:xs.length<=bb)
  (ok:gy X P J Q (.tup xs) S):EP X aa Y Q (.ref s.heap.objs.size) { s with heap:=s.heap.push { cls:=.type "tuple",data:=.seq ah.toArray } }:=by
 refine⟨.ref s.heap.objs.size,_,I.laid (t':=s.toks) (o:=.tup vs) (λb G q=>Ak _ q) (Ay _) ⟨by rw[<- t.length,<- zP];exact hz,ah,U,Ul _ _⟩,Z,bY r (I.hok.fresh (Ay _)) t ok⟩
def iY (I:Inv X aa Y H s)(r:bf X.K H P J S)(t:qJ X.K P J xs vs)(U:qQ vs ah)(hz:xs.length<=bb)
  (ok:gy X P J Q (.lst xs) S):EP X aa Y Q (.ref s.heap.objs.size) { s with heap:=s.heap.push { cls:=.type "list",data:=.seq ah.toArray } }:=by
 refine⟨.ref s.heap.objs.size,_,I.laid (t':=s.toks) (o:=.lst vs) (λb G q=>Ak _ q) (Ay _) ⟨by rw[<- t.length,<- zP];exact hz,ah,0,U,Bf _ Z⟩,Z,wQ r (I.hok.fresh (Ay _)) t ok⟩
theorem H8 (I:Inv X aa Y H s)(r:bf X.K H P J S)(rv:qT v o)(ru:qT u i)(y:am X.K P J (.tup xs) v)(t:am X.K P J (.tup ys) u)(e:xs.length+ys.length<=bb)(L:gy X P J Q (.tup (xs++ys)) S) :
  a8 X (Et .Add o i) (EP X aa Y Q) X.xe s:=by
 obtain⟨a,vs,ah,rfl,q1,t1,A,m,g,_⟩:=kX I r y;obtain⟨b,ws,G,rfl,q2,t2,M,j,p,_⟩:=kX I r t;cases rv;cases ru;by_cases C:ah=[]
 .obtain⟨⟨cls,x,data,sl⟩,q,k,n,c⟩:=id m;obtain⟨⟨l,E,data2,w⟩,U,O,h,N⟩:=id j;simp only at k c O N;subst k c O N;have T:xs=[]:=Kg.mp (by rw[g,C];rfl);subst T;exact Xe ⟨_,q,rfl⟩ ⟨_,U,rfl⟩ So Vu Nz Nd (Mu _ _) (tuple_addW0 a b ah.toArray G.toArray n h x E sl w (by simp[C]))
   ⟨q,U,⟨.ref b,H,I,Z,xr L r t⟩⟩
 .refine _H.we m j C (λz=>⟨.ref a,H,I,Z,xr L r ?_⟩) (λz=>?_) (by rw[<- g,<- p,<- zP];exact e)
  .have B:ys=[]:=Kg.mp (by rw[p,z];rfl);rw[B,Hc];exact y
  .exact BQ I r (t1.append t2) (A.append M) (by rw[Az];exact e) L
def EZ (I:Inv X aa Y H s)(r:bf X.K H P J S)(z:qT v N)(y:qT u B)(T:am X.K P J (.lst xs) v)(j:am X.K P J (.lst ys) u)(O:xs.length+ys.length<=bb)(A:gy X P J Q (.lst (xs++ys)) S) :
  a8 X (Et .Add N B) (EP X aa Y Q) X.xe s:=by
 obtain⟨a,vs,ah,n,rfl,l,q,U,k,w,_⟩:=uB I r T;obtain⟨b,g,C,o,rfl,p,M,G,L,E,_⟩:=uB I r j;cases z;cases y;refine Zh k L ?_ (by rw[Bk,Bk,<- w,<- E,<- zP];exact O);rw[We];exact iY I r (q.append M) (U.append G) (by rw[Az];exact O) A
inductive _T (a b:D)(S:ag):Prop
 |bad (e:qR a b S=.bad)
 |int (i j:Aq) (ea:a=.int i) (eb:b=.int j)
 |str (x y:Ah) (ea:a=.str x) (eb:b=.str y)
 |tup (x y:Ab D) (ea:a=.tup x) (eb:b=.tup y)
 |lst (x y:Ab D) (ea:a=.lst x) (eb:b=.lst y)
def qCF (a b:D)(S:ag):_T a b S:=by
 cases a with
 |int i=>cases b with
  |int j=>exact .int i j rfl rfl
  |_=>exact .bad rfl
 |str i=>cases b with
  |str j=>exact .str i j rfl rfl
  |_=>exact .bad rfl
 |tup i=>cases b with
  |tup j=>exact .tup i j rfl rfl
  |_=>exact .bad rfl
 |lst i=>cases b with
  |lst j=>exact .lst i j rfl rfl
  |_=>exact .bad rfl
 |_=>exact .bad rfl
def O7:il X (Et .Add) qR:=by
 intro aa Y H s P J S v u E A a b Q I r L T O C U;cases qCF a b S with
 |bad e=>rw[e] at U;exact Am U
 |int i j N G =>
  subst N G;exact OI aa s Y H v u E A Q I L T ⟨i,j,xU O,xU C,xr U r (by simp only[am])⟩
 |str x y N G =>
  subst N G;obtain⟨B,U⟩:=xD (X:=X) U;simp only[am] at O C;exact V1 aa s Y H v u E A Q I L T ⟨x,y,O,C,by rw[<- zP];exact B,xr U r (by simp only[am])⟩
 |tup xs M N G =>
  subst N G;obtain⟨B,U⟩:=xD (X:=X) U;exact H8 I r L T O C B U
 |lst xs M N G =>
  subst N G;obtain⟨B,U⟩:=xD (X:=X) U;exact EZ I r L T O C B U
def bx:G2:=λa b S=>match b with
 |.int k=>match a with
  |.tup xs=>vO (jm xs k) S
  |.lst xs=>vO (jm xs k) S
  |.loc i=>match S[i]? with
   |some (.lst xs)=>vO (jm xs k) S
   |_=>.bad
  |_=>.bad
 |_=>.bad
def sJ (U:qJ X.K P J ds vs)(h:jm ds k=Aa d):∃ v,jm vs k=Aa v/\am X.K P J d v:=by
 unfold jm at h ⊢;rw[<- U.length];cases q:qg ds.length k with
 |none=>rw[q] at h;cases h
 |some j =>
  rw[q] at h;obtain⟨v,G,N⟩:=U.get (show ds[j]? = Aa d from h);exact⟨v,G,N⟩
def qCU:Z6 X bx:=by
 intro T U aa Y H s P J S v u L M a b Q I r E A O o N j;cases b with
 |int k =>
  have B:=xU o;cases a with
  |tup xs =>
   obtain⟨d,e,ok⟩:=vT (X:=X) N;simp only[am] at O;obtain⟨p,vs,rfl,q,t⟩:=O;obtain⟨w,C,G⟩:=sJ t e;exact ID T U aa s Y H _ u L M Q I E A ⟨p,vs,k,w,rfl,B,wJ r.sub q,C,xr ok r G⟩ j
  |lst xs =>
   obtain⟨d,e,ok⟩:=vT (X:=X) N;simp only[am] at O;obtain⟨p,vs,rfl,q,t⟩:=O;obtain⟨w,C,G⟩:=sJ t e;exact X4 T U aa s Y H _ u L M Q I E A ⟨p,vs,k,w,rfl,B,(w9 r.sub q).l,C,xr ok r G⟩ j
  |loc i =>
   obtain⟨xs,y,N⟩:=bW (X:=X) (f:=λxs=>vO (jm xs k) S) N;obtain⟨d,e,ok⟩:=vT (X:=X) N;simp only[am] at O;obtain⟨p,rfl,q⟩:=O;obtain⟨vs,z,t⟩:=r.at' i p _ q y;obtain⟨w,C,G⟩:=sJ t e;exact X4 T U aa s Y H _ u L M Q I E A ⟨p,vs,k,w,rfl,B,.of z,C,xr ok r G⟩ j
  |_=>exact Am N
 |_=>exact Am N
def BC:G3:=λo i d S=>match o,i with
 |.loc n,.int k=>match S[n]? with
  |some (.lst xs)=>match qg xs.length k with
   |some j=>.ok () (S.set n (.lst (xs.set j d)))
   |none=>.bad
  |_=>.bad
 |_,_=>.bad
def qBs:aS X (aO X BC):=by
 intro aa s Y H o i v A L u Q I C B T h;obtain⟨P,J,S,a,b,d,r,N,E,M,U⟩:=h;cases a with
 |loc n =>
  cases b with
  |int k =>
   obtain⟨xs,O,U⟩:=bW (X:=X) (f:=λxs=>match qg xs.length k with|some j=>.ok () (S.set n (.lst (xs.set j d)))|none=>.bad) U;cases G:qg xs.length k with
   |none=>rw[G] at U;exact Am U
   |some j =>
    rw[G] at U;simp only[am] at N;obtain⟨p,rfl,q⟩:=N;obtain⟨vs,z,t⟩:=r.at' n p _ q O;refine FY aa s Y H _ i v A L u Q I C B T ⟨p,vs,k,j,rfl,xU E,z,by rw[<- t.length];exact G,?_⟩;refine U _ P J (r.put (m':=.lst (xs.set j d)) q O (by intro z;cases z) ⟨vs.set j v,qX,t.set M j⟩) (qO.refl _) (Bm _)
  |_=>exact Am U
 |_=>exact Am U
def rE:D->ag->Al Aj
 |.tup xs,_=>Aa xs.length
 |.lst xs,_=>Aa xs.length
 |.str x,_=>if x.length<=bb then Aa x.length else Zw
 |.dct0,_=>Aa 0
 |.loc i,S=>match S[i]? with
  |some (.lst xs)=>Aa xs.length
  |_=>Zw
 |_,_=>Zw
def iN:DF:=λds S=>match ds with
 |[d]=>match rE d S with
  |some n=>.ok (.int n) S
  |none=>.bad
 |_=>.bad
end
section
variable {X:Cx}
def wW (U:qJ X.K P J [d] vs)(G:qQ vs us):∃ v u,vs=[v]/\us=[u]/\am X.K P J d v/\qT v u:=by obtain⟨v,N,rfl,p,t⟩:=U.cons_inv;have:=t.nil_inv;subst this;obtain⟨u,rfl,q⟩:=jT G;exact⟨v,u,rfl,rfl,p,q⟩
def gF {e:D}(N:qJ X.K P J [d,e] vs)(O:qQ vs us):∃ v w u x,vs=[v,w]/\us=[u,x]/\am X.K P J d v/\am X.K P J e w/\qT v u/\qT w x:=by obtain⟨v,U,rfl,p,t⟩:=N.cons_inv;obtain⟨w,U,rfl,C,t⟩:=t.cons_inv;have:=t.nil_inv;subst this;obtain⟨u,x,rfl,q,G⟩:=N6 O;exact⟨v,w,u,x,rfl,rfl,p,C,q,G⟩
def YJ (d:D)(S:ag):Al Aj:=match d with
 |.dct0=>Zw
 |_=>rE d S
def IP (r:bf X.K H P J S)(p:am X.K P J d v)(U:YJ d S=Aa n):ET X.K v H n:=by
 cases d with
 |str x =>
  cases (show v=.str x from p);obtain⟨O,rfl⟩:=kL U;exact⟨by rw[<- zP];exact O,rfl⟩
 |tup xs =>
  simp only[am] at p;obtain⟨a,G,rfl,sq,t⟩:=p;cases U;exact .inr ⟨G,wJ r.sub sq,t.length⟩
 |lst xs =>
  simp only[am] at p;obtain⟨a,G,rfl,sq,t⟩:=p;cases U;exact .inl ⟨G,(w9 r.sub sq).l,t.length⟩
 |loc i =>
  simp only[am] at p;obtain⟨a,rfl,e⟩:=p;obtain⟨xs,N,U⟩:=IT (f:=λxs=>Aa xs.length) U;cases U;obtain⟨G,z,t⟩:=r.at' i a _ e N;exact .inl ⟨G,.of z,t.length⟩
 |_=>exact nn U
inductive zy (ds:Ab D)(S:ag)(r:ax D):Prop
 |bad (e:r=.bad)
 |of (d:D) (n:Aj) (ed:ds=[d]) (hn:YJ d S=Aa n) (e:r=.ok (.int n) S)
def qBG (ds:Ab D)(S:ag):zy ds S (match ds with|[.dct0]=>.bad|_=>iN ds S):=by
 cases ds with
 |nil=>exact .bad rfl
 |cons d ds =>
  cases ds with
  |cons _ _=>cases d <;> exact .bad rfl
  |nil =>
   have z:(match [d] with|[D.dct0]=>ax.bad|_=>iN [d] S)=(match YJ d S with|some n=>ax.ok (D.int n) S|none=>.bad):=by cases d <;> rfl
   rw[z];cases U:YJ d S with
   |none=>exact .bad rfl
   |some n=>exact .of d n rfl U rfl
def HI (L:Jk):wR X (.builtin "len") (λds S=>match ds with|[.dct0]=>.bad|_=>iN ds S):=by
 intro aa Y H s P J S vs us ds Q I r N O G;have U:qL X P J (match ds with|[D.dct0]=>ax.bad|_=>iN ds S) (gy X P J Q):=G;clear G;cases qBG ds S with
 |bad e=>rw[e] at U;exact Am U
 |of d n B C e =>
  rw[e] at U;subst B;obtain⟨v,u,rfl,rfl,p,q⟩:=wW O N;exact GX aa s Y H _ _ Q I N ⟨v,n,rfl,IP r p C,xr U r (by simp only[am])⟩
noncomputable def pi:D->ag->Al Ek
 |.non,_=>Aa "NoneType"
 |.bl _,_=>Aa "bool"
 |.int _,_=>Aa "int"
 |.str _,_=>Aa "str"
 |.tup _,_=>Aa "tuple"
 |.lst _,_=>Aa "list"
 |.dct0,_=>Aa "dict"
 |.loc i,S=>match S[i]? with
  |some (.lst _)=>Aa "list"
  |some (.dct _)=>Aa "dict"
  |_=>Zw
 |_,_=>Zw
def bN (a b:Ek):Ar:=a == b||(a == "bool" && b == "int")
noncomputable def bU (b:Ek):Ar:=b == "int" || b == "bool" || b == "tuple" || b == "list" || b == "str" || b == "dict"
noncomputable def IL (a b:Ek):Al Ar:=if (Ht a == Ht b)=Vp then Aa Vp else if PySem.W.kitMeta b=Vp then (fastBuiltinMro a).map (·.contains (.type b)) else Zw
noncomputable def _d:Ab Ek:=["NoneType","bool","int","str","tuple","list","dict"]
noncomputable def _h:Ab Ek:=["int","bool","tuple","list","str","dict"]
def DM:(_d.all λa=>_h.all λb=>decide (IL a b=Aa (bN a b)))=true:=by decide +kernel
def OG (U:bU b=Vp):b∈_h:=by simpa [bU,_h,or_assoc] using U
def DN {K:Ag}{a b:Ek}(U:a∈_d)(G:bU b=Vp):Ll K (.type a) (.type b)=Aa (bN a b):=
 Bd (p:=IL a b=Aa (bN a b)) (Bg.mp (Bg.mp DM a U) b (OG G))
def zQ:DF:=λds S=>match ds with
 |[d,.ty b]=>if bU b then match pi d S with
   |some a=>.ok (.bl (bN a b)) S
   |none=>.bad
  else .bad
 |_=>.bad
inductive TyV (X:Cx)(H:Hp)(v:V)(a:Ek):Prop
 |of (t:ko X.K H v (.type a))
 |tup (p:Af) (vs:Ab V) (e:v=.ref p) (q:ke X.K H p vs) (ea:a = "tuple")
 |lst (p:Af) (vs:Ab V) (e:v=.ref p) (q:kr X.K H p vs) (ea:a = "list")
def qAh (h:pi d S=Aa a):a∈_d:=by
 cases d with
 |non=>cases h;exact .head _
 |bl b=>cases h;exact .tail _ (.head _)
 |int i=>cases h;exact .tail _ (.tail _ (.head _))
 |str x=>cases h;exact .tail _ (.tail _ (.tail _ (.head _)))
 |tup xs=>cases h;exact .tail _ (.tail _ (.tail _ (.tail _ (.head _))))
 |lst xs=>cases h;exact .tail _ (.tail _ (.tail _ (.tail _ (.tail _ (.head _)))))
 |dct0=>cases h;exact .tail _ (.tail _ (.tail _ (.tail _ (.tail _ (.tail _ (.head _))))))
 |loc i =>
  rcases rL (f:=λ_=>Aa "list") (g:=λ_=>Aa "dict") h with⟨_,_,h⟩|⟨_,_,h⟩
  .cases h;exact .tail _ (.tail _ (.tail _ (.tail _ (.tail _ (.head _)))))
  .cases h;exact .tail _ (.tail _ (.tail _ (.tail _ (.tail _ (.tail _ (.head _))))))
 |_=>exact nn h
def qB1 (r:bf X.K H P J S)(p:am X.K P J d v)(h:pi d S=Aa a):TyV X H v a:=by
 cases d with
 |non=>cases h;cases (show v=.non from p);exact .of .non
 |bl b=>cases h;cases (show v=.bl b from p);exact .of (.bl b)
 |int i=>cases h;cases (show v=.int i from p);exact .of (.int i)
 |str x=>cases h;cases (show v=.str x from p);exact .of (.str x)
 |tup xs =>
  cases h;simp only[am] at p;obtain⟨a,vs,e,q,t⟩:=p;exact .tup a vs e (wJ r.sub q) rfl
 |lst xs =>
  cases h;simp only[am] at p;obtain⟨a,vs,e,q,t⟩:=p;exact .lst a vs e (w9 r.sub q).l rfl
 |dct0 =>
  cases h;simp only[am] at p;obtain⟨a,rfl,q⟩:=p;exact .of (.dK (r.sub _ _ q))
 |loc i =>
  simp only[am] at p;obtain⟨a,rfl,q⟩:=p;rcases rL (f:=λ_=>Aa "list") (g:=λ_=>Aa "dict") h with⟨xs,U,h⟩|⟨G,U,h⟩
  .cases h;obtain⟨vs,z,t⟩:=r.at' i a _ q U;exact .of (.lst z)
  .cases h;obtain⟨vs,z,t⟩:=r.at' i a _ q U;exact .of (.dK z)
 |_=>exact nn h
inductive _Q (ds:Ab D)(S:ag):Prop
 |bad (e:zQ ds S=.bad)
 |of (d:D) (b a:Ek) (ed:ds=[d,.ty b]) (hb:bU b=Vp) (ha:pi d S=Aa a) (e:zQ ds S=.ok (.bl (bN a b)) S)
def qCT (ds:Ab D)(S:ag):_Q ds S:=by
 cases ds with
 |nil=>exact .bad rfl
 |cons d ds =>
  cases ds with
  |nil=>exact .bad rfl
  |cons e ds =>
   cases ds with
   |cons _ _=>cases e <;> exact .bad rfl
   |nil =>
    cases e with
    |ty b =>
     have z:zQ [d,.ty b] S=if bU b then (match pi d S with|some a=>.ok (.bl (bN a b)) S|none=>.bad) else .bad:=rfl
     by_cases G:bU b=Vp
     .rw[Au G] at z;cases U:pi d S with
      |none=>rw[U] at z;exact .bad z
      |some a=>rw[U] at z;exact .of d b a rfl G U z
     .rw[AT G] at z;exact .bad z
    |_=>exact .bad rfl
def U0:wR X (.builtin "isinstance") zQ:=by
 intro aa Y H s P J S vs us ds Q I r g j O;cases qCT ds S with
 |bad e=>rw[e] at O;exact Am O
 |of d b a l k A e =>
  subst l;rw[e] at O;obtain⟨v,w,u,x,rfl,rfl,p,N,q,y⟩:=gF j g;simp only[am] at N;subst N;cases (show x=Ht b from y);have G:=DN (K:=X.K) (qAh A) k;have U:∀ B,EP X aa Y Q (.bool (bN a b)) { s with toks:=B }:=λB=>⟨.bl _,H,I.tok B,Z,xr O r (by simp only[am])⟩
  cases qB1 r p A with
  |of c=>exact _M I q c G U
  |tup N M e sq L =>
   subst e L;cases (show u=Cc N from q);obtain⟨ah,T,⟨o,E,C,_⟩,_⟩:=I.tuple sq;exact DL Wx I.kIn ⟨o,E,C⟩ G (λz=>nomatch z) U
  |lst N M e sq L =>
   subst e L;cases (show u=Cc N from q);obtain⟨ah,T,⟨o,_,E,C,_⟩,_⟩:=I.list sq;exact DL Re I.kIn ⟨o,E,C⟩ G (λz=>nomatch z) U
noncomputable def xQ:Ab D->Al (Ab Ar)
 |[]=>Aa []
 |.bl b::r=>(xQ r).map (b::·)
 |_=>Zw
theorem u0:∀ {ds:Ab D} {bs:Ab Ar} {vs:Ab V} {us:Y0},xQ ds=Aa bs->qJ X.K P J ds vs->qQ vs us->us=bs.map Fa
 |[],bs,vs,us,h,U,G=>by
  cases h;have:=U.nil_inv;subst this;cases G;rfl
 |d::ds,bs,vs,us,h,U,G=>by
  cases d with
  |bl b =>
   obtain⟨C,q,rfl⟩:=Eo.mp (show (xQ ds).map (b::·)=Aa bs from h);obtain⟨w,B,rfl,p,t⟩:=U.cons_inv;simp only[am] at p;subst p;cases G with
   |cons O N =>
    cases (show _=Fa b from O);rw[u0 q t N];rfl
  |_=>exact nn h
def bG (any:Ar):DF:=λds S=>match ds with
 |[d]=>match (xE d).bind xQ with
  |some U=>.ok (.bl (if any then U.any id else U.all id)) S
  |none=>.bad
 |_=>.bad
def cB (bs:Ab Ar):((Cp bs.length).all λi=>bs.getD i Yp)=bs.all id:=by
 induction bs with
 |nil=>rfl
 |cons b bs U =>
  rw[Aw,Ks,Ik,Hm,Ik,<- U];rfl
def cC (bs:Ab Ar):((Cp bs.length).any λi=>bs.getD i Yp)=bs.any id:=by
 induction bs with
 |nil=>rfl
 |cons b bs U =>
  rw[Aw,Ks,Wf,Xj,Wf,<- U];rfl
def _J {h':Bc}{G:Aj}(I:Inv X aa Y H s)(k:∀ b U,b ∉ [s.heap.objs.size]->(s.heap.push o).get? b=Aa U->h'.get? b=Aa U):Inv X aa Y H { s with heap:=h',toks:=G }:=
 I.kept λb u e=>k b u (by simp;exact Cm (Bh e)) (Ak _ e)
def gJ {bs:Ab Ar}(N:ah=bs.map Fa){A:Bp}:TruthOf X.prog X.w A (λi v=>ah.toArray[i]? = Aa v) (λi=>bs.getD i Yp):=λi v B O L hv C=>by
 subst N;have U:(bs.map Fa)[i]? = Aa v:=by simpa using hv
 rw[Er] at U;cases e:bs[i]? with
 |none=>rw[e] at U;exact nn U
 |some b =>
  rw[e] at U;cases Cw U;have:bs.getD i Yp=b:=by simp[Mg,e]
  have G:O (bs.getD i Yp) B:=C;rw[this] at G;exact Nr G
theorem LW {any:Ar}{Ok:D->ag->Prop}(h:qL X P J (bG any ds S) Ok):∃ d xs bs,ds=[d]/\_P d xs/\xQ xs=Aa bs/\Ok (.bl (if any then bs.any id else bs.all id)) S:=by
 obtain⟨d,rfl,U⟩:=oN (X:=X) (β:=D) (g:=λd=>match (xE d).bind xQ with|some bs=>.ok (D.bl (if any then bs.any id else bs.all id)) S|none=>.bad) h;cases N:(xE d).bind xQ with
 |none=>rw[N] at U;exact Am U
 |some bs =>
  rw[N] at U;obtain⟨xs,O,G⟩:=Eg.mp N;exact⟨d,xs,bs,rfl,R_ O,G,U⟩
theorem HG (any:Ar)(hc:X.calm=Vp):wR X (.builtin (if any then "any" else "all")) (bG any):=by
 intro aa Y H s P J S vs us ds Q I r h x i;obtain⟨d,xs,j,M,hd,A,ok⟩:=LW i;clear i;subst M;obtain⟨v,u,rfl,rfl,p,q⟩:=wW x h;clear x;have O:∀ {o:Ce} (G:Bc) (N:Aj),(∀ b y,b ∉ [s.heap.objs.size]->(s.heap.push o).get? b=Aa y->G.get? b=Aa y)->EP X aa Y Q (.bool (if any then j.any id else j.all id)) { s with heap:=G,toks:=N }:=
  λ{o} G N k=>⟨.bl _,H,_J I k,Z,xr ok r (by simp only[am])⟩
 clear h ok;have l:X.A.in1.handled=none:=I.ok.hd hc;cases hd with
 |tup M =>
  subst M;obtain⟨a,ws,ah,rfl,sq,t,C,T,hl,_⟩:=kX I r p;cases (show u=Cc a from q);have B:=u0 A t C;have U:ah.toArray.size=j.length:=by rw[B];simp
  have L:a≠s.heap.objs.size:=by obtain⟨o,e,_⟩:=T;exact Cm (Bh e)
  have W:=Walks.tuple (prog:=X.prog) (w:=X.w) l s.heap.objs.size a L ah.toArray;have m:∀ o,(s.heap.push o).IsTuple a ah.toArray:=λo=>by obtain⟨o,e,c⟩:=T;exact⟨o,Ak _ e,c⟩
  have E:s.heap.IsTuple a ah.toArray:=T;cases any with
  |false =>
   refine call_all_walk (Iw E ⟨s.heap.objs.size,_,_,_,_,_,_,Z,W,⟨⟨_,Bf _ Z,Z,Z⟩,m _⟩,gJ B,λG N k=>?_⟩);rw[U,cB];exact O G N k
  |true =>
   refine call_any_walk (Iw E ⟨s.heap.objs.size,_,_,_,_,_,_,Z,W,⟨⟨_,Bf _ Z,Z,Z⟩,m _⟩,gJ B,λG N k=>?_⟩);rw[U,cC];exact O G N k
 |lst M =>
  subst M;obtain⟨a,ws,ah,n,rfl,sq,t,C,T,hl,_⟩:=uB I r p;cases (show u=Cc a from q);have g:s.heap.IsList a ah.toArray:=⟨_,T,Z,n,Z⟩;have B:=u0 A t C;have U:ah.toArray.size=j.length:=by rw[B];simp
  have L:a≠s.heap.objs.size:=Cm (Bh T);have W:=Walks.list (prog:=X.prog) (w:=X.w) l s.heap.objs.size a L ah.toArray;have z:∀ o,(s.heap.push o).IsList a ah.toArray:=λo=>⟨_,Ak _ T,rfl,n,rfl⟩;cases any with
  |false =>
   refine call_all_walk (Gz g ⟨s.heap.objs.size,_,_,_,_,_,_,Z,W,⟨⟨_,Bf _ Z,Z,Z⟩,z _⟩,gJ B,λG N k=>?_⟩);rw[U,cB];exact O G N k
  |true =>
   refine call_any_walk (Gz g ⟨s.heap.objs.size,_,_,_,_,_,_,Z,W,⟨⟨_,Bf _ Z,Z,Z⟩,z _⟩,gJ B,λG N k=>?_⟩);rw[U,cC];exact O G N k
def iM:DF:=λds S=>match ds with
 |[.int i]=>.ok (.int i) S
 |[.bl b]=>.ok (.int (W_ b)) S
 |_=>.bad
inductive _R (ds:Ab D)(S:ag):Prop
 |bad (e:iM ds S=.bad)
 |int (i:Aq) (e:ds=[.int i])
 |bl (b:Ar) (e:ds=[.bl b])
def qCR (ds:Ab D)(S:ag):_R ds S:=by
 cases ds with
 |nil=>exact .bad rfl
 |cons d ds =>
  cases ds with
  |cons _ _=>cases d <;> exact .bad rfl
  |nil =>
   cases d with
   |int i=>exact .int i rfl
   |bl b=>exact .bl b rfl
   |_=>exact .bad rfl
def HH:wR X (.type "int") iM:=by
 intro aa Y H s P J S vs us ds Q I r G N U;cases qCR ds S with
 |bad e=>rw[e] at U;exact Am U
 |int i e =>
  subst e;obtain⟨v,u,rfl,rfl,p,q⟩:=wW N G;exact eP aa s Y H _ _ Q I G (.inl ⟨_,by rw[xU p],xr U r (by simp only[am])⟩)
 |bl b e =>
  subst e;obtain⟨v,u,rfl,rfl,p,q⟩:=wW N G;simp only[am] at p;subst p;exact eP aa s Y H _ _ Q I G (.inr ⟨_,rfl,xr U r (by simp only[am];rfl)⟩)
def xR:DF:=λds S=>match ds with
 |[d]=>match xE d with
  |some xs=>.ok (.tup xs) S
  |none=>.bad
 |_=>.bad
def GZ:wR X (.type "tuple") xR:=by
 intro aa Y H s P J S vs us ds Q I r C T L;obtain⟨d,rfl,U⟩:=oN (X:=X) (β:=D) (g:=λd=>match xE d with|some xs=>.ok (D.tup xs) S|none=>.bad) L;obtain⟨xs,N,G⟩:∃ xs,xE d=Aa xs/\gy X P J Q (.tup xs) S:=by
  cases N:xE d with
  |none=>rw[N] at U;exact Am U
  |some xs=>rw[N] at U;exact⟨xs,rfl,U⟩
 obtain⟨v,u,rfl,rfl,p,q⟩:=wW T C;cases R_ N with
 |tup e =>
  subst e;have B:=p;simp only[am] at p;obtain⟨a,O,rfl,sq,t⟩:=p;exact fP aa s Y H _ _ Q I C ⟨a,O,rfl,.inr ⟨wJ r.sub sq,xr G r B⟩⟩
 |lst e =>
  subst e;simp only[am] at p;obtain⟨a,O,rfl,sq,t⟩:=p;exact fP aa s Y H _ _ Q I C ⟨a,O,rfl,.inl ⟨(w9 r.sub sq).l,λl E=>bY r E t G⟩⟩
def a0:DF:=λds S=>match ds with
 |[d]=>match xE d with
  |some xs=>.ok (.lst xs) S
  |none=>.bad
 |_=>.bad
def NL:wR X (.type "list") a0:=by
 intro aa Y H s P J S vs us ds Q I r C T L;obtain⟨d,rfl,U⟩:=oN (X:=X) (β:=D) (g:=λd=>match xE d with|some xs=>.ok (D.lst xs) S|none=>.bad) L;obtain⟨xs,N,G⟩:∃ xs,xE d=Aa xs/\gy X P J Q (.lst xs) S:=by
  cases N:xE d with
  |none=>rw[N] at U;exact Am U
  |some xs=>rw[N] at U;exact⟨xs,rfl,U⟩
 obtain⟨v,u,rfl,rfl,p,q⟩:=wW T C;cases R_ N with
 |tup e =>
  subst e;simp only[am] at p;obtain⟨a,O,rfl,sq,t⟩:=p;exact fW aa s Y H _ _ Q I C ⟨a,O,rfl,.inr (wJ r.sub sq),λl B=>wQ r B t G⟩
 |lst e =>
  subst e;simp only[am] at p;obtain⟨a,O,rfl,sq,t⟩:=p;exact fW aa s Y H _ _ Q I C ⟨a,O,rfl,.inl ((w9 r.sub sq).l),λl B=>wQ r B t G⟩
end
section
variable {X:Cx}
structure ut (K:Ag)(cl:J9):Prop where
 ex:∀ C∈cl,ol K C
 one:∀ C∈cl,∀ B∈cl,Ll K (.ref C) (.ref B)=Aa (C == B)
 ve:∀ C∈cl,Ll K (.ref C) (.type "ValueError")=Aa Vp
def vH (U:J9):DF:=λds S=>match ds with
 |[.exn (.ref C),.obj B]=>if U.contains C&&U.contains B then .ok (.bl (C == B)) S else .bad
 |[.exn (.ref C),.ty b]=>if U.contains C&&(b == "ValueError") then .ok (.bl Vp) S else .bad
 |_=>zQ ds S
def UK (I:Inv X aa Y H s)(r:bf X.K H P J S)(p:am X.K P J (.exn (.ref C)) v)(q:qT v u):∃ a,u=.ref a/\uN a C s.heap:=by simp only[am] at p;obtain⟨a,rfl,z⟩:=p;obtain⟨y,_⟩:=I.hok a _ (r.sub _ _ z);exact⟨a,q,y⟩
inductive C_ (cl:J9)(ds:Ab D)(S:ag):Prop
 |bad (e:vH cl ds S=.bad)
 |old (e:vH cl ds S=zQ ds S)
 |obj (C B:Af) (ed:ds=[.exn (.ref C),.obj B]) (h1:C∈cl) (h2:B∈cl) (e:vH cl ds S=.ok (.bl (C == B)) S)
 |ve (C:Af) (ed:ds=[.exn (.ref C),.ty "ValueError"]) (h1:C∈cl) (e:vH cl ds S=.ok (.bl Vp) S)
def qBA (U:J9)(C:Af)(d:D)(S:ag):C_ U [.exn (.ref C),d] S:=by
 cases d with
 |obj B =>
  have z:vH U [.exn (.ref C),.obj B] S=if (U.contains C&&U.contains B)=Vp then .ok (.bl (C == B)) S else .bad:=Z
  by_cases h:(U.contains C&&U.contains B)=Vp;rw[Au h] at z;have G:=Ct.mp h;exact .obj C B Z (Ev.mp G.1) (Ev.mp G.2) z;rw[AT h] at z;exact .bad z
 |ty b =>
  have z:vH U [.exn (.ref C),.ty b] S=if (U.contains C&&(b == "ValueError"))=Vp then .ok (.bl Vp) S else .bad:=Z
  by_cases h:(U.contains C&&(b == "ValueError"))=Vp;rw[Au h] at z;have G:=Ct.mp h;cases (Jv.mp G.2);exact .ve C rfl (Ev.mp G.1) z;rw[AT h] at z;exact .bad z
 |_=>exact .old rfl
def IB (U:J9)(ds:Ab D)(S:ag):C_ U ds S:=by
 cases ds with
 |nil=>exact .old rfl
 |cons a ds =>
  cases a with
  |exn c =>
   cases c with
   |ref C =>
    cases ds with
    |nil=>exact .old rfl
    |cons b ds =>
     cases ds with
     |nil=>exact qBA U C b S
     |cons _ _=>cases b <;> exact .old rfl
   |_=>exact .old rfl
  |_=>exact .old rfl
def zf (O:ut X.K L):wR X (.builtin "isinstance") (vH L):=by
 intro aa Y H s P J S vs us ds Q I r y A U;cases IB L ds S with
 |bad e=>rw[e] at U;exact Am U
 |old e=>rw[e] at U;exact U0 aa Y H s P J S vs us ds Q I r y A U
 |obj C B j N k e =>
  rw[e] at U;subst j;obtain⟨v,w,u,x,rfl,rfl,p,G,q,M⟩:=gF A y;simp only[am] at G;obtain⟨rfl,_⟩:=G;cases (show x=Cc B from M);obtain⟨a,rfl,T⟩:=UK I r p q;exact DL (bQ (O.ex C N)) I.kIn T (O.one C N B k) (λz=>nomatch z) λE=>⟨.bl _,H,I.tok E,rfl,xr U r (by simp only[am])⟩
 |ve C j N e =>
  rw[e] at U;subst j;obtain⟨v,w,u,x,rfl,rfl,p,G,q,M⟩:=gF A y;simp only[am] at G;subst G;cases (show x=Ht "ValueError" from M);obtain⟨a,rfl,T⟩:=UK I r p q;exact DL (bQ (O.ex C N)) I.kIn T (O.ve C N) (λz=>nomatch z) λE=>⟨.bl _,H,I.tok E,rfl,xr U r (by simp only[am])⟩
def sy (X:Cx)(id:Ek)(g:D->Ab D->ag->ax D):Prop:=
 ∀ (aa:J0) (Y : _L.St) (H:Hp) (s:Ai) (P:Hp) (J : Ab Af) (S:ag) (v:V) (U:Ac) (vs:Ab V) (us:Y0) (a:D) (ds:Ab D) (Q:VK),Inv X aa Y H s->bf X.K H P J S->qT v U->am X.K P J a v->qQ vs us->qJ X.K P J ds vs->qW X P J (g a ds S) Q ->
  a8 X (call (.builtin id) (U::us)) (EP X aa Y Q) X.xe s
def ki (T:Ek)(g:D->Ab D->ag->ax D)(C:DE)(N:DA):DE:=λG S=>(C G S).bind λa U=>if (pi a U == Aa T)=Vp then (N G U).bind λds O=>g a ds O else .bad
def G9 (r:bf X.K H P J S)(p:am X.K P J a v)(h:pi a S=Aa T)(hT:T = "list" \/ T = "dict" \/ T = "int" \/ T = "str"):_V X.K T v H:=by
 cases a with
 |int i=>cases h;simp only[am] at p;subst p;rfl
 |str x=>cases h;simp only[am] at p;subst p;rfl
 |lst xs =>
  cases h;simp only[am] at p;obtain⟨b,vs,rfl,q,t⟩:=p;exact .inl ⟨rfl,vs,(w9 r.sub q).l⟩
 |dct0 =>
  cases h;simp only[am] at p;obtain⟨b,rfl,q⟩:=p;exact .inr (.inr (.inl ⟨rfl,.inl ⟨[],r.sub _ _ q⟩⟩))
 |loc i =>
  simp only[am] at p;obtain⟨b,rfl,q⟩:=p;rcases rL (f:=λ_=>Aa "list") (g:=λ_=>Aa "dict") h with⟨xs,U,h⟩|⟨G,U,h⟩
  .cases h;obtain⟨vs,z,t⟩:=r.at' i b _ q U;exact .inl ⟨rfl,vs,kr.of z⟩
  .cases h;obtain⟨vs,z,t⟩:=r.at' i b _ q U;exact .inr (.inr (.inl ⟨rfl,.inl ⟨vs,z⟩⟩))
 |non=>cases h;exact absurd hT aC
 |bl b=>cases h;exact absurd hT aC
 |tup xs=>cases h;exact absurd hT aC
 |_=>exact nn h
variable {o e:Bl}{es:Ab Bl}{fo:DE}{fa:DA}{name:Ah}{cz cb:Ea}{T id:Ek}{g:D->Ab D->ag->ax D}
def U8 {β:Type}{k:ax β}{Ok:β->ag->Prop}(h:qL X P J (if (pi a S == Aa T)=Vp then k else .bad) Ok):pi a S=Aa T/\qL X P J k Ok:=by
 by_cases z:(pi a S == Aa T)=Vp;rw[Au z] at h;exact⟨Jv.mp z,h⟩;rw[AT z] at h;exact Am h
theorem qAt (l:Wg T)(slot:Slot T name id)(C:typeOf (.builtin id)=pure (.type "method_descriptor"))(hT:T = "list" \/ T = "dict" \/ T = "int" \/ T = "str")(hm:sy X id g)(m:PE X o (tD X fo))(t:PA X (e::es) (kz X fa))
  (G:Gc o name X.env (eval o X.env)=eval o X.env:=by rfl)
  (O:((Fh cb (Bj (e::es) X.env)).all (λx=>!x.1)&&(TD cb (Om [] X.env)).all (λx=>x.1.isSome)
   && decide ((e::es).length+([]:Ab Keyword).length+(if ([] : Ab Keyword).isEmpty then 0 else 1)<30))=true:=by rfl)
  (N:(cz.endLine == cb.line)=true:=by rfl) (hs:Bj (e::es) X.env=(Yp,eval e X.env)::Bj es X.env:=by rfl) (U:(Fh cb (Bj es X.env)).any (·.1)=false:=by rfl) :
  PE X (.Call (.Attribute o name cz) (e::es) [] cb) (tD X (ki T g fo fa)):=by
 intro aa s Y H Q I h;obtain⟨P,J,b,S,r,re,af⟩:=h;refine TW G O N rfl (bi (zO m I r re af) λa s1 ⟨v,H1,j,k,d,u,G1,A⟩=>?_);obtain⟨ht,L⟩:=U8 A;obtain⟨h1,p⟩:=G8 G1.inv G1.val (G9 G1.rel G1.rep ht hT);refine⟨T,id,l,slot,C,h1,p,?_⟩;have w:=yE t G1.inv G1.rel G1.env (P:=j) (J:=k) (Ok:=gy X j k Q) (qW.base G1.same G1.pre (r:=(fa b u).bind λds M=>g d ds M) L) cb;rw[hs] at w ⊢;refine NE (by show (Yp||(Fh cb (Bj es X.env)).any (·.1))=Yp;rw[U] <;> rfl) (Lu ?_);exact bi w λus s2 ⟨vs,H2,c,n,ds,M,I2,rv,i,q,B,z,y,E⟩=>hm aa Y H2 s2 c n M v a vs us d ds Q I2 i G1.val (am.mono z y _ _ G1.rep) rv B (qW.base z y E)
def nR (T:Ek)(g:D->Ab D->ag->ax D)(fo:DE):DE:=λG S=>(fo G S).bind λa U=>if (pi a U == Aa T)=Vp then g a [] U else .bad
theorem HY (A:Wg T)(slot:Slot T name id)(N:typeOf (.builtin id)=pure (.type "method_descriptor"))(hT:T = "list" \/ T = "dict" \/ T = "int" \/ T = "str")(hm:sy X id g)(w:PE X o (tD X fo))
  (U:Gc o name X.env (eval o X.env)=eval o X.env:=by rfl) (G:(cz.endLine == cb.line)=true:=by rfl):PE X (.Call (.Attribute o name cz) [] [] cb) (tD X (nR T g fo)):=by
 intro aa s Y H Q I h;obtain⟨P,J,l,S,r,L,u⟩:=h;refine wpAny_Call_method0_late U G (bi (zO w I r L u) λj q ⟨v,p,M,y,d,B,G1,O⟩=>?_);obtain⟨z,C⟩:=U8 O;obtain⟨k,E⟩:=G8 G1.inv G1.val (G9 G1.rel G1.rep z hT);exact⟨T,id,A,slot,N,k,E,NE rfl (PySem.evalArgs_none (hm aa Y p q M y B v j [] [] d [] Q G1.inv G1.rel G1.val G1.rep .nil .nil (qW.base G1.same G1.pre C)))⟩
def wZ:D->Ab D->ag->ax D:=λa ds S=>match a,ds with
 |.loc i,[d]=>match S[i]? with
  |some (.lst xs)=>if xs.length<bb then .ok .non (S.set i (.lst (xs++[d]))) else .bad
  |_=>.bad
 |_,_=>.bad
inductive ApV (a:D)(ds:Ab D)(S:ag):Prop
 |bad (e:wZ a ds S=.bad)
 |of (i:Aj) (d:D) (xs:Ab D) (ea:a=.loc i) (ed:ds=[d]) (hS:S[i]? = Aa (.lst xs)) (hl:xs.length<bb) (e:wZ a ds S=.ok .non (S.set i (.lst (xs++[d]))))
def apV (a:D)(ds:Ab D)(S:ag):ApV a ds S:=by
 cases a with
 |loc i =>
  cases ds with
  |nil=>exact .bad rfl
  |cons d ds =>
   cases ds with
   |cons _ _=>exact .bad rfl
   |nil =>
    have z:wZ (.loc i) [d] S=(match S[i]? with|some (.lst xs)=>(if xs.length<bb then .ok .non (S.set i (.lst (xs++[d]))) else .bad)|_=>.bad):=rfl;cases U:S[i]? with
    |none=>rw[U] at z;exact .bad z
    |some m =>
     rw[U] at z;cases m with
     |lst xs =>
      by_cases G:xs.length<bb;exact .of i d xs Z Z U G (z.trans (Au G));exact .bad (z.trans (AT G))
     |_=>exact .bad z
 |_=>exact .bad rfl
def JI:sy X "list.append" wZ:=by
 intro aa Y H s P J S v B vs us a ds Q I r j p G N U;cases apV a ds S with
 |bad e=>rw[e] at U;exact Am U
 |of i d xs E M O y e =>
  rw[e] at U;subst E M;obtain⟨w,u,rfl,rfl,L,A⟩:=wW N G;simp only[am] at p;obtain⟨b,rfl,q⟩:=p;obtain⟨C,z,t⟩:=r.at' i b _ q O;refine JM aa s Y H (.ref b) [w] B [u] Q I j (.cons A .nil) ⟨b,C,w,rfl,rfl,z,by rw[<- t.length,<- zP];exact y,?_⟩;exact xr U (r.put (m':=.lst (xs++[d])) q O (by intro z;cases z) ⟨C++[w],qX,t.append (.cons L .nil)⟩) (by simp only[am])
end
noncomputable def IG:D->Al ku
 |.int i=>Aa (.inl i)
 |.str x=>Aa (.inr x)
 |_=>Zw
def qAl (U:Ab (ku × D))(k:ku):Al D:=(U.find? λG=>decide (G.1=k)).map (·.2)
def qCj (U:Ab (ku × D))(k:ku)(v:D):Ab (ku × D):=
 if (U.any λG=>decide (G.1=k))=Vp then U.map (λG=>if G.1=k then (G.1,v) else G) else U++[(k,v)]
section
variable {X:Cx}{o i e:Bl}{ai:Ea}
def cY:DE:=λ_ S=>.ok .dct0 S
def NV:PE X (.Dict [] [] ai) (tD X cY):=by refine rh FC λY H Q ⟨P,J,B,S,r,C,U⟩ p N=>?_;obtain⟨O,G⟩:=r.pure (o:=.dK []) N;refine U _ _ _ J O G (Bm _) ?_;simp only[am];exact⟨p,rfl,qX⟩
abbrev tI:G3:=BC
def qAQ (U:X.A.units+1<Fj):aS X (aO X tI):=qBs
def qE5:D->Ab D->ag->ax D:=λa ds S=>match a,ds with
 |.loc n,[i,x]=>match S[n]? with
  |some (.dct U)=>match IG i with
   |some k=>.ok ((qAl U k).getD x) S
   |none=>.bad
  |_=>.bad
 |_,_=>.bad
def m6:D->Ab D->ag->ax D:=λa ds S=>match a,ds with
 |.lst xs,[.bl k]=>match xQ xs with
  |some U=>.ok (.int (U.countP (· == k):Aj)) S
  |none=>.bad
 |_,_=>.bad
noncomputable def r8 (k:Ar):Ab Ar->Al Aj
 |[]=>Zw
 |b::r=>if b=k then Aa 0 else (r8 k r).map (· + 1)
def m8:D->Ab D->ag->ax D:=λa ds S=>match a,ds with
 |.lst xs,[.bl k]=>match (xQ xs).bind (r8 k) with
  |some j=>.ok (.int j) S
  |none=>.bad
 |_,_=>.bad
def iK (k:Ar){bs:Ab Ar}{y:Ac}(N:y∈(bs.map Fa).toArray):AaO y (.bool k) (Ua k y):=by
 have G:y∈bs.map Fa:=by rwa [List.mem_toArray] at N
 obtain⟨b,_,rfl⟩:=Cf.mp G;exact λU w A E s Q h=>Aa9 b k U w E Q h
def QQ (k:Ar)(bs:Ab Ar):(bs.map Fa).countP (Ua k)=bs.countP (· == k):=by rw[List.countP_map];rfl
def VT {β:Type}{r:ax β}{Ok:β->ag->Prop}(e:r=.bad)(h:qL X P J r Ok):Fz:=by rw[e] at h;exact h
inductive BlV (a:D)(ds:Ab D):Prop
 |no (h:∀ (g:Ab D->Ar->ax D),(match a,ds with|.lst xs,[.bl k]=>g xs k|_,_=>.bad)=.bad)
 |of (xs:Ab D) (k:Ar) (ea:a=.lst xs) (ed:ds=[.bl k])
def blV (a:D)(ds:Ab D):BlV a ds:=by
 cases a with
 |lst xs =>
  cases ds with
  |nil=>exact .no λ_=>rfl
  |cons d ds =>
   cases ds with
   |cons _ _=>cases d <;> exact .no λ_=>rfl
   |nil =>
    cases d with
    |bl k=>exact .of xs k rfl rfl
    |_=>exact .no λ_=>rfl
 |_=>exact .no λ_=>rfl
def F0:sy X "list.count" m6:=by
 intro aa Y H s P J S v E vs us a ds Q I r z p N C U;cases blV a ds with
 |no h=>exact(VT (X:=X) (r:=m6 a ds S) (h _) U).elim
 |of xs k M w =>
  subst M w;have U:qL X P J (match xQ xs with|some G=>ax.ok (D.int (G.countP (· == k):Aj)) S|none=>.bad) (gy X P J Q):=U;cases B:xQ xs with
  |none=>rw[B] at U;exact Am U
  |some G =>
   rw[B] at U;obtain⟨c,u,rfl,rfl,L,q⟩:=wW C N;simp only[am] at L;subst L;cases (show u=Fa k from q);obtain⟨b,l,ah,n,rfl,sq,t,O,T,g,_⟩:=uB I r p;cases (show E=Cc b from z);have A:=u0 B t O;subst A;refine Jz PySem.F.slot_list_count ⟨_,T,rfl⟩ PySem.F.entry_list_count (PySem.F.args_list_count_2 _ _) (PySem.SeqAt.list_countAt b (G.map Fa).toArray n Zw #[] (.bool k) (Ua k)) ⟨T,λy j=>(iK k j).at _ _,?_⟩;refine⟨.int _,H,I.tok _,⟨_,rfl⟩,?_⟩;rw[show (G.map Fa).toArray.toList=G.map Fa from rfl,QQ];exact xr U r (by simp only[am])
theorem ZP:∀ {bs:Ab Ar} {j:Aj},r8 k bs=Aa j->∃ h:j<bs.length,bs[j]=k/\∀ m (hm:m<bs.length),m<j->bs[m]≠k
 |[],j,h=>by cases h
 |b::r,j,h=>by
  unfold r8 at h;by_cases U:b=k;rw[Au U] at h;cases h;exact⟨by simp,by simpa using U,λm hm z=>absurd z (Nat.not_lt_zero _)⟩
  .rw[AT U] at h;obtain⟨i,O,rfl⟩:=Eo.mp h;obtain⟨C,N,G⟩:=ZP O;refine⟨by simp;lia,by simpa using N,λm hm B=>?_⟩;cases m with
   |zero=>simpa using U
   |succ m=>simpa using G m (by simp at hm;lia) li
def F1:sy X "list.index" m8:=by
 intro aa Y H s P J S v l vs us a ds Q I r rv p O L U;cases blV a ds with
 |no h=>exact(VT (X:=X) (r:=m8 a ds S) (h _) U).elim
 |of xs k c ed =>
  subst c ed;have U:qL X P J (match (xQ xs).bind (r8 k) with|some j=>ax.ok (D.int j) S|none=>.bad) (gy X P J Q):=U;cases C:(xQ xs).bind (r8 k) with
  |none=>rw[C] at U;exact Am U
  |some j =>
   rw[C] at U;obtain⟨A,hb,g⟩:=Eg.mp C;obtain⟨vx,ux,rfl,rfl,M,qx⟩:=wW L O;simp only[am] at M;subst M;cases (show ux=Fa k from qx);obtain⟨b,ws,ah,n,rfl,sq,t,G,w,hl,q⟩:=uB I r p;cases (show l=Cc b from rv);have B:=u0 hb t G;subst B;obtain⟨h1,u,z⟩:=ZP g;have N:A.length<=sizeLine:=by have e1:=t.length;have x:=G.length;rw[Ao] at x;rw[zP] at q;lia
   refine Jz PySem.F.slot_list_index ⟨_,w,Z⟩ PySem.F.entry_list_index (PySem.F.args_list_index_2 _ _) (AaC b (A.map Fa).toArray n (.bool k) (Ua k) (λy hy=>iK k hy) j (by simpa using h1) ?_ ?_ ?_) ⟨w,?_⟩;rw[El] at N;lia;simp[Ua,u]
   .intro m hm T;have E:m<A.length:=by simpa using hm
    have:=z m E T;simp[Ua,this]
   .exact⟨.int _,H,I.tok _,⟨_,Z⟩,xr U r (by simp only[am])⟩
end
noncomputable def jA (t:DT)(f:DS):Aj->qF->ag->ik
 |0,_,_=>.bad
 |n+1,N,S=>(t N S).toS N λb O=>if b then (match f N O with
   |.nx U G=>jA t f n U G
   |.ct U G=>jA t f n U G
   |.bk U G=>.nx U G
   |o=>o) else .nx N O
def VW:∃ n:Aj,n=2 ^ 60:=⟨_,Z⟩
def big:Aj:=Lx VW
def HE:big=2 ^ 60:=Le VW
def dU (t:DT)(f:DS):DS:=λU S=>jA t f big U S
section
variable {X:Cx}{ai:Ea}
inductive _y (X:Cx)(P:Hp)(J : Ab Af)(t:DT)(f:DS)(D:Ends)(m:Aj)(Y : _L.St)(H:Hp):Prop
 |mk (P2:Hp) (J2:J9) (env2:qF) (S2:ag) (r:bf X.K H P2 J2 S2) (re:zK X.K P2 J2 Y env2) (e1:qO P P2) (e2:J<+:J2) (af:zI X P2 J2 (jA t f m env2 S2) D):_y X P J t f D m Y H
def B2 {f:DS}(hp:Ox (As X.prog X.w) X.A X.env X.xe)(h:PT X c (ny X t))(hb:jq X n (ir X f)):PS X (.While c n [] ai) (ir X (dU t f)):=
 _f (FG hp h hb) λD Y H ⟨P,J,ac,S,r,re,af⟩=>by
  refine⟨_y X P J t f D,⟨big,P,J,ac,S,r,re,qO.refl _,Bm _,af⟩,?_⟩;rintro m Y2 H2 ⟨P2,a,U,C,r2,B,i,g,A⟩;cases m with
  |zero=>exact Am A
  |succ m =>
   have O:=yA A;refine⟨P2,a,U,C,r2,B,?_⟩;cases q:t U C with
   |bad=>rw[q] at O;exact O
   |ex c x S'=>rw[q] at O;exact O
   |ok b y =>
    rw[q] at O;intro H3 P3 l e I M;have G:zI X P3 l (if b then (match f U y with|.nx U C=>jA t f m U C|.ct U C=>jA t f m U C|.bk U C=>.nx U C|o=>o) else .nx U y) D:=zI.base I M O;cases b with
    |false=>exact G Y2 H3 P3 l e (B.mono I M) (qO.refl _) (Bm _)
    |true =>
     simp only[Dr] at G ⊢;refine⟨_y X P J t f D m,λY' H' w=>⟨m,Fv _,w⟩,P3,l,U,y,e,B.mono I M,?_⟩;cases T:f U y with
     |bad=>rw[T] at G;exact G
     |ex c x N E=>rw[T] at G;exact G
     |rt d4 E=>rw[T] at G;exact G
     |bk N E=>rw[T] at G;exact G
     |nx N E =>
      rw[T] at G;exact λY5 H5 u p k L z j=>⟨u,p,N,E,k,L,(i.trans I).trans z,(g.trans M).trans j,zI.base z j G⟩
     |ct N E =>
      rw[T] at G;exact λY5 H5 u p k L z j=>⟨u,p,N,E,k,L,(i.trans I).trans z,(g.trans M).trans j,zI.base z j G⟩
end
section
variable {X:Cx}{a b c e:Bl}{ai:Ea}{fe:DE}
def qFJ (i:Aj)(g:G2)(fe:DE):DS:=λU S=>match U[i]? with
 |some (Aa x)=>(fe U S).toS U λy G=>(g x y G).toS U λz N=>.nx (U.set i (Aa z)) N
 |_=>.bad
noncomputable def R4 (i j k:Aj)(ac:qF)(S1:ag):Ab D->ik
 |[x,y,z]=>.nx (((ac.set i (Aa x)).set j (Aa y)).set k (Aa z)) S1
 |_=>.bad
def tU (i j k:Aj)(f:DA):DS:=λU S=>(f U S).toS U λds G=>R4 i j k U G ds
def LH {i j k:Aj}{f:DA}{L T l p:Ea}{kt k2 pt2}(hc:X.calm=Vp) (w:X.N.Nodup) (ha:PA X [a,b,c] (kz X f)) (hi:X.N[i]? = Aa x:=by rfl) (hj:X.N[j]? = Aa y:=by rfl) (hk:X.N[k]? = Aa z:=by rfl) (u:i≠j:=by decide) (g:i≠k:=by decide) (t:j≠k:=by decide)
  (hx:X.env.scope.names.lookup x=Aa .local:=by rfl) (m:X.env.scope.names.lookup y=Aa .local:=by rfl) (hz:X.env.scope.names.lookup z=Aa .local:=by rfl)
  (hw:Ic [.Tuple [.Name x L,.Name y T,.Name z l] kt p] (.Tuple [a,b,c] k2 pt2) X.env=pure (Aa [x,y,z]):=by rfl)
  (hs:Ie [.Tuple [.Name x L,.Name y T,.Name z l] kt p] (.Tuple [a,b,c] k2 pt2) ai.line X.env=pure false:=by rfl) :
  PS X (.Assign [.Tuple [.Name x L,.Name y T,.Name z l] kt p] (.Tuple [a,b,c] k2 pt2) ai) (ir X (tU i j k f)):=by
 intro aa s Y H D I h;obtain⟨P,J,ac,S,r,re,af⟩:=h;rw[Zy];refine Ad (Ig ?_);rw[hs];refine Ad (An ?_);rw[AT aC];refine Ad (Tuple_ (bi (sQ ha I r re af _) λus O ⟨vs,E,P1,J1,ds,S1,I1,G,r1,M,U,e1,e2,q⟩=>?_))
 match ds,U,q with
 |[],_,q=>exact Am q
 |[_],_,q=>exact Am q
 |[_,_],_,q=>exact Am q
 |_::_::_::_::_,_,q=>exact Am q
 |[d1,d2,d3],U,q =>
  obtain⟨v1,t1,rfl,p1,U⟩:=U.cons_inv;obtain⟨v2,t2,rfl,p2,U⟩:=U.cons_inv;obtain⟨v3,t3,rfl,p3,U⟩:=U.cons_inv;cases U.nil_inv;obtain⟨N,B,C,rfl,q1,q2,q3⟩:∃ N B C,us=[N,B,C]/\qT v1 N/\qT v2 B/\qT v3 C:=by
   cases G with
   |cons z1 G=>cases G with
    |cons z2 G=>cases G with
     |cons z3 G=>cases G;exact⟨_,_,_,rfl,z1,z2,z3⟩
  refine Dj ?_ (by show 3<=sizeLine;decide);have I2:Inv X aa Y E { O with heap:=O.heap.push { cls:=.type "tuple",data:=.seq [N,B,C].toArray } }:=I1.kept (t':=O.toks) λb o e=>Ak _ e;rw[hw];refine Ad (An ?_);show a8 X (do rule "assign.swapped-stores";let items <- unpackItems (.ref O.heap.objs.size) 3 Zw;Od [λv=>Lp X.env z v,λv=>Lp X.env y v,λv=>Lp X.env x v] items.reverse;pure Xr) _ _ _;refine Ad (KT (Ad (Xs (items:=#[N,B,C]) (I.ok.hd hc) (Ul O.heap _) λh' A=>?_)));have I3:=I2.kept (h':=h') (t':=O.toks) λb o e=>A b o (Cm (Bh e)) e;show Ap _ _ (Od [λv=>Lp X.env z v,λv=>Lp X.env y v,λv=>Lp X.env x v] [C,B,N] >>= λ_=>pure Xr) _ _ _;refine Ad (Iq (No (yU I3 w hk (.inl hz) q3 (λs2 I4=>?_) (.inr hz))));refine Iq (No (yU I4 w hj (.inl m) q2 (λs3 I5=>?_) (.inr m)));refine Iq (No (yU I5 w hi (.inl hx) q1 (λs4 n=>Qy (An ?_)) (.inr hx)));rw[Qz _ _ (Dm u),Qz _ _ (Dm g),Qz _ _ (Dm t)] at n;exact⟨_,E,n,q _ E P1 J1 r1 (((M.set i p1).set j p2).set k p3) (qO.refl _) (Bm _)⟩
def wN (xs:Ab D)(lo U:Al Aq):Ab D:=(xs.drop (_H.dj xs.length 0 lo)).take (_H.dj xs.length xs.length U-_H.dj xs.length 0 lo)
abbrev DO:=qF->ag->ax (Al Aq)
def OkO (X:Cx)(P:Hp)(J : Ab Af)(Q:Al Aq->Hp->Prop)(o:Al Aq)(O:ag):Prop:=∀ U G N,bf X.K U G N O->qO P G->J<+:N->Q o U
def xt (X:Cx)(f:DO):TO:=λY H Q=>∃ P J U S,bf X.K H P J S/\zK X.K P J Y U/\qL X P J (f U S) (OkO X P J Q)
def zM:DO:=λ_ S=>.ok Zw S
def zF (f:DE):DO:=λG S=>(f G S).bind λd U=>match d with
 |.int i=>.ok (Aa i) U
 |_=>.bad
def LB:PO X Zw (xt X zM):=λaa s Y H Q I ⟨P,J,N,S,r,G,U⟩=>RD aa s Y H Q I (U H P J r (qO.refl _) (Bm _))
def LC (E:PE X e (tD X fe)):PO X (Aa e) (xt X (zF fe)):=by
 intro aa s Y H Q I h;obtain⟨P,J,G,S,r,M,C⟩:=h;refine RE (te:=tD X fe) E aa s Y H Q I ⟨P,J,G,S,r,M,?_⟩;have U:qL X P J ((fe G S).bind λd N=>match d with|.int i=>.ok (Aa i) N|_=>.bad) (OkO X P J Q):=C;cases q:fe G S with
 |bad=>rw[q] at U;exact U
 |ex c x j=>rw[q] at U;exact U
 |ok d N =>
  rw[q] at U;intro v L T z A O w B;cases d with
  |int i=>exact⟨i,xU B,U L T z A O w⟩
  |_=>exact Am U
def qJ.cut {K:Ag}(r:qJ K P J ds vs)(lo U:Al Aq):qJ K P J (wN ds lo U) (fY vs lo U):=by unfold wN fY;rw[r.length];exact(r.drop _).take _
def xg (d:D)(lo U:Al Aq)(S:ag):ax D:=match d with
 |.lst xs=>.ok (.lst (wN xs lo U)) S
 |.loc i=>match S[i]? with
  |some (.lst xs)=>.ok (.lst (wN xs lo U)) S
  |_=>.bad
 |.tup xs=>.ok (.tup (wN xs lo U)) S
 |_=>.bad
def nv (fe:DE)(B C:DO):DE:=λU S=>(fe U S).bind λd G=>(B U G).bind λlo L=>(C U L).bind λN O=>xg d lo N O
end
end _D
namespace _D
open _L _H
section
variable {prog:Ba}{w:Bu}{A:Bp}{E:J7}{s:Ai}
theorem fR {lo U:Al Aq}{Q:J7}(Y:Tc s.heap t items)(hs:s.heap.IsSliceOf N B C .none)(pl:Pk B lo)(T:Pk C U)
  (hw:dj items.size 0 lo=0/\dj items.size items.size U=items.size) (h:Q (.ref t) s):Ap (As prog w) A (Og (.ref t) (.ref N)) Q E s:=by
 obtain⟨L,O,G,_⟩:=id hs;have J:s.TypeIs (.ref N) "slice":=⟨L,O,G⟩;unfold Og
 try with_reducible refine Df ?_
 first|refine Ad (An ?_)|skip
 refine Ad (Rf Y.typeIs aC ?_);refine Ad (Dv (name:=Fb "__getitem__") Y.typeIs Fi
  (Dw Fi Y.typeIs Vv ?_ (Wy _ _)))
 show Ap _ _ (Qt (.ref t) >>= _) _ _ s;refine Ad (tupleItemsOf_ Y ?_);refine Ad (Lr J ?_);rw[Au aC];refine Ad (kQ hs pl T ?_);show Ap _ _ (if (((dj items.size 0 lo:Aj):Aq) == 0&&(1:Aq) == 1&&(dj items.size items.size U-dj items.size 0 lo) == items.size)=Vp then _ else _) _ _ s;rw[hw.1,hw.2,Au aA];unfold Builtin.Tuple.tupleIsExact;refine Ad (Ad (Lr Y.typeIs (An ?_)));rw[Au aC];exact Ad (KT (An ⟨_,Z,An h⟩))
end
section
variable {X:Cx}{e:Bl}{fe:DE}{ai p2:Ea}
def qC0 (X:Cx):V->Al Aq->Al Aq->Hp->VK->Prop:=λx lo Y H Q=>∃ P J S d,bf X.K H P J S/\am X.K P J d x/\qW X P J (xg d lo Y S) Q
def qC4:zt X (qC0 X):=by
 intro w s Y H x v j M lo G y Q I L A pl T h;obtain⟨P,J,S,d,r,p,N⟩:=h;cases d with
 |lst O =>
  simp only[am] at p;obtain⟨a,U,rfl,q,t⟩:=p;exact W3 w s Y H _ v j M lo G y Q I L A pl T ⟨a,U,rfl,(w9 r.sub q).l,λb B=>wQ r B (qJ.cut t lo G) N⟩
 |loc i =>
  obtain⟨O,u,N⟩:=bW (X:=X) (f:=λO=>ax.ok (D.lst (wN O lo G)) S) N;simp only[am] at p;obtain⟨a,rfl,q⟩:=p;obtain⟨U,z,t⟩:=r.at' i a _ q u;exact W3 w s Y H _ v j M lo G y Q I L A pl T ⟨a,U,rfl,kr.of z,λb B=>wQ r B (qJ.cut t lo G) N⟩
 |tup O =>
  have o:=p;simp only[am] at p;obtain⟨a,U,rfl,q,t⟩:=p;by_cases E:dj U.length 0 lo=0/\dj U.length U.length G=U.length
  .cases L;obtain⟨g,c,k,m⟩:=I.tuple (wJ r.sub q);have C:g.toArray.size=U.length:=by rw[Bk];exact c.length.symm
   refine⟨"tuple",_,Fi.lookup,k.typeIs,fR k A pl T (by rw[C];exact E) ⟨.ref a,H,I,Z,xr N r ?_⟩⟩;have e:wN O lo G=O:=by unfold wN;rw[t.length,E.1,E.2,<- t.length];simp
   rw[e];exact o
  .exact qAT w s Y H _ v j M lo G y Q I L A pl T ⟨a,U,Z,wJ r.sub q,E,λb B=>bY r B (qJ.cut t lo G) N⟩
 |_=>exact Am N
def PP {lo C:Al Bl}(b:PE X e (tD X fe))(a:PO X lo (xt X I))(s:PO X C (xt X T)):PE X (.Subscript e (.Slice lo C Zw p2) ai) (tD X (nv fe I T)):=
 rh (oS qC4 b a s) λY H Q ⟨P,J,O,S,r,g,h⟩=>by
  refine⟨P,J,O,S,r,g,?_⟩;have N:qL X P J ((fe O S).bind λd E=>(I O E).bind λlo L=>(T O L).bind λC B=>xg d lo C B) (gy X P J Q):=h;cases q:fe O S with
  |bad=>rw[q] at N;exact N
  |ex c x m=>rw[q] at N;exact N
  |ok d E =>
   rw[q] at N;intro v H1 p f r1 o y rp;refine⟨p,f,O,E,r1,g.mono o y,?_⟩;have U:qL X p f ((I O E).bind λlo L=>(T O L).bind λC B=>xg d lo C B) (gy X p f Q):=qW.base o y N;cases M:I O E with
   |bad=>rw[M] at U;exact U
   |ex c x m=>rw[M] at U;exact U
   |ok l L =>
    rw[M] at U;intro H2 k A i w z;refine⟨k,A,O,L,i,(g.mono o y).mono w z,?_⟩;have G:qL X k A ((T O L).bind λC B=>xg d l C B) (gy X k A Q):=qW.base w z U;cases j:T O L with
    |bad=>rw[j] at G;exact G
    |ex c x m=>rw[j] at G;exact G
    |ok u B =>
     rw[j] at G;intro H3 P3 J3 r3 t n;exact⟨P3,J3,B,d,r3,am.mono (w.trans t) (z.trans n) _ _ rp,qW.base t n G⟩
def bI (d:D)(S:ag):ax D:=match d with
 |.int i=>if i.natAbs.log2<1920 then .ok (.str (toString i)) S else .bad
 |.str x=>if x.length<=bb then .ok (.str x) S else .bad
 |_=>.bad
set_option tactic.hygienic true in
def CD (L:PE X e (tD X fe)):PE X (.FormattedValue e (-1) Zw ai) (tD X (d1 bI fe)):=by
 intro k s Y H Q I h;obtain⟨P,J,A,S,r,T,B⟩:=h;refine FormattedValue_plain (bi (zO L I r T B) λM z ⟨v,O,j,u,d,E,G1,G⟩=>?_);have p:=G1.rep;have C:=G1.val;have U:=qW.base G1.same G1.pre G;cases d with
 |int i =>
  simp only[bI] at U;split at U;rename_i N;simp only[am] at p;subst p;obtain⟨t,rfl⟩:=C;exact formatField_int_small N ⟨.str _,O,G1.inv.tok _,⟨_,rfl⟩,xr U G1.rel (by simp only[am])⟩;exact Am U
 |str x =>
  simp only[bI] at U;split at U;rename_i N;simp only[am] at p;subst p;obtain⟨t,rfl⟩:=C;exact formatField_str (λy w=>⟨.str _,O,G1.inv.tok _,⟨_,rfl⟩,xr U G1.rel (by simp only[am])⟩) (by rw[<- zP];exact N);exact Am U
 |_=>exact Am U
noncomputable def bO (Q:Ah):Ab DE->qF->ag->ax D
 |[],_,S=>if Q.length<=bb then .ok (.str Q) S else .bad
 |p::J,Y,S=>(p Y S).bind λd U=>match d with
  |.str y=>if (Q++y).length<=bb then bO (Q++y) J Y U else .bad
  |_=>.bad
def PJ (X:Cx)(es:Ab Bl)(fs:Ab DE):Prop:=
 ∀ (U:Ah) (N:J0) (s:Ai) (Y : _L.St) (H P:Hp) (J : Ab Af) (G:qF) (S:ag) (Q:VK),Inv X N Y H s->bf X.K H P J S->zK X.K P J Y G->qW X P J (bO U fs G S) Q ->
  a8 X (joinParts U (evalEach es X.env)) (EP X N Y Q) X.xe s
def OV:PJ X [] []:=by intro G O s Y H P J B S Q I r C U;obtain⟨N,U⟩:=xD (X:=X) U;exact joinParts_nil ⟨.str _,H,I.tok _,⟨_,rfl⟩,xr U r (by simp only[am])⟩ (by rw[<- zP];exact N)
def RB {fs:Ab DE}(j:PE X e (tD X fe))(L:PJ X es fs):PJ X (e::es) (fe::fs):=by
 intro G B s Y H P J O S Q I r T C;have C:qL X P J ((fe O S).bind λd N=>match d with|.str y=>if (G++y).length<=bb then bO (G++y) fs O N else .bad|_=>.bad) (gy X P J Q):=C;refine joinParts_cons (bi (zO j I r T C) λk M ⟨v,w,E,A,d,N,G1,U⟩=>?_);cases d with
 |str y =>
  have p:=G1.rep;simp only[am] at p;subst p;obtain⟨t,rfl⟩:=G1.val;obtain⟨z,U⟩:=xD (X:=X) U;exact⟨by rw[<- zP];exact z,L (G++y) B M Y w E A O N Q G1.inv G1.rel G1.env (qW.base G1.same G1.pre U)⟩
 |_=>exact Am U
def cZ (fs:Ab DE):DE:=λQ S=>bO Pa fs Q S
def NY {U G:Bl}{N:Ab Bl}{fs:Ab DE}(h:PJ X (U::G::N) fs):PE X (.JoinedStr (U::G::N) ai) (tD X (cZ fs)):=by intro O s Y H Q I C;obtain⟨P,J,L,S,r,B,T⟩:=C;exact JoinedStr_many (h Pa O s Y H P J L S Q I r B T)
end
end _D
namespace _D
open _L
variable {J:J9}{N ps:Y8}{ys ah ds:Ab D}{cu:Ab Du}{xs:Ab V}{Q:J7}{I C:Af}{m:Aj}{dn:Aj->Al (Aj->Ac)}{tp tq:Ar}{h':Bc}{yr:Bc->Prop}{items:Bs Ac}{T id:Ek}{fd:Ft}{R:It->Hp->Prop}{S:ag}
def xP (tp:Ar)(h:Bc)(it l:Af)(k:Aj):Prop:=if tp then h.IsTupleIter it l k else h.IsListIter it l k
def yV (tp:Ar)(h:Bc)(l:Af)(xs:Bs Ac):Prop:=if tp then h.IsTuple l xs else h.IsList l xs
def xP.keep {it l:Af}(x:xP tp h it l k)(q:∀ o,h.get? it=Aa o->h'.get? it=Aa o):xP tp h' it l k:=by cases tp <;> (obtain⟨o,e,r⟩:=x;exact⟨o,q o e,r⟩)
def yV.keep {l:Af}{xs:Bs Ac}(x:yV tp h l xs)(q:∀ o,h.get? l=Aa o->h'.get? l=Aa o):yV tp h' l xs:=by cases tp <;> (obtain⟨o,e,r⟩:=x;exact⟨o,q o e,r⟩)
def xP.there {it l:Af}(x:xP tp h it l k):∃ o,h.get? it=Aa o/\∀ v,o.data≠.cell v:=by cases tp <;> (obtain⟨o,e,_,d⟩:=x;exact⟨o,e,λv z=>by rw[d] at z;cases z⟩)
section
variable {prog:Ba}{w:Bu}{A:Bp}{E:J7}{s:Ai}
theorem F7 {it t:Af}(Y:s.heap.IsTupleIter it t i)(B:s.heap.IsTuple t items)(U:items[i]? = Aa x)
  (O:∀ h',h'.IsTupleIter it t (i+1)->Ew it s.heap h'->Q x { s with heap:=h' }) : Ap (As prog w) A (Co (.ref it)) Q E s:=by
 obtain⟨o,e,c,d⟩:=id Y;obtain⟨u,G,_,m,L⟩:=B;unfold Co;refine Ad (Dv (name:=Fb "__next__") Y.typeIs Jb (Dw Jb Y.typeIs Pz ?_ (Pq _)));show Ap _ _ (field (.ref it) 0 >>= _) _ _ s;refine Ad (Dt e d (x:=.ref t) rfl ?_);show Ap _ _ (if (Cc t == Ei)=Vp then _ else _) _ _ s;rw[AT (show ¬ ((Cc t == Ei)=Vp) from Es)];show Ap _ _ (field (.ref it) 1 >>= _) _ _ s;refine Ad (Dt e d (x:=.int i 0) Z ?_);show Ap _ _ (seqItems? (.ref t) >>= _) _ _ s;refine Ad (Gx G L ?_);simp only[Fk,U];refine Ad (Gj e d aA (An ⟨x,Z,An (O _ ⟨_,Dx _ e (IN (Hs d _)),(Rk ..).trans c,?_⟩ (Hg ..))⟩));rw[Hs d];simp[Ju]
theorem oF {it t:Af}{Q:J7}(U:A.handled=Zw)(Y:s.heap.IsTupleIter it t i)(H:s.heap.IsTuple t items)(O:items[i]? = Zw)
  (G:∀ h' e,Ur it s.heap h'->(∃ o,h'.get? e=Aa o/\o.cls=.type "StopIteration")->E (.ref e) { s with heap:=h' }) : Ap (As prog w) A (Co (.ref it)) Q E s:=by
 obtain⟨o,e,c,d⟩:=id Y;obtain⟨u,L,_,m,B⟩:=H;unfold Co;refine Ad (Dv (name:=Fb "__next__") Y.typeIs Jb (Dw Jb Y.typeIs Pz ?_ (Pq _)));show Ap _ _ (field (.ref it) 0 >>= _) _ _ s;refine Ad (Dt e d (x:=.ref t) rfl ?_);show Ap _ _ (if (Cc t == Ei)=Vp then _ else _) _ _ s;rw[AT (show ¬ ((Cc t == Ei)=Vp) from Es)];show Ap _ _ (field (.ref it) 1 >>= _) _ _ s;refine Ad (Dt e d (x:=.int i 0) Z ?_);show Ap _ _ (seqItems? (.ref t) >>= _) _ _ s;refine Ad (Gx L B ?_);simp only[Fk,O];refine Ad (KT (Ad (Gj e d aA ?_)));show Ap _ _ (Zi (.type "StopIteration") [] >>= _) _ _ _;refine Ad ?_;simp only[Zi,newTuple];refine Ad (Dj ?_ (by size_fits));refine Ad (m:=Lo _ _) (Ka (a:=Ei) (by first|rfl|(simp only[Lo];rfl)) (Dj ?_ (by size_fits)));simp only[sB];refine Ad (Wh ?_)
 first|rw[show A.in1.handled=Zw from U]|rw[U]
 exact Ad (An (Us (G _ _ (((Hg ..).extBut.push _).push _) ⟨_,Bf _ Z,Z⟩)))
def oC {it l:Af}{xs:Bs Ac}(Y:xP tp s.heap it l k)(G:yV tp s.heap l xs)(U:xs[k]? = Aa x)
  (O:∀ h',xP tp h' it l (k+1)->Ew it s.heap h'->Q x { s with heap:=h' }) : Ap (As prog w) A (Co (.ref it)) Q E s:=by
 cases tp with
 |false=>exact wpAny_nextOf_list_item Y G U O
 |true=>exact F7 Y G U O
def mJ {it l:Af}{xs:Bs Ac}{Q:J7}(O:A.handled=Zw)(Y:xP tp s.heap it l k)(B:yV tp s.heap l xs)(G:xs[k]? = Zw)
  (U:∀ h' e,Ur it s.heap h'->(∃ o,h'.get? e=Aa o/\o.cls=.type "StopIteration")->E (.ref e) { s with heap:=h' }) : Ap (As prog w) A (Co (.ref it)) Q E s:=by
 cases tp with
 |false=>exact wpAny_nextOf_list_end O Y B G U
 |true=>exact oF O Y B G U
structure ZA (z I O i j:Af):Prop where
 Iz:I≠z
 Oz:O≠z
 iz:i≠z
 jz:j≠z
 IO:I≠O
 Ii:I≠i
 Ij:I≠j
 Oi:O≠i
 Oj:O≠j
 ij:i≠j
structure Off (z O i j a:Af):Prop where
 z:a≠z
 O:a≠O
 i:a≠i
 j:a≠j
abbrev GL (z O i j:Af)(h h':Bc):Prop:=∀ c o,c≠z->c≠O->c≠i->c≠j->h.get? c=Aa o->h'.get? c=Aa o
structure J_ (prog:Ba)(w:Bu)(i:Af)(d:Aj)(val:Aj->Al (Aj->Ac))(At:Bc->Aj->Prop)(iw:Bc->Prop):Prop where
 next:∀ {A:Bp} {E:J7} {s:Ai} {k:Aj} {x:Aj->Ac} {Q:J7},At s.heap k->iw s.heap->val k=Aa x->(∀ h',At h' (k+1)->Ew i s.heap h'->Q (x s.toks) { s with heap:=h',toks:=s.toks+d }) -> Ap (As prog w) A (Co (.ref i)) Q E s
 stop:∀ {A:Bp} {E:J7} {s:Ai} {k:Aj} {Q:J7},A.handled=Zw->At s.heap k->iw s.heap->val k=Zw->(∀ h' e,Ur i s.heap h'->(∃ o,h'.get? e=Aa o/\o.cls=.type "StopIteration")->E (.ref e) { s with heap:=h' }) -> Ap (As prog w) A (Co (.ref i)) Q E s
def HA (tp:Ar)(i a:Af)(xs:Bs Ac):J_ prog w i 0 (λk=>xs[k]?.map λx _=>x) (λh k=>xP tp h i a k) λh=>yV tp h a xs:=
 ⟨λG O Y U=>by
  obtain⟨x,e,rfl⟩:=Eo.mp Y;exact oC G O e U,λB G O Y U=>mJ B G O (Ku.mp Y) U⟩
abbrev _F (i:Af)(At:Bc->Aj->Prop):Prop:=∀ h h' k,At h k->(∀ o,h.get? i=Aa o->h'.get? i=Aa o)->At h' k
def MK {At:Bc->Aj->Prop}{iw:Bc->Prop}{k:Aj}{ys:Bs Ac}{x:Aj->Ac}{y p q:Ac}(ar:J_ prog w i d dn At iw)(kp:_F i At)(D:ZA z I O i j)(n:Off z O i j b)
  (hz:Qb s.heap z I O .none) (hI:Kk s.heap I (.ref i) (.ref j)) (hO:Kk s.heap O p q) (h1:At s.heap k) (h2:xP tq s.heap j b k) (ha:∀ h',Ew z s.heap h'->iw h') (hb:yV tq s.heap b ys) (hx:dn k=Aa x) (hy:ys[k]? = Aa y)
  (hQ:∀ h',Qb h' z I O (Ju s.heap.objs.size)->Kk h' O (x s.toks) y->At h' (k+1)->xP tq h' j b (k+1)->Kk h' s.heap.objs.size (x s.toks) y->h'.objs.size=s.heap.objs.size+1->GL z O i j s.heap h'->Q (.ref s.heap.objs.size) { s with heap:=h',toks:=s.toks+d }) :
  Ap (As prog w) A (Ih.«zip.__next__» ⟨[.ref z],[]⟩) (λfin s'=>∃ v,fin=.done (.ret v)/\Q v s') E s:=by
 show Ap _ _ (field (.ref z) 2 >>= _) _ _ _;refine Ad (Dt hz Z (x:=.bool Yp) Z ?_);show Ap _ _ (field (.ref z) 3 >>= _) _ _ _;refine Ad (Dt hz Z (x:=.ref I) Z (Ad (Gx hI Z ?_)));show Ap _ _ (Gn (.ref z) >>= _) _ _ _;refine Ad ?_;unfold Gn;refine Ad (Dt hz Z (x:=.none) Z (An ?_));simp only[Dr];refine Ad (KT (Ad (Dt hz Z (x:=.ref O) Z (Ad (Ix hz aA λg1 z1 U=>?_)))));replace z1:Qb g1 z I O .ellipsis:=z1;refine Ad ?_;simp only[Zj,sK,Mn,Np];refine Ad (Ad (Rn ?_));show Ap _ _ (Co (.ref i) >>= _) _ _ _;refine Ad (ar.next (kp _ g1 k h1 λo e=>U.extBut _ _ D.iz e) (ha g1 U) hx λg2 i2 B=>An ?_);have O2:Kk g2 O p q:=B.extBut _ _ D.Oi (U.extBut _ _ D.Oz hO);refine Ad (Gx O2 Z (Ad (Ov O2 λg3 O3 L=>Ad (Ut (An ?_)))));replace O3:Kk g3 O (x s.toks) q:=O3;refine Ad (Ad (Rn ?_));show Ap _ _ (Co (.ref j) >>= _) _ _ _;refine Ad (oC (h2.keep λo e=>L.extBut _ _ D.Oj.symm (B.extBut _ _ D.ij.symm (U.extBut _ _ D.jz e))) (hb.keep λo e=>L.extBut _ _ n.O (B.extBut _ _ n.i (U.extBut _ _ n.z e))) hy λg4 j4 M=>An ?_);have O4:Kk g4 O (x s.toks) q:=M.extBut _ _ D.Oj O3;refine Ad (Gx O4 Z (Ad (Ov O4 λY r u=>Ad (Ut (An (An ?_))))));replace r:Kk Y O (x s.toks) y:=r;refine Ad (Gx r Z (Ad (wpAny_newTuple ?_)));have sz:Y.objs.size=s.heap.objs.size:=by rw[u.1,M.1,L.1,B.1,U.1]
 have z5:Qb Y z I O .ellipsis:=u.extBut _ _ D.Oz.symm (M.extBut _ _ D.jz.symm (L.extBut _ _ D.Oz.symm (B.extBut _ _ D.iz.symm z1)));have k5:GL z O i j s.heap Y:=λc o G g a h e=>u.extBut _ _ g (M.extBut _ _ h (L.extBut _ _ g (B.extBut _ _ a (U.extBut _ _ G e))));have i5:At Y (k+1):=kp _ _ _ i2 λo e=>u.extBut _ _ D.Oi.symm (M.extBut _ _ D.ij (L.extBut _ _ D.Oi.symm e));have j5:xP tq Y j b (k+1):=j4.keep λo e=>u.extBut _ _ D.Oj.symm e;have zl:z<Y.objs.size:=Bh z5;show Ap _ _ (Mo (.ref z) (.ref Y.objs.size) >>= _) _ _ _;refine Ad ?_;unfold Mo;have z6:Qb (Y.push { cls:=.type "tuple",data:=.seq #[x s.toks,y] }) z I O .ellipsis:=Ak _ z5;refine Ad (Ix z6 aA λg7 t s7=>?_);replace t:Qb g7 z I O (Ju Y.objs.size):=t;refine Ix t aA λl f s8=>?_;replace f:Qb l z I O (Ju Y.objs.size):=f;have up:∀ c o,c≠z->Y.get? c=Aa o->l.get? c=Aa o:=λc o G e=>s8.extBut _ _ G (s7.extBut _ _ G (Ak _ e));have T8:Kk l Y.objs.size (x s.toks) y:=s8.extBut _ _ (Hl zl) (s7.extBut _ _ (Hl zl) (Bf _ Z));have H:l.objs.size=Y.objs.size+1:=by rw[s8.1,s7.1,Ep]
 rw[sz] at f T8 H;refine An ⟨_,Z,?_⟩;show Q (.ref Y.objs.size) _;rw[sz];exact hQ l f (up _ _ D.Oz r) (kp _ _ _ i5 λo e=>up _ o D.iz e) (j5.keep λo e=>up _ o D.jz e) T8 H λc o G g a h e=>up c o G (k5 c o G g a h e)
end
section
variable {prog:Ba}{w:Bu}{A:Bp}{E:J7}{s:Ai}
def MP {At:Bc->Aj->Prop}{iw:Bc->Prop}{k:Aj}{ys:Bs Ac}{p q:Ac}{Q:Fin->Ai->Prop}(hh:A.handled=Zw)(ar:J_ prog w i d dn At iw)(kp:_F i At)(D:ZA z I O i j)(f:Off z O i j b)
  (hz:Qb s.heap z I O .none) (hI:Kk s.heap I (.ref i) (.ref j)) (hO:Kk s.heap O p q) (h1:At s.heap k) (h2:xP tq s.heap j b k) (ha:∀ h',Ew z s.heap h'->iw h') (hb:yV tq s.heap b ys) (u:dn k=Zw\/ys[k]? = Zw)
  (hE:∀ h' e tk,GL z O i j s.heap h'->(∃ o,h'.get? e=Aa o/\o.cls=.type "StopIteration")->E (.ref e) { s with heap:=h',toks:=tk }) : Ap (As prog w) A (Ih.«zip.__next__» ⟨[.ref z],[]⟩) Q E s:=by
 show Ap _ _ (field (.ref z) 2 >>= _) _ _ _;refine Ad (Dt hz Z (x:=.bool Yp) Z ?_);show Ap _ _ (field (.ref z) 3 >>= _) _ _ _;refine Ad (Dt hz Z (x:=.ref I) Z (Ad (Gx hI Z ?_)));show Ap _ _ (Gn (.ref z) >>= _) _ _ _;refine Ad ?_;unfold Gn;refine Ad (Dt hz Z (x:=.none) Z (An ?_));simp only[Dr];refine Ad (KT (Ad (Dt hz Z (x:=.ref O) Z (Ad (Ix hz aA λl g Y=>?_)))));replace g:Qb l z I O .ellipsis:=g;refine Ad ?_;simp only[Zj,sK,Mn,Np];refine Ad (Ad (Rn ?_));show Ap _ _ (Co (.ref i) >>= _) _ _ _;have B:At l k:=kp _ _ _ h1 λo e=>Y.extBut _ _ D.iz e;cases a:dn k with
 |none =>
  refine Ad (ar.stop hh B (ha l Y) a λh e x2 r=>?_);obtain⟨n,U,H⟩:=r;have z2:Qb h z I O .ellipsis:=x2 _ _ D.iz.symm g;have v:e≠z:=λy=>by subst y;rw[z2] at U;cases U;simp at H
  exact Ix z2 aA λg3 _ G=>hE g3 e s.toks (λc o M _ t _ y=>G.extBut _ _ M (x2 _ _ t (Y.extBut _ _ M y))) ⟨n,G.extBut _ _ v U,H⟩
 |some x =>
  have hy:ys[k]? = none:=by
   rcases u with y|y
   .rw[a] at y;cases y
   .exact y
  refine Ad (ar.next B (ha l Y) a λh i2 L=>An ?_);have O2:Kk h O p q:=L.extBut _ _ D.Oi (Y.extBut _ _ D.Oz hO);refine Ad (Gx O2 rfl (Ad (Ov O2 λg3 O3 G=>Ad (Ut (An ?_)))));refine Ad (Ad (Rn ?_));show Ap _ _ (Co (.ref j) >>= _) _ _ _;refine Ad (mJ hh (h2.keep λo e=>G.extBut _ _ D.Oj.symm (L.extBut _ _ D.ij.symm (Y.extBut _ _ D.jz e))) (hb.keep λo e=>G.extBut _ _ f.O (L.extBut _ _ f.i (Y.extBut _ _ f.z e))) hy λg4 e x4 r=>?_);obtain⟨n,U,H⟩:=r;have z4:Qb g4 z I O .ellipsis:=x4 _ _ D.jz.symm (G.extBut _ _ D.Oz.symm (L.extBut _ _ D.iz.symm g));have v:e≠z:=λy=>by subst y;rw[z4] at U;cases U;simp at H
  exact Ix z4 aA λg5 _ s5=>hE g5 e (s.toks+d) (λc o M c2 t c4 y=>s5.extBut _ _ M (x4 _ _ c4 (G.extBut _ _ c2 (L.extBut _ _ t (Y.extBut _ _ M y))))) ⟨n,s5.extBut _ _ v U,H⟩
noncomputable abbrev aE (tp:Ar)(l:Af):Ce:={ cls:=.type (if tp then "tuple_iterator" else "list_iterator"),data:=.fields #[.ref l,.int 0 0] }
abbrev NN (o:Ce)(h:Bc):Bc:=h.push o
abbrev M_ (o:Ce)(tq:Ar)(h:Bc)(b:Af):Bc:=(NN o h).push (aE tq b)
abbrev L_ (o:Ce)(tq:Ar)(h:Bc)(b:Af):Bc:=(M_ o tq h b).push { cls:=.type "tuple",data:=.seq #[.ref h.objs.size,.ref (NN o h).objs.size] }
abbrev K_ (o:Ce)(tq:Ar)(h:Bc)(b:Af):Bc:=(L_ o tq h b).push { cls:=.type "tuple",data:=.seq #[.none,.none] }
abbrev wy (o:Ce)(tq:Ar)(h:Bc)(b:Af):Bc:=(K_ o tq h b).push { cls:=.type "zip",data:=.fields #[.none,.bool Yp,.bool Yp,.ref (M_ o tq h b).objs.size,.ref (L_ o tq h b).objs.size] }
abbrev lJ (v:Ac)(o:Ce)(tq:Ar)(b:Af)(yr:Bc->Prop):Prop:=Meets (Ih.«zip.__new__» ⟨[.type "zip",v,.ref b],[]⟩) λ_ R s=>yr s.heap/\R (.ok (.ret (.ref (K_ o tq s.heap b).objs.size))) { s with heap:=wy o tq s.heap b }
set_option maxHeartbeats 4000000 in
def EM (tp:Ar)(a b:Af)(xs ys:Bs Ac):lJ (.ref a) (aE tp a) tp b λh=>yV tp h a xs/\yV tp h b ys:=
 .of_wp λprog w A R s h=>by
  obtain⟨Y,g,d,U,os⟩:=s;obtain⟨⟨M,z⟩,h⟩:=h;have B:=sub_zip;have H:∀ L:Ce,yV tp (Y.push L) b ys:=λL=>z.keep λo e=>Ak _ e;cases tp;have O:Zk (Qu ⟨Y,g,d,U,os⟩) a xs:=M;have G:Zk (Qu ⟨Y.push { cls:=.type "list_iterator",data:=.fields #[.ref a,.int 0 0] },g,d,U,os⟩) b ys:=H _;wp_walk using Gz O,Gz G;exact⟨_,Z,h⟩;have O:Heap.IsTuple (Qu ⟨Y,g,d,U,os⟩) a xs:=M;have G:Heap.IsTuple (Qu ⟨Y.push { cls:=.type "tuple_iterator",data:=.fields #[.ref a,.int 0 0] },g,d,U,os⟩) b ys:=H _;wp_walk using Iw O,Iw G;exact⟨_,Z,h⟩
def d0 {h:Bc}{it l:Af}(e:h.get? it=Aa (aE tp l)):xP tp h it l 0:=by
 cases tp;exact⟨_,e,Z,Z⟩;exact⟨_,e,Z,Z⟩
def GY (k:lJ v o tq b yr)(j:o.isFreed=Yp)(hp:yr s.heap)
  (h:∀ h',Qb h' (s.heap.objs.size+4) (s.heap.objs.size+2) (s.heap.objs.size+3) .none->Kk h' (s.heap.objs.size+2) (.ref s.heap.objs.size) (.ref (s.heap.objs.size+1)) ->
   Kk h' (s.heap.objs.size+3) .none .none->h'.get? s.heap.objs.size=Aa o->xP tq h' (s.heap.objs.size+1) b 0->h'.objs.size=s.heap.objs.size+5->(∀ c o,s.heap.get? c=Aa o->h'.get? c=Aa o)->Q (.ref (s.heap.objs.size+4)) { s with heap:=h' }) :
  Ap (As prog w) A (call (.type "zip") [v,.ref b]) Q E s:=by
 refine callType_new F.called_zip aC (F.typeCall_zip_2 _ _) (F.newCall_zip_2 _ _) (λG=>F.args_object_init_3 G _ _) F.entry_zip_new k ⟨hp,?_⟩;have L:(NN o s.heap).objs.size=s.heap.objs.size+1:=Ep ..;have O:(M_ o tq s.heap b).objs.size=s.heap.objs.size+2:=by rw[Ep,L]
 have Y:(L_ o tq s.heap b).objs.size=s.heap.objs.size+3:=by rw[Ep,O]
 have U:(K_ o tq s.heap b).objs.size=s.heap.objs.size+4:=by rw[Ep,Y]
 have y:(wy o tq s.heap b).objs.size=s.heap.objs.size+5:=by rw[Ep,U]
 have B:(wy o tq s.heap b).get? (K_ o tq s.heap b).objs.size=Aa _:=Bf _ Z;have H:(wy o tq s.heap b).get? (L_ o tq s.heap b).objs.size=Aa _:=Ak _ (Bf _ Z);have M:(wy o tq s.heap b).get? (M_ o tq s.heap b).objs.size=Aa _:=Ak _ (Ak _ (Bf _ Z));have z:(wy o tq s.heap b).get? (NN o s.heap).objs.size=Aa (aE tq b):=Ak _ (Ak _ (Ak _ (Bf _ Z)));have q:(wy o tq s.heap b).get? s.heap.objs.size=Aa o:=Ak _ (Ak _ (Ak _ (Ak _ (Bf _ j))));have p:∀ c u,s.heap.get? c=Aa u->(wy o tq s.heap b).get? c=Aa u:=λc u e=>Ak _ (Ak _ (Ak _ (Ak _ (Ak _ e))));show _/\_;rw[O,Y,U] at B;rw[L,O] at M;rw[Y] at H;rw[L] at z;rw[U];exact⟨⟨_,B,Z⟩,h _ B M H q (d0 z) y p⟩
end
def Sq (tp:Ar)(K:Ag)(H:Hp)(a:Af)(xs:Ab V):Prop:=if tp then ke K H a xs else kr K H a xs
section
variable {X:Cx}{aa:J0}{Y: _L.St}{H:Hp}{s:Ai}
def Sq.at (I:Inv X aa Y H s)(q:Sq tp X.K H a xs):∃ ah,qQ xs ah/\yV tp s.heap a ah.toArray:=by
 cases tp with
 |true =>
  obtain⟨ah,U,p,_⟩:=I.tuple q;exact⟨ah,U,p⟩
 |false =>
  obtain⟨ah,U,p,_⟩:=I.list q;exact⟨ah,U,p.isList⟩
def Sq.inj {ys:Ab V}(I:Inv X aa Y H s)(q:Sq tp X.K H a xs)(U:Sq tp X.K H a ys):xs=ys:=by
 cases tp with
 |true=>exact I.tuple_inj q U
 |false=>exact I.list_inj q U
def Sq.off (I:Inv X aa Y H s)(q:Sq tp X.K H a xs)(f:xO X aa H b):a≠b:=by
 have U:H a≠Zw\/∃ o,X.K.lookup a=Aa o:=by
  cases tp with
  |true =>
   rcases q with (q|⟨o,q⟩)|⟨o,_,_,q,_⟩
   .exact .inl (by rw[q];intro z;cases z)
   .exact .inl (by rw[q];intro z;cases z)
   .exact .inr ⟨_,q⟩
  |false =>
   rcases q with (q|⟨o,q⟩)|⟨o,_,_,q,_⟩
   .exact .inl (by rw[q];intro z;cases z)
   .exact .inl (by rw[q];intro z;cases z)
   .exact .inr ⟨_,q⟩
 rintro rfl;rcases U with k|⟨o,k⟩
 .exact k f.1
 .have e:=I.mod.kin a o k;rcases f.2.2.2.1 with z|z
  .exact I.ok.noex a o e z
  .exact absurd (Bh (I.ok.bs a o e).1) (Me.mpr z)
def Inv.turnLay {fp:J9}{T:Af}{ah:Y0}(I:Inv X aa Y H s)(G:∀ b∈fp,xO X aa H b)(k:∀ b o,b ∉ fp->s.heap.get? b=Aa o->h'.get? b=Aa o)(p:∀ b∈fp,∃ o,h'.get? b=Aa o)
  (hT:s.heap.objs.size<=T) (j:qQ xs ah) (L:Tc h' T ah.toArray) (hz:xs.length<=sizeLine):Inv X aa Y (bz H T (.tup xs)) { s with heap:=h' }:=by
 have B:H T=none:=I.hok.fresh hT;have A:∀ b o,s.heap.get? b=Aa o->b≠T:=λb o e=>Cm (Bq (Bh e) hT);refine I.step (g':=s.gens) (d':=s.drawn) (t':=s.toks) (ch:=fp) (λb U=>⟨(G b U).2.2.2.1,(G b U).2.1,(G b U).2.2.2.2.1,(G b U).2.2.2.2.2⟩) (λb o _ _ hc e _=>k b o hc e) (λb o _ _ hc e _=>⟨o.slots,k b o hc e⟩)
  (λb o _ e n=>by rw[qP (A b o e)];exact n) (λb o hc e=>⟨o,k b o hc e⟩) (λb ys e=>by rw[qP (zG e B)];exact e) (λb o u e=>by rw[qP (zG e B)];exact e)
  (λb ps e=>⟨#[],by rw[qP (zG e B),e];simp⟩) (λm y=>?_) (λb u e=>?_) I.bare
 .obtain⟨o,M,w,E,r⟩:=y;exact⟨o,M,w,k _ o (λz=>(G _ z).2.1 rfl) E,r⟩
 .by_cases U:b=T
  .subst U;rw[qX] at e;cases e;exact⟨hz,ah,j,L⟩
  .rw[qP U] at e;refine(I.hok b u e).stay (λc v hc q=>k c v (λz=>?_) q) (λc q=>by rw[qP (zG q B)];exact q) λc ys q=>by rw[qP (zG q B)];exact q
   have O:=(G c z).1;rcases hc with rfl|hc
   .rw[O] at e;cases e
   .rw[O] at hc;cases hc
def Inv.turnL {fp:J9}(I:Inv X aa Y H s)(U:∀ b∈fp,xO X aa H b)(k:∀ b o,b ∉ fp->s.heap.get? b=Aa o->h'.get? b=Aa o):Inv X aa Y H { s with heap:=h' }:=by
 refine I.step (g':=s.gens) (d':=s.drawn) (t':=s.toks) (ch:=fp) (λb O=>⟨(U b O).2.2.2.1,(U b O).2.1,(U b O).2.2.2.2.1,(U b O).2.2.2.2.2⟩) (λb o _ _ hc e _=>k b o hc e) (λb o _ _ hc e _=>⟨o.slots,k b o hc e⟩)
  (λb o _ e n=>n) (λb o hc e=>⟨o,k b o hc e⟩) (λb ys e=>e) (λb o u e=>e) (λb ps e=>⟨#[],by rw[e];simp⟩) (λm A=>?_) (λb u e=>?_) I.bare
 .obtain⟨o,B,L,E,r⟩:=A;exact⟨o,B,L,k _ o (λz=>(U _ z).2.1 rfl) E,r⟩
 .refine(I.hok b u e).stay (λc v hc q=>k c v (λz=>?_) q) (λc q=>q) λc ys q=>q;have G:=(U c z).1;rcases hc with rfl|hc
  .rw[G] at e;cases e
  .rw[G] at hc;cases hc
end
structure wv (P:Ba)(w:Bu)(K:Ag)(i z:Af)(At:Bc->Aj->Prop)(G:(Aj->Al V)->Hp->Prop):Prop where
 kp:_F i At
 there:∀ {h k},At h k->∃ o,h.get? i=Aa o/\∀ v,o.data≠.cell v
 inj:∀ {X:Cx} {pins:J0} {Y : _L.St} {s:Ai} {H:Hp} {f g},X.K=K->Inv X pins Y H s->G f H->G g H->f=g
 arm:∀ {X:Cx} {pins:J0} {Y : _L.St} {s:Ai} {H:Hp} {f},X.prog=P->X.w=w->X.K=K->Inv X pins Y H s->xO X pins H z->G f H ->
  ∃ d val iw,J_ P w i d val At iw/\(∀ h',Ew z s.heap h'->iw h')/\(∀ k x,f k=Aa x->∃ u,val k=Aa u/\∀ t,qT x (u t))/\∀ k,f k=Zw->val k=Zw
def qB9 (tp:Ar)(K:Ag)(a:Af)(f:Aj->Al V)(H:Hp):Prop:=∃ xs:Ab V,Sq tp K H a xs/\f=λk=>xs[k]?
def GQ {P:Ba}{K:Ag}(tp:Ar)(i z a:Af):wv P w K i z (λh k=>xP tp h i a k) (qB9 tp K a) where
 kp:=λ_ _ _ x q=>x.keep q
 there:=λx=>x.there
 inj:=λG I ⟨xs,q,e⟩ ⟨ys,L,j⟩=>by subst G;rw[e,j,q.inj I L]
 arm:=λ{X p Y s H f} y M G I B ⟨xs,q,e⟩=>by
  subst y M G e;obtain⟨ah,O,sq⟩:=q.at I;refine⟨0,_,_,HA tp i a ah.toArray,λh' k=>sq.keep λo e=>k.extBut _ _ (q.off I B) e,λk x U=>?_,λk U=>?_⟩;obtain⟨u,A,E⟩:=O.get U;exact⟨λ_=>u,by simp[A],λ_=>E⟩;have U:=List.getElem?_eq_none_iff.mp U;have:=O.length;simp only[Ku];rw[List.getElem?_toArray,Iy];lia
def _N (tq:Ar)(K:Ag)(G:(Aj->Al V)->Hp->Prop)(b:Af):It:=
  ⟨λi H=>∃ f ys x y,G f H/\Sq tq K H b ys/\f i=Aa x/\ys[i]? = Aa y,
   λi H v Y=>∃ T x y,v=.ref T/\H T=Zw/\Y=bz H T (.tup [x,y])/\(∀ f,G f H->f i=Aa x)/\∀ ys,Sq tq K H b ys->ys[i]? = Aa y,
   λi H=>∃ f ys,G f H/\Sq tq K H b ys/\(f i=Zw\/ys.length<=i)⟩
def WS (At:Bc->Aj->Prop)(tq:Ar)(z I O i j b:Af)(k:Aj)(h:Bc):Prop:=∃ p q,Qb h z I O .none/\Kk h I (.ref i) (.ref j)/\Kk h O p q/\At h k/\xP tq h j b k
def mZ {At:Bc->Aj->Prop}{h:Bc}(L:∀ {h k},At h k->∃ o,h.get? i=Aa o/\∀ v,o.data≠.cell v)(st:WS At tq z I O i j b k h):∀ c∈[z,I,O,i,j],∃ o,h.get? c=Aa o/\∀ v,o.data≠.cell v:=λc Y=>by
 obtain⟨p,q,G,B,U,E,H⟩:=st;simp only[Av,Cz,Fu] at Y;rcases Y with rfl|rfl|rfl|rfl|rfl
 .exact⟨_,G,λv y=>by cases y⟩
 .exact⟨_,B,λv y=>by cases y⟩
 .exact⟨_,U,λv y=>by cases y⟩
 .exact L E
 .exact H.there
def TF {c z O i j:Af}(h:c ∉ [z,I,O,i,j]):c≠z/\c≠O/\c≠i/\c≠j:=by simp only[Av,Cz,Fu,not_or] at h;exact⟨h.1,h.2.2.1,h.2.2.2.1,h.2.2.2.2⟩
def MF {P:Ba}{K:Ag}{At:Bc->Aj->Prop}{G:(Aj->Al V)->Hp->Prop}(M:wv P w K i z At G)(D:ZA z I O i j):oh P w K (.Tuple n_ x1 nw) (_N tq K G b) [z,I,O,i,j] z (WS At tq z I O i j b) where
 mem:=.head _
 obj:=λk h st=>mZ M.there st
 keep:=λk h h' st v=>by obtain⟨p,q,A,t,s3,a,s5⟩:=st;exact⟨p,q,v z (.head _) _ A,v I (.tail _ (.head _)) _ t,v O (.tail _ (.tail _ (.head _))) _ s3,M.kp _ _ _ a λo e=>v i (.tail _ (.tail _ (.tail _ (.head _)))) o e,s5.keep λo e=>v j (.tail _ (.tail _ (.tail _ (.tail _ (.head _))))) o e⟩
 item:=by
  intro X hP hw hK U k aa s Y H E B L st hg;subst hP hw hK;obtain⟨p,q,A,t,s3,a,s5⟩:=st;obtain⟨f,ys,x,y,qa,qb,hx,hy⟩:=hg;obtain⟨d,dn,iw,ar,ha,v1,v2⟩:=M.arm rfl rfl rfl B (L z (.head _)) qa;obtain⟨ib,rb,hb⟩:=qb.at B;obtain⟨u,hu,ru⟩:=v1 k x hx;obtain⟨u',zo,z2⟩:=rb.get hy;have r:∀ {c:Af} {zs:Ab V},Sq tq X.K H c zs->Off z O i j c:=λ{c zs} l=>⟨l.off B (L z (.head _)),l.off B (L O (.tail _ (.tail _ (.head _)))),l.off B (L i (.tail _ (.tail _ (.tail _ (.head _))))),l.off B (L j (.tail _ (.tail _ (.tail _ (.tail _ (.head _))))))⟩;have hT:s.TypeIs (.ref z) "zip":=⟨_,A,rfl⟩;unfold Pi;refine Ad (Kq (Dv (name:=Fb "__next__") hT Pc (Dw Pc hT Zl
   (MK ar M.kp D (r qb) A t s3 a s5 ha hb hu (by simpa using zo) λh' a1 a2 a3 a4 a5 a6 a7=>An ?_) (XV _))))
  refine⟨_,Z,wpAny_letOwnedTupleGo_zip (s:={ s with heap:=h',toks:=s.toks+d }) a1 λh2 b1 b2=>?_⟩;have up:∀ c o,c≠z->h'.get? c=Aa o->h2.get? c=Aa o:=λc o n e=>(b2.2 c n).trans e;have zl:z<s.heap.objs.size:=Bh A;have T2:Kk h2 s.heap.objs.size (u s.toks) u':=up _ _ (Hl zl) a5;have zc:WS At tq z I O i j b (k+1) h2:=⟨_,u',b1,up _ _ D.Iz (a7 I _ D.Iz D.IO D.Ii D.Ij t),up _ _ D.Oz a2,M.kp _ _ _ a3 λo e=>up _ o D.iz e,a4.keep λo e=>up _ o D.jz e⟩;refine⟨.ref s.heap.objs.size,bz H s.heap.objs.size (.tup [x,y]),?_,Z,⟨_,x,y,Z,B.hok.fresh (Ay _),Z,λg qz=>by rw[M.inj Z B qz qa];exact hx,λzs qz=>by rw[qz.inj B qb];exact hy⟩,zc,λc U=>?_⟩
  .show _L.Inv X aa Y (bz H s.heap.objs.size (.tup [x,y])) { s with heap:=h2,toks:=s.toks+d };refine(Inv.turnLay (fp:=[z,I,O,i,j]) (ah:=[u s.toks,u']) (h':=h2) B L (λc o U e=>?_) (λc U=>?_) (Ay _) (.cons (ru _) (.cons z2 .nil)) ⟨_,T2,Z,_,Z⟩ (by show 2<=sizeLine;decide)).tok (s.toks+d)
   .have U:=TF U;exact up c o U.1 (a7 c o U.1 U.2.1 U.2.2.1 U.2.2.2 e)
   .obtain⟨o,e,_⟩:=mZ M.there zc c U;exact⟨o,e⟩
  .have hn:=(L c U).1;rw[qP ?_]
   .exact hn
   .rintro rfl;obtain⟨o,e,_⟩:=mZ M.there ⟨p,q,A,t,s3,a,s5⟩ _ U;exact absurd (Bh e) (Fg _)
 done:=by
  intro X hP hw hK U k aa s Y H E B L st hg;subst hP hw hK;obtain⟨p,q,A,t,s3,a,s5⟩:=st;obtain⟨f,ys,qa,qb,zn⟩:=hg;obtain⟨d,dn,iw,ar,ha,v1,v2⟩:=M.arm rfl rfl rfl B (L z (.head _)) qa;obtain⟨ib,rb,hb⟩:=qb.at B;have r:∀ {c:Af} {zs:Ab V},Sq tq X.K H c zs->Off z O i j c:=λ{c zs} l=>⟨l.off B (L z (.head _)),l.off B (L O (.tail _ (.tail _ (.head _)))),l.off B (L i (.tail _ (.tail _ (.tail _ (.head _))))),l.off B (L j (.tail _ (.tail _ (.tail _ (.tail _ (.head _))))))⟩;have hT:s.TypeIs (.ref z) "zip":=⟨_,A,rfl⟩;have l2:=rb.length;unfold Pi;refine Ad (Kq (Dv (name:=Fb "__next__") hT Pc (Dw Pc hT Zl
   (MP (B.ok.hd U) ar M.kp D (r qb) A t s3 a s5 ha hb ?_ λh' e tk v he=>?_) (XV _))))
  .rcases zn with y|y
   .exact .inl (v2 k y)
   .exact .inr (by simp;lia)
  .obtain⟨o,ho,z1⟩:=he;refine Ad (Sv (T:="StopIteration") (b:=Vp) ⟨o,ho,z1⟩ isSubtype_stop (An ⟨Z,(Inv.turnL (fp:=[z,I,O,i,j]) (h':=h') B L λc o U e=>?_).tok tk⟩));have U:=TF U;exact v c o U.1 U.2.1 U.2.2.1 U.2.2.2 e
 self:=λ_ _ _ _ _ st h=>by obtain⟨p,q,A,_⟩:=st;exact Zm A h
noncomputable def yL (xs ys:Ab D):Ab D:=List.zipWith (λx y=>D.tup [x,y]) xs ys
def qAn (ds:Ab D):Al (Ab D):=match ds with
 |[.tup xs,.tup ys]=>Aa (yL xs ys)
 |[.lst xs,.lst ys]=>Aa (yL xs ys)
 |_=>Zw
def sR (f:DA):DI:=λU S=>(f U S).bind λds Y=>vO (qAn ds) Y
def MJ {xs:Ab D}{i:Aj}:(yL xs ys)[i]? = match xs[i]?,ys[i]? with|some x,Aa y=>Aa (D.tup [x,y])|_,_=>none:=by unfold yL;rw[List.getElem?_zipWith];cases xs[i]? <;> cases ys[i]? <;> rfl
def lF (xs ys:Ab D):(yL xs ys).length=min xs.length ys.length:=by simp[yL]
section
variable {K:Ag}
def Sq.mono {P Y:Hp}(e:qO P Y){a:Af}{xs:Ab V}(q:Sq tp K P a xs):Sq tp K Y a xs:=by
 cases tp with
 |true=>exact vQ e q
 |false=>exact e.seq q
def X1 {P:Hp}{F:(Aj->Al V)->Hp->Prop}{f:Aj->Al V}{xs:Ab D}(L:∀ H,qO P H->F f H)(A:∀ i (h:i<xs.length),∃ v,f i=Aa v/\am K P J xs[i] v)(nf:∀ i,xs.length<=i->f i=Zw)(G:Sq tq K P b ws)(B:qJ K P J ys ws):wq K (_N tq K F b) P J (yL xs ys) where
 go:=λi H M k S Y r e _=>by
  rw[lF] at Y;have U:i<ws.length:=by rw[<- B.length];lia
  obtain⟨v,hv,_⟩:=A i li;exact⟨f,ws,v,ws[i],L _ (e.trans r.sub),G.mono (e.trans r.sub),hv,by simp⟩
 yld:=λi H x H' M k S Y r e z y=>by
  obtain⟨T,u,w,rfl,g,rfl,c,s⟩:=y;rw[lF] at Y;have q:i<xs.length:=by lia
  have U:i<ys.length:=by lia
  obtain⟨v1,n,d⟩:=A i q;obtain⟨a,l,p⟩:=B.get (Be U);have j:=c f (L _ (e.trans r.sub));have E:=s ws (G.mono (e.trans r.sub));rw[n] at j;cases j;rw[l] at E;cases E;obtain⟨t,O⟩:=r.pure (o:=.tup [u,w]) g;refine⟨_,.tup [xs[i],ys[i]],?_,t,O,?_⟩;rw[MJ,Be q,Be U];exact XW (.of qX) (.cons (am.mono (e.trans O) z _ _ d) (.cons (am.mono (e.trans O) z _ _ p) .nil))
 stop:=λi H M k S Y r e _=>by
  rw[lF] at Y;have l2:=B.length;refine⟨f,ws,L _ (e.trans r.sub),G.mono (e.trans r.sub),?_⟩;by_cases h:xs.length<=i;exact .inl (nf i h);exact .inr li
end
section
variable {X:Cx}{e1 e2:Bl}{n_:Ab Bl}{x1:Aj}{nw:Ea}{f:DA}{p ai:Ea}
def GJ {H P:Hp}{At:Bc->Aj->Prop}{F:(Aj->Al V)->Hp->Prop}(I:Inv X aa Y H s)(r:bf X.K H P J S)(y:lJ v o tq b yr)(L:o.isFreed=Yp)(hp:yr s.heap)
  (k:wv X.prog X.w X.K s.heap.objs.size (s.heap.objs.size+4) At F) (U:∀ h':Bc,h'.get? s.heap.objs.size=Aa o->At h' 0) (it:wq X.K (_N tq X.K F b) P J ah) (q:yg X P J R ah S):a8 X (call (.type "zip") [v,.ref b]) (λv u=>a8 X (Pj v) (yf X aa Y (.Tuple n_ x1 nw) R) X.xe u) X.xe s:=by
 refine GY y L hp λh' O A M j E l w=>?_;refine Zm (s:={ s with heap:=h' }) O ?_;have D:ZA (s.heap.objs.size+4) (s.heap.objs.size+2) (s.heap.objs.size+3) s.heap.objs.size (s.heap.objs.size+1):=by constructor <;> (intro z;simp at z)
 refine⟨_,[s.heap.objs.size+4,s.heap.objs.size+2,s.heap.objs.size+3,s.heap.objs.size,s.heap.objs.size+1],_,_,H,Z,I.kept (t':=s.toks) w,MF k D,⟨_,_,O,A,M,U _ j,E⟩,λc G=>?_,q _ _ P J r (qO.refl _) (Bm _) it⟩;have B:s.heap.objs.size<=c:=by simp only[Av,Cz,Fu] at G;rcases G with rfl|rfl|rfl|rfl|rfl <;> simp
 exact I.fpOk B (I.hok.fresh B)
def WI {H P:Hp}{xs:Ab D}(I:Inv X aa Y H s)(r:bf X.K H P J S)(O:Sq tp X.K P a vs)(G:Sq tp X.K P b ws)(U:qJ X.K P J xs vs)(E:qJ X.K P J ys ws)
  (q:yg X P J R (yL xs ys) S):a8 X (call (.type "zip") [.ref a,.ref b]) (λv L=>a8 X (Pj v) (yf X aa Y (.Tuple n_ x1 nw) R) X.xe L) X.xe s:=by
 obtain⟨z,w,B⟩:=(O.mono r.sub).at I;obtain⟨j,M,A⟩:=(G.mono r.sub).at I;exact GJ I r (EM tp a b _ _) rfl ⟨B,A⟩ (GQ tp _ _ a) (λ_ e=>d0 e) (X1 (λH e=>⟨vs,O.mono e,rfl⟩) (λi h=>U.get (Be h)) (λi h=>Iy (by rw[<- U.length];exact h)) G E) q
inductive _q (ds:Ab D)(its:Ab D):Prop
 |tup (xs ys:Ab D) (ed:ds=[.tup xs,.tup ys]) (e:its=yL xs ys)
 |lst (xs ys:Ab D) (ed:ds=[.lst xs,.lst ys]) (e:its=yL xs ys)
def EL (h:qAn ds=Aa ah):_q ds ah:=by
 cases ds with
 |nil=>exact nn h
 |cons a ds =>
  cases a with
  |tup xs =>
   cases ds with
   |nil=>exact nn h
   |cons b ds =>
    cases b with
    |tup ys =>
     cases ds with
     |nil=>exact .tup xs ys rfl (Cw h).symm
     |cons _ _=>exact nn h
    |_=>exact nn h
  |lst xs =>
   cases ds with
   |nil=>exact nn h
   |cons b ds =>
    cases b with
    |lst ys =>
     cases ds with
     |nil=>exact .lst xs ys rfl (Cw h).symm
     |cons _ _=>exact nn h
    |_=>exact nn h
  |_=>exact nn h
def CW (hg:Gl X "zip")(hm:X.mg "zip" = Zw)(c:PA X [e1,e2] (kz X f))(hs:Bj [e1,e2] X.env=(Yp,eval e1 X.env)::Bj [e2] X.env:=by rfl)(y:(Fh ai (Bj [e2] X.env)).any (·.1)=false:=by rfl) :
  PI X (.Tuple n_ x1 nw) (.Call (.Name "zip" p) [e1,e2] [] ai) (vy X (sR f)):=by
 intro aa s Y H R I h;obtain⟨P,J,ac,S,r,i,n⟩:=h;refine Call_ (uZ I hg hm boot_zip (Gw (bi (yE c I r i n ai) λus s1 ⟨vs,H1,P1,J1,ds,S1,k,g,l,t,o,e1,e2,j⟩=>?_) hs y));obtain⟨ah,d,q⟩:=vT j;cases EL d with
 |tup xs ys E e =>
  subst E e;obtain⟨v,w,u,x,rfl,rfl,G,U,A,O⟩:=gF o g;simp only[am] at G U;obtain⟨a,va,rfl,L,M⟩:=G;obtain⟨b,vb,rfl,z,B⟩:=U;cases (show u=Cc a from A);cases (show x=Cc b from O);exact WI (tp:=Vp) k l L z M B (q.base e1 e2)
 |lst xs ys E e =>
  subst E e;obtain⟨v,w,u,x,rfl,rfl,G,U,A,O⟩:=gF o g;simp only[am] at G U;obtain⟨a,va,rfl,L,M⟩:=G;obtain⟨b,vb,rfl,z,B⟩:=U;cases (show u=Cc a from A);cases (show x=Cc b from O);exact WI (tp:=Yp) k l L.l z.l M B (q.base e1 e2)
end
def wj (K:Ag)(mg:J8)(x:Ah)(st:Du)(ps:Y8):Prop:=∃ f fd,mg x=Aa (.ref f)/\uq K x x st f fd/\yM K fd ps []
def Lk (K:Ag)(f:Af)(fd:Ft):Prop:=∃ U G Y,K.lookup f=Aa ⟨U,G,.func fd,Y⟩
def bS {K:Ag}{st:Du}(F:uq K x q st f fd):Lk K f fd:=by obtain⟨B,G,kV,U,L,H,O,E,Y,_,lk,_⟩:=F.ex;exact⟨B,G,Y,lk⟩
def Lk.one {K:Ag}(h:Lk K f fd)(h':Lk K f Y):fd=Y:=by obtain⟨H,E,L,e⟩:=h;obtain⟨B,O,U,G⟩:=h';rw[e] at G;cases G;rfl
def vw (P:Ba)(w:Bu)(K:Ag)(mg:J8)(base:Bc)(cm:Ar)(k:Aj)(x:Ah)(n:Aj)(F:DF):Prop:=
 ∃ f fd ps,ps.length=n/\mg x=Aa (.ref f)/\Dd K (.ref f)=Vp/\yM K fd ps [] /\ Lk K f fd/\sd P w K mg base cm k f fd ps (wz K n F)
def aR (P:Ba)(w:Bu)(K:Ag)(mg:J8)(base:Bc)(cm:Ar)(k:Aj)(x:Ah)(ps:Y8)(F:DF):Prop:=
 ∃ f fd,mg x=Aa (.ref f)/\Dd K (.ref f)=Vp/\yM K fd ps [] /\ Lk K f fd/\sd P w K mg base cm k f fd ps (wz K ps.length F)
section
variable {P:Ba}{w:Bu}{K:Ag}{mg:J8}{base:Bc}{cm:Ar}
def MT {Y:Ac}(hm:mg x=Aa (.ref f))(lk:Lk K f fd)(h:fd.code=Y/\Mod K mg base):fU K x Y:=λc T e=>by obtain⟨O,G,U,lk⟩:=lk;rw[<- h.1];exact PySem.W.law_code h.2.kin h.2.glob e hm (h.2.kin _ _ lk) rfl
def CQ {st:Du}{k:Aj}{g:DS}(h:wj K mg x st ps)(S:c_ N ps (qH st))
  (U:∀ (f:Af) (Y:Ac) (A:Bp) (G:Ab Hn) (s:Ai) (H:Hp) (E:XK),fU K x Y->RoomC cm k (A.deeper (Fw x (qH st) s.heap.objs.size f Y)) ->
   jq (jv cm P w K mg base N x (qH st) f Y A G s H E) (zJ st) (ir (jv cm P w K mg base N x (qH st) f Y A G s H E) g)):vw P w K mg base cm (k+1) x ps.length (qM N.length g):=by
 obtain⟨f,fd,O,F,L⟩:=h;exact⟨f,fd,ps,rfl,O,F.kp,L,bS F,fnX F S λY A G s H E M B=>U f Y A G s H E (MT O (bS F) M) B⟩
def L6 {st:Du}{k:Aj}{g:DS}(h:wj K mg x st ps)(S:c_ N ps (qH st))
  (U:∀ (f:Af) (Y:Ac) (A:Bp) (G:Ab Hn) (s:Ai) (H:Hp) (E:XK),fU K x Y->RoomC cm k (A.deeper (Fw x (qH st) s.heap.objs.size f Y)) ->
   jq (jv cm P w K mg base N x (qH st) f Y A G s H E) (zJ st) (ir (jv cm P w K mg base N x (qH st) f Y A G s H E) g)):aR P w K mg base cm (k+1) x ps (qM N.length g):=by
 obtain⟨f,fd,O,F,L⟩:=h;exact⟨f,fd,O,F.kp,L,bS F,fnX F S λY A G s H E M B=>U f Y A G s H E (MT O (bS F) M) B⟩
def vw.mono {j k n:Aj}{F:DF}(h:vw P w K mg base cm j x n F)(U:j<=k:=by decide):vw P w K mg base cm k x n F:=by obtain⟨f,fd,ps,G,y,q,M,u,X⟩:=h;exact⟨f,fd,ps,G,y,q,M,u,X.len,λA z s H Y B L Q E O=>X.run A z s H Y B L Q E (O.mono U)⟩
end
section
variable {X:Cx}{cm:Ar}{k n:Aj}{F:DF}{x:Ah}{p ai:Ea}{e:Bl}{es:Ab Bl}{fa:DA}
def dcN (G:vw X.prog X.w X.K X.mg X.base cm k x n F)(B:RoomC cm k X.A)(H:Fn1 X)(O:Gl X x)(A:PA X (e::es) (kz X fa))(U:(x == ("__debug__" : Ah))=false:=by decide)(w:Bj (e::es) X.env=(Yp,eval e X.env)::Bj es X.env:=by rfl)(Y:(Fh ai (Bj es X.env)).any (·.1)=false:=by rfl) :
  PE X (.Call (.Name x p) (e::es) [] ai) (tD X (qI n F fa)):=by
 obtain⟨f,fd,ps,z,E,L,M,j,G⟩:=G;exact NU G B H O E L M A U w Y
def HZ (U:Gl X x)(hm:X.mg x=Aa (.ref C))(Y:Dd X.K (.ref C)=Vp)(G:(x == ("__debug__" : Ah))=false:=by decide):PE X (.Name x ai) (tD X (dC (.obj C))):=
 tH U hm (v:=.ref C) Z (λP J => by simp only[am];exact⟨trivial,Y⟩) G
end
def zZ:DF:=λds S=>match ds with
 |[.dct0]=>.bad
 |_=>iN ds S
def NK {X:Cx}:wR X (.builtin "len") zZ:=HI trivial
def MS:∃ C:Aq->Aq->Ar,C=i0:=⟨_,Z⟩
def MR:Aq->Aq->Ar:=Lx MS
def i3:MR=i0:=Le MS
def yY:G2:=i2 MR λi j=>.int (i*j)
def XI {X:Cx}:il X (Et .Mult) yY:=by unfold yY;rw[i3];exact SV
def T_ (Y:RoomC cm k A):A.units+1<Fj:=by have:=Y.units;lia
structure QE (X:Cx)(e:Bl)(f:DE):Prop where
 get:PE X e (tD X f)
structure QT (X:Cx)(e:Bl)(t:DT):Prop where
 get:PT X e (ny X t)
structure QW (X:Cx)(e:Bl)(t:DT):Prop where
 get:uy X e t
structure QA (X:Cx)(es:Ab Bl)(f:DA):Prop where
 get:PA X es (kz X f)
structure QO (X:Cx)(e:Al Bl)(f:DO):Prop where
 get:PO X e (xt X f)
structure QG (X:Cx)(t:Bl)(g:DG):Prop where
 get:PG X t (so X g)
structure Z1 (X:Cx)(ts:Ab Bl)(g:ur):Prop where
 get:wk X ts (QF X g)
structure QI (X:Cx)(tg it:Bl)(f:DI):Prop where
 get:PI X tg it (vy X f)
structure QS (X:Cx)(s:Du)(f:DS):Prop where
 get:PS X s (ir X f)
structure QB (X:Cx)(ss:Ab Du)(f:DS):Prop where
 get:jq X ss (ir X f)
structure QJ (X:Cx)(es:Ab Bl)(fs:Ab DE):Prop where
 get:PJ X es fs
structure ZOp (X:Cx)(f:Ac->Ac->Km Ac)(g:G2):Prop where
 get:il X f g
structure ZUn (X:Cx)(f:Ac->Km Ac)(g:D->ag->ax D):Prop where
 get:_z X f g
structure _r (X:Cx)(g:G2):Prop where
 get:Z6 X g
structure gp (X:Cx)(f:Ac)(F:DF):Prop where
 get:wR X f F
structure ub (X:Cx)(id:Ek)(g:D->Ab D->ag->ax D):Prop where
 get:sy X id g
structure zk (X:Cx)(g:G3):Prop where
 get:aS X (aO X g)
structure ZPass (X:Cx):Prop where
 get:Ox (As X.prog X.w) X.A X.env X.xe
section
variable {X:Cx}{a b c e e1 e2 o i:Bl}{es aw:Ab Bl}{fa fb fc fe fo fi:DE}{ta tb:DT}{fA:DA}{f g:DS}{st:Du}{_X:Ab Du}{x:Ah}{p ai:Ea}{n k:Aj}{cm:Ar}{F:DF}{s_:G2}
def qDs:QE X (.Constant .none j ai) (dC .non):=⟨CI⟩
def qEa:QE X (.Constant (.bool v) j ai) (dC (.bl v)):=⟨qAs⟩
def qDq:QE X (.Constant (.int v) j ai) (dC (.int v)):=⟨CG⟩
def qDv:QE X (.Constant (.str v) j ai) (dC (.str v)):=⟨CM⟩
def qAH (m:Aj)(G:X.N[m]? = Aa x)(hv:qi X.env.scope x)(U:(x == ("__debug__" : Ah))=Yp)(Y:(x == ("__classdict__" : Ah))=Yp):QE X (.Name x ai) (qB m):=⟨dv m G hv U Y⟩
def RL (U:Gl X x)(hm:X.mg x=Zw)(hv:Gi x=Aa (.type nm))(Y:x ≠ "__name__")(G:(x == ("__debug__" : Ah))=Yp):QE X (.Name x ai) (dC (.ty nm)):=⟨NT U hm hv Y G⟩
def qAG (G:Gl X x)(hm:X.mg x=Aa (.ref C))(U:Dd X.K (.ref C)=Vp)(Y:(x == ("__debug__" : Ah))=Yp):QE X (.Name x ai) (dC (.obj C)):=⟨HZ G hm U Y⟩
def RM (Y:Gl X x)(hm:∃ t,X.mg x=Aa (.int v t))(U:(x == ("__debug__" : Ah))=Yp):QE X (.Name x ai) (dC (.int v)):=⟨let ⟨_,h⟩:=hm;tH (v:=.int v) Y h ⟨_,Z⟩ (λ_ _=>by simp only[am]) U⟩
def qEf {h:D->ag->ax D}(Y:ZUn X (Yx op) h)(U:QE X a fa):QE X (.UnaryOp op a ai) (d1 h fa):=⟨qAx Y.1 U.1⟩
def qDt (Y:QE X a fa):QE X (.UnaryOp .Not a ai) (wg fa):=⟨CJ Y.1⟩
def qEe (Y:ZOp X (Et op) s_)(G:QE X a fa)(U:QE X b fb):QE X (.BinOp a op b ai) (d2 s_ fa fb):=⟨qAw Y.1 G.1 U.1⟩
def qDm (U:ZOp X (Cs op) s_)(Y:QE X a fa)(G:QE X b fb)(hm:Lz op b=false:=by first|exact dE _|with_unfolding_all rfl):QE X (.Compare a [op] [b] ai) (d2 s_ fa fb):=⟨CA U.1 Y.1 G.1 hm⟩
def qCl (O:ZOp X (Cs op) s_)(U:ZOp X (Cs Y) g')(G:QE X a fa)(B:QE X b fb)(L:QE X c fc)(hm:Xy [op,Y] [b,c]=false:=by with_unfolding_all rfl):QE X (.Compare a [op,Y] [b,c] ai) (wX s_ g' fa fb fc):=⟨PK O.1 U.1 G.1 B.1 L.1 hm⟩
def qDu  (h:QE X a fa):QE X (.BoolOp op [a] ai) fa:=⟨CK h.1⟩
def qDk (U:QE X a fa)(Y:QE X (.BoolOp .And (b::aw) ai) fb):QE X (.BoolOp .And (a::b::aw) ai) (kF fa fb):=⟨HX U.1 Y.1⟩
def qEc (G:QT X c ta)(U:QE X a fa)(Y:QE X b fb):QE X (.IfExp c a b ai) (mh ta fa fb):=⟨qAu G.1 U.1 Y.1⟩
def qDw  (h:QA X es fA):QE X (.Tuple es x1 ai) (zW fA):=⟨CP h.1⟩
def qDr (h:QA X es fA):QE X (.List es ai) (zL fA):=⟨CH h.1⟩
def qDJ (h:QA X es fA):QE X (.List es ai) (tG fA):=⟨NZ h.1⟩
def qDH:QE X (.Dict [] [] ai) cY:=⟨NV⟩
def qEd (Y:_r X s_)(G:QE X a fa)(U:QE X b fb)(hs:gV b:=by intro _ _;rfl):QE X (.Subscript a b ai) (d2 s_ fa fb):=⟨qAv Y.1 G.1 U.1 hs⟩
def qCn {lo Y:Al Bl}(E:QE X e fe)(B:QO X lo U)(L:QO X Y G):QE X (.Subscript e (.Slice lo Y Zw O) ai) (nv fe U G):=⟨PP E.1 B.1 L.1⟩
def qDN:QO X Zw zM:=⟨LB⟩
def qDO (Y:QE X e fe):QO X (Aa e) (zF fe):=⟨LC Y.1⟩
def qDp (Y:QE X e fe):QE X (.FormattedValue e (-1) Zw ai) (d1 bI fe):=⟨CD Y.1⟩
def qD3:QJ X [] []:=⟨OV⟩
def qDM {fs:Ab DE}(U:QE X e fe)(Y:QJ X es fs):QJ X (e::es) (fe::fs):=⟨RB U.1 Y.1⟩
def qDI {fs:Ab DE}(h:QJ X (e1::e2::aw) fs):QE X (.JoinedStr (e1::e2::aw) ai) (cZ fs):=⟨NY h.1⟩
def qDg:QA X [] qC:=⟨HU⟩
def qDF (Y:QE X e fa)(U:QA X es fA)(hs:Bj (e::es) X.env=(Yp,eval e X.env)::Bj es X.env:=by rfl):QA X (e::es) (qA fa fA):=⟨NS Y.1 U.1 hs⟩
def qcN (G:vw X.prog X.w X.K X.mg X.base cm k x n F)(B:RoomC cm k X.A)(L:Fn1 X)(O:Gl X x)(E:QA X (e::es) fA)(U:(x == ("__debug__" : Ah))=Yp)(H:Bj (e::es) X.env=(Yp,eval e X.env)::Bj es X.env:=by rfl)(Y:(Fh ai (Bj es X.env)).any (·.1)=false:=by rfl):QE X (.Call (.Name x p) (e::es) [] ai) (qI n F fA):=⟨dcN G B L O E.1 U H Y⟩
def FI (L:gp X (.builtin id) F)(O:Gl X x)(hm:X.mg x=Zw)(hv:Gi x=Aa (.builtin id))(B:QA X (e::es) fA)(G:x ≠ "__name__")(U:(x == ("__debug__" : Ah))=Yp)(E:Bj (e::es) X.env=(Yp,eval e X.env)::Bj es X.env:=by rfl)(Y:(Fh ai (Bj es X.env)).any (·.1)=false:=by rfl):QE X (.Call (.Name x p) (e::es) [] ai) (qG F fA):=⟨PH L.1 O hm hv B.1 G U E Y⟩
def KC (L:gp X (.type T) F)(O:Gl X x)(hm:X.mg x=Zw)(hv:Gi x=Aa (.type T))(B:QA X (e::es) fA)(G:x ≠ "__name__")(U:(x == ("__debug__" : Ah))=Yp)(E:Bj (e::es) X.env=(Yp,eval e X.env)::Bj es X.env:=by rfl)(Y:(Fh ai (Bj es X.env)).any (·.1)=false:=by rfl):QE X (.Call (.Name x p) (e::es) [] ai) (qG F fA):=⟨U9 L.1 O hm hv B.1 G U E Y⟩
theorem qEb {L:Ea}{h:D->Ab D->ag->ax D}(E:Wg T)(slot:Slot T name id)(B:typeOf (.builtin id)=pure (.type "method_descriptor"))(hT:T = "list" \/ T = "dict" \/ T = "int" \/ T = "str")(hm:ub X id h)(H:QE X o fo)(A:QA X (e::es) fA)
  (U:Gc o name X.env (eval o X.env)=eval o X.env:=by rfl)
  (O:((Fh ai (Bj (e::es) X.env)).all (λx=>!x.1)&&(TD ai (Om [] X.env)).all (λx=>x.1.isSome)&&decide ((e::es).length+([]:Ab Keyword).length+(if ([] : Ab Keyword).isEmpty then 0 else 1)<30))=true:=by rfl)
  (G:(L.endLine == ai.line)=true:=by rfl) (hs:Bj (e::es) X.env=(Yp,eval e X.env)::Bj es X.env:=by rfl) (Y:(Fh ai (Bj es X.env)).any (·.1)=false:=by rfl):QE X (.Call (.Attribute o name L) (e::es) [] ai) (ki T h fo fA):=⟨qAt E slot B hT hm.1 H.1 A.1 U O G hs Y⟩
theorem qDl {O:Ea}{h:D->Ab D->ag->ax D}(B:Wg T)(slot:Slot T name id)(G:typeOf (.builtin id)=pure (.type "method_descriptor"))(hT:T = "list" \/ T = "dict" \/ T = "int" \/ T = "str")(hm:ub X id h)(L:QE X o fo)
  (Y:Gc o name X.env (eval o X.env)=eval o X.env:=by rfl) (U:(O.endLine == ai.line)=true:=by rfl):QE X (.Call (.Attribute o name O) [] [] ai) (nR T h fo):=⟨HY B slot G hT hm.1 L.1 Y U⟩
def qEh (h:QW X e ta):QT X e ta:=⟨uy.pt h.1⟩
def qDR (Y:QT X a ta):QW X (.BoolOp .And [a] ai) ta:=⟨LK Y.1⟩
def qEC (Y:QT X a ta):QW X (.BoolOp .Or [a] ai) ta:=⟨AH Y.1⟩
def qEB (U:QT X a ta)(Y:QW X (.BoolOp .And (b::aw) ai) tb):QW X (.BoolOp .And (a::b::aw) ai) (yW ta tb):=⟨AG U.1 Y.1⟩
def qEi (U:QT X a ta)(Y:QW X (.BoolOp .Or (b::aw) ai) tb):QW X (.BoolOp .Or (a::b::aw) ai) (wO ta tb):=⟨qA2 U.1 Y.1⟩
def qD9 (Y:QT X a ta):QT X (.UnaryOp .Not a ai) (xK ta):=⟨AD Y.1⟩
def qD8 (U:ZOp X (Cs op) s_)(Y:QE X a fa)(G:QE X b fb)(hm:Lz op b=false:=by first|exact dE _|with_unfolding_all rfl):QT X (.Compare a [op] [b] ai) (bg (d2 s_ fa fb)):=⟨AC U.1 Y.1 G.1 hm⟩
def qCu (O:ZOp X (Cs op) s_)(U:ZOp X (Cs Y) g')(G:QE X a fa)(B:QE X b fb)(L:QE X c fc)(hm:Xy [op,Y] [b,c]=false:=by with_unfolding_all rfl):QT X (.Compare a [op,Y] [b,c] ai) (bg (wX s_ g' fa fb fc)):=⟨B3 O.1 U.1 G.1 B.1 L.1 hm⟩
def qEA (G:QE X a fa)(U:∀ Y,isTrue a X.env Y=(do let v <- Y;Mc a.pos;holding [v] (truthy v)):=by intro _;rfl):QT X a (bg fa):=⟨AF G.1 U⟩
def RN (G:X.N.Nodup)(O:X.N[m]? = Aa x)(Y:Loc X.env.scope x)(U:X.fn x=Vp\/X.env.scope.names.lookup x=Aa .local):QG X (.Name x ai) (bc m):=⟨L7 G O Y U⟩
def qDK:Z1 X [] xF:=⟨L8⟩
def qCp (U:QG X e h)(G:Z1 X es Y)(hs:(Gp (e::es) X.env).map (·.2)=assign e X.env::(Gp es X.env).map (·.2):=by rfl):Z1 X (e::es) (qZ h Y):=⟨PR U.1 G.1 hs⟩
def qDy (O:X.calm=Vp)(h:Z1 X es U)(G:(Gp es X.env).length=n:=by rfl)(Y:(Gp es X.env).findIdx? (·.1)=none:=by rfl):QG X (.Tuple es kk ai) (lg n U):=⟨CU O h.1 G Y⟩
def qDx (G:QE X o fo)(U:QE X i fi)(hs:zk X h)
  (Y:∀ v,assign (.Subscript o i ai) X.env v=(do
   let ov <- holding [v] (eval o X.env);let iv <- holding [v,ov] (eval i X.env)
   Mc ai
   holding [v,ov,iv] (setItem ov iv v)
   release [v,ov,iv] []):=by intro _;rfl):QG X (.Subscript o i ai) (zd fo fi h):=⟨CT G.1 U.1 hs.1 Y⟩
def qD1 (Y:QE X e fa):QI X tg e (uW fa):=⟨CV Y.1⟩
def qCq (U:Gl X "range")(hm:X.mg "range" = Zw)(G:QA X (e::es) fA)(hs:Bj (e::es) X.env=(Yp,eval e X.env)::Bj es X.env:=by rfl)(Y:(Fh ai (Bj es X.env)).any (·.1)=false:=by rfl):QI X tg (.Call (.Name "range" p) (e::es) [] ai) (kG fA):=⟨PU U hm G.1 hs Y⟩
def qD2 (O:Gl X "zip")(hm:X.mg "zip" = Zw)(B:QA X [e1,e2] fA)(hs:Bj [e1,e2] X.env=(Yp,eval e1 X.env)::Bj [e2] X.env:=by rfl)(Y:(Fh ai (Bj [e2] X.env)).any (·.1)=false:=by rfl):QI X (.Tuple U G L) (.Call (.Name "zip" p) [e1,e2] [] ai) (sR fA):=⟨CW O hm B.1 hs Y⟩
def qDi:QB X [] qU:=⟨A1⟩
def qDj (h:QS X st f):QB X [st] f:=⟨A2 h.1⟩
def qDG (Y:QS X st f)(U:QB X _X g):QB X (st::_X) (qE f g):=⟨LD Y.1 U.1⟩
def qDP (Y:QE X e fa)(hs:Md e Zw ai.line X.env=pure false:=by rfl):QS X (.Expr e ai) (wC fa):=⟨LG Y.1 hs⟩
def qD7 (Y:QE X e fa):QS X (.Return (Aa e) ai) (qN fa):=⟨A4 Y.1⟩
def qEg {as bs:Ab Du}(Y:QT X c ta)(G:QB X as f)(U:QB X bs g):QS X (.If c as bs ai) (cw ta f g):=⟨qA1 Y.1 G.1 U.1⟩
def qCt (hp:ZPass X)(U:QT X c ta)(Y:QB X cu f):QS X (.While c cu [] ai) (dU ta f):=⟨B2 hp.1 U.1 Y.1⟩
def qD6 (hp:ZPass X)(B:X.calm=Vp)(U:QI X tg iter Y)(G:QG X tg h)(O:QB X cu f)(hs:∀ x,Gy iter X.env x=pure x:=by intro _;rfl):QS X (.For tg iter cu [] ai) (gS Y h f):=⟨A0 hp.1 B U.1 G.1 O.1 hs⟩
def qAJ (B:X.N.Nodup)(O:QE X e fa)(G:X.N[m]? = Aa x)(L:Loc X.env.scope x)(hs:Md e (Aa (.Name x Y)) ai.line X.env=pure Yp)(U:X.fn x=Vp\/X.env.scope.names.lookup x=Aa .local):QS X (.Assign [.Name x Y] e ai) (qV fa (bc m)):=⟨AA B O.1 G L hs U⟩
def qD4 (G:QE X e fa)(Y:QG X tg h)(hs:Ie [tg] e ai.line X.env=pure false:=by rfl)(hw:Ic [tg] e X.env=pure none:=by rfl)(U:(Gp [tg] X.env).map (·.2)=[assign tg X.env]:=by rfl):QS X (.Assign [tg] e ai) (qV fa h):=⟨CY G.1 Y.1 hs hw U⟩
def qAI {l:Aj}{U G Y:Ea}{kt k2 pt2}(w:X.calm=Vp) (H:X.N.Nodup) (M:QA X [a,b] fA) (E:X.N[m]? = Aa x) (B:X.N[l]? = Aa y) (O:m≠l) (A:X.env.scope.names.lookup x=Aa .local) (L:X.env.scope.names.lookup y=Aa .local)
  (hw:Ic [.Tuple [.Name x U,.Name y G] kt Y] (.Tuple [a,b] k2 pt2) X.env=pure (Aa [x,y]):=by rfl) (hs:Ie [.Tuple [.Name x U,.Name y G] kt Y] (.Tuple [a,b] k2 pt2) ai.line X.env=pure false:=by rfl) :
  QS X (.Assign [.Tuple [.Name x U,.Name y G] kt Y] (.Tuple [a,b] k2 pt2) ai) (f7 m l fA):=⟨A3 w H M.1 E B O A L hw hs⟩
def RO {l q:Aj}{Y B E O:Ea}{kt k2 pt2}(w:X.calm=Vp) (A:X.N.Nodup) (j:QA X [a,b,c] fA) (v:X.N[m]? = Aa x) (u:X.N[l]? = Aa y) (H:X.N[q]? = Aa z) (U:m≠l) (G:m≠q) (L:l≠q) (M:X.env.scope.names.lookup x=Aa .local) (d:X.env.scope.names.lookup y=Aa .local) (hz:X.env.scope.names.lookup z=Aa .local)
  (hw:Ic [.Tuple [.Name x Y,.Name y B,.Name z E] kt O] (.Tuple [a,b,c] k2 pt2) X.env=pure (Aa [x,y,z]):=by rfl) (hs:Ie [.Tuple [.Name x Y,.Name y B,.Name z E] kt O] (.Tuple [a,b,c] k2 pt2) ai.line X.env=pure false:=by rfl) :
  QS X (.Assign [.Tuple [.Name x Y,.Name y B,.Name z E] kt O] (.Tuple [a,b,c] k2 pt2) ai) (tU m l q fA):=⟨LH w A j.1 v u H U G L M d hz hw hs⟩
def FJ {w G:Ea}(H:X.calm=Vp)(E:Fn1 X)(B:Gl X x)(hm:X.mg x=Aa (.ref C))(L:nP X.K C O=Vp)(A:QA X (e::aw) fA)(U:(x == ("__debug__" : Ah))=Yp)(M:Bj (e::aw) X.env=(Yp,eval e X.env)::Bj aw X.env:=by rfl)(Y:(Fh G (Bj aw X.env)).any (·.1)=false:=by rfl) :
  QS X (.Raise (Aa (.Call (.Name x w) (e::aw) [] G)) Zw ai) (xI (.ref C) fA):=⟨B1 H E B hm L A.1 U M Y⟩
def qAK {U:Du}{Y:Ab Du}{q G:Ea}{M:Y0}(j:Fn1 X)(u:∀ E O,ZPass (Cx.tryIn X E O)->QB (Cx.tryIn X E O) cu f)(hs:∀ e,QB (Cx.suite X e) (U::Y) g)(l:Gl X x)(hm:X.mg x=Aa (.ref A))(L:∀ c∈M,Jt X.K c (.ref A)=Aa Vp)(z:X.N.Nodup)(d:X.N[m]? = Aa nm)(B:X.env.scope.names.lookup nm=Aa .local)(H:(x == ("__debug__" : Ah))=Yp)(w:X.N.length=n) :
  QS X (.Try cu [.ExceptHandler (Aa (.Name x q)) (Aa nm) (U::Y) G] [] [] ai) (lB n m M f g):=⟨w▸AB j (λE O y=>(u E O ⟨y⟩).1) (λe=>(hs e).1) l hm L z d B H⟩
def qEn:ZOp X (Et .Add) qR:=⟨O7⟩
def qE2:ZOp X (Et .Sub) jE:=⟨OC⟩
def qEx:ZOp X (Et .Mult) yY:=⟨XI⟩
def qEq:ZOp X (Et .FloorDiv) m7:=⟨O8⟩
def qEw:ZOp X (Et .Mod) kI:=⟨OA⟩
def qEz:ZOp X (Et .Pow) BB:=⟨OB⟩
def qFT:ZOp X (Cs .Lt) wb:=⟨TV⟩
def qFS:ZOp X (Cs .LtE) sv:=⟨qBa⟩
def qFO:ZOp X (Cs .Gt) yo:=⟨qBX⟩
def qFN:ZOp X (Cs .GtE) ze:=⟨qBW⟩
def qFQ:ZOp X (Cs .Is) xh:=⟨qBZ⟩
def qFM (Y:RoomC cm k X.A):ZOp X (Cs .Eq) fx:=⟨qBV Y.units⟩
def qFU (Y:RoomC cm k X.A):ZOp X (Cs .NotEq) io:=⟨qBb Y.units⟩
def qEy:ZUn X (Yx .USub) yB:=⟨qAi⟩
def qFR:_r X bx:=⟨qCU⟩
def qEs:gp X (.builtin "isinstance") zQ:=⟨U0⟩
def qEu:gp X (.builtin "len") zZ:=⟨NK⟩
def qEo (Y:X.calm=Vp):gp X (.builtin "all") (bG Yp):=⟨HG Yp Y⟩
def qEr:gp X (.type "int") iM:=⟨HH⟩
def qDW:gp X (.type "tuple") xR:=⟨GZ⟩
def qEK:gp X (.type "list") a0:=⟨NL⟩
def qDA:ub X "list.append" wZ:=⟨JI⟩
def qDS:ub X "list.count" m6:=⟨F0⟩
def qDT:ub X "list.index" m8:=⟨F1⟩
def qE1 (Y:RoomC cm k X.A):zk X tI:=⟨qAQ (T_ Y)⟩
end
section
variable {P:Ba}{w:Bu}{K:Ag}{mg:J8}{base:Bc}{cm:Ar}
def qDY:ZPass (jv cm P w K mg base N U ae f G A Y s H E):=⟨PC⟩
def qCM {st:Du}{k:Aj}{g:DS}(h:wj K mg x st ps)(S:c_ N ps (qH st))(G:zJ st=cu)
  (U:∀ (f:Af) (Y:Ac) (A:Bp) (O:Ab Hn) (s:Ai) (H:Hp) (E:XK),fU K x Y->RoomC cm k (A.deeper (Fw x (qH st) s.heap.objs.size f Y)) ->
   QB (jv cm P w K mg base N x (qH st) f Y A O s H E) cu g):vw P w K mg base cm (k+1) x ps.length (qM N.length g):=
 CQ h S λf Y A O s H E L B=>G▸(U f Y A O s H E L B).1
def qAy {st:Du}{k:Aj}{g:DS}(h:wj K mg x st ps)(S:c_ N ps (qH st))(G:zJ st=cu)
  (U:∀ (f:Af) (Y:Ac) (A:Bp) (O:Ab Hn) (s:Ai) (H:Hp) (E:XK),fU K x Y->RoomC cm k (A.deeper (Fw x (qH st) s.heap.objs.size f Y)) ->
   QB (jv cm P w K mg base N x (qH st) f Y A O s H E) cu g):aR P w K mg base cm (k+1) x ps (qM N.length g):=
 L6 h S λf Y A O s H E L B=>G▸(U f Y A O s H E L B).1
def L5 {st:Du}(h:wj K mg x st ps):vw P w K mg base cm 0 x ps.length λ_ _=>.bad:=by obtain⟨f,fd,G,F,O⟩:=h;exact⟨f,fd,ps,rfl,G,F.kp,O,bS F,⟨λU H Q E z=>z.1,λA B s H Y L U Q E _ _ _ _ z=>by obtain⟨_,_,_,_,_,_,_,z⟩:=z;exact Am z⟩⟩
end
structure zv (X:Cx)(ifs:Ab Bl)(t:DT):Prop where
 get:uz X ifs t
section
variable {X:Cx}{e:Bl}{es:Ab Bl}{t u:DT}
def qDQ:zv X [] zX:=⟨LJ⟩
def qCv (Y:QT X e t)(U:zv X es u):zv X (e::es) (yW t u):=⟨B4 Y.1 U.1⟩
end
def oy (o:Al (Aj × MO))(S:ag):Prop:=match o with
 |none=>Jk
 |some p=>S[p.1]? = Aa p.2
open Classical in
def lD (o:Al (Aj × MO))(S:ag):Ar:=decide (oy o S)
def yT:lD o S=Vp↔oy o S:=by simp[lD]
structure pf (K:Ag)(Jww:It)(P:Hp)(J : Ab Af)(o:Al (Aj × MO))(ds:Ab D):Prop where
 go:∀ i H P1 J1 S,i<ds.length->bf K H P1 J1 S->oy o S->qO P P1->J<+:J1->Jww.go i H
 yld:∀ i H x H' P1 J1 S,i<ds.length->bf K H P1 J1 S->oy o S->qO P P1->J<+:J1->Jww.yld i H x H'->∃ P2 d,ds[i]? = Aa d/\bf K H' P2 J1 S/\qO P1 P2/\am K P2 J1 d x
 stop:∀ i H P1 J1 S,ds.length<=i->bf K H P1 J1 S->oy o S->qO P P1->J<+:J1->Jww.stop i H
def wq.two {K:Ag}{P:Hp}(h:wq K G P J ds):pf K G P J Zw ds:=
 ⟨λi H U Y S a b _ c d=>h.go i H U Y S a b c d,λi H x O U Y S a b _ c d e=>h.yld i H x O U Y S a b c d e,λi H U Y S a b _ c d=>h.stop i H U Y S a b c d⟩
abbrev qo:=qF->ag->ax (Al (Aj × MO) × Ab D)
inductive sk (X:Cx)(f:qo)(Y : _L.St)(H:Hp)(R:It->Hp->Prop):Prop
 |mk (P:Hp) (J : Ab Af) (env:qF) (S:ag) (r:bf X.K H P J S) (re:zK X.K P J Y env) (af:qL X P J (f env S) (λp S'=>∀ Jww H' P' J',bf X.K H' P' J' S'->qO P P'->J<+:J'->pf X.K Jww P' J' p.1 p.2->R Jww H')):sk X f Y H R
def wB (f:DI):qo:=λU S=>(f U S).bind λds Y=>.ok (Zw,ds) Y
section
variable {X:Cx}{K:Ag}{tg e:Bl}{fa:DE}
def L9 (h:PI X tg e (vy X f)):PI X tg e (sk X (wB f)):=PI.weak h λY H R ⟨P,J,G,S,r,L,U⟩=>by
 refine⟨P,J,G,S,r,L,?_⟩;unfold wB at U;cases q:f G S with
 |bad=>rw[q] at U;exact U
 |ex c x y=>rw[q] at U;exact U
 |ok ds j =>
  rw[q] at U;exact λw A M B z O E it=>U w A M B z O E it.two
def DC {P:Hp}{n:Aj}(hJ:J[n]? = Aa a):pf K (_O K a) P J (Aa (n,.lst ds)) ds where
 go:=λi H O B S Y r st e G=>by obtain⟨U,z,t⟩:=r.at' n a _ (pV G hJ) st;exact⟨U,U[i]'(by rw[<- t.length];exact Y),.of z,by simp⟩
 yld:=λi H x M O B S Y r st e G y=>by obtain⟨rfl,y⟩:=y;obtain⟨U,z,t⟩:=r.at' n a _ (pV G hJ) st;have A:=y U (.of z);obtain⟨v,L,E⟩:=t.get (Be Y);rw[A] at L;cases L;exact⟨O,_,Be Y,r,qO.refl _,E⟩
 stop:=λi H O B S Y r st e G=>by obtain⟨U,z,t⟩:=r.at' n a _ (pV G hJ) st;exact⟨U,.of z,by rw[<- t.length];exact Y⟩
noncomputable def itD (d:D)(S:ag):ax (Al (Aj × MO) × Ab D):=match d with
 |.tup xs=>.ok (Zw,xs) S
 |.lst xs=>.ok (Zw,xs) S
 |.loc n=>match S[n]? with
  |some (.lst xs)=>.ok (Aa (n,.lst xs),xs) S
  |_=>.bad
 |_=>.bad
def je (f:DE):qo:=λU S=>(f U S).bind λd Y=>itD d Y
def qAz (E:PE X e (tD X fa)):PI X tg e (sk X (je fa)):=by
 intro x s Y H R I h;obtain⟨P,J,ac,S,r,re,g⟩:=h;refine bi (zO E I r re g) λj O ⟨v,c,i,J1,d,w,G1,U⟩=>?_;have G:∀ ds,xE d=Aa ds->(∀ M A L B,bf X.K A L B w->qO P L->J<+:B->pf X.K M L B Zw ds->R M A)->a8 X (Pj j) (yf X x Y tg R) X.xe O:=λds l q =>
  iU G1.inv G1.rel G1.val G1.rep l λM A L B r' h1 k it=>q M A L B r' (G1.same.trans h1) (G1.pre.trans k) it.two
 cases d with
 |tup xs=>exact G xs rfl U
 |lst xs=>exact G xs rfl U
 |loc n =>
  obtain⟨xs,u,U⟩:=bW (X:=X) (f:=λxs=>ax.ok (Aa (n,MO.lst xs),xs) w) U;have y:=G1.rep;simp only[am] at y;obtain⟨a,rfl,E⟩:=y;cases (show j=Cc a from G1.val);obtain⟨vs,z,t⟩:=G1.rel.at' n a _ E u;obtain⟨ah,rv,p,hz⟩:=G1.inv.list (kr.of z);refine Gz p.isList ?_;refine⟨O.heap.objs.size,[O.heap.objs.size],_,_,c,rfl,G1.inv.kept (t':=O.toks) λb o e=>Ak _ e,cP a _,⟨_,Bf _ rfl,rfl,rfl⟩,λb hb=>?_,U _ _ i J1 G1.rel G1.same G1.pre (DC E)⟩;have e:b=O.heap.objs.size:=by simpa using hb
  subst e;exact G1.inv.fpOk (Ay _) (G1.inv.hok.fresh (Ay _))
 |_=>exact Am U
end
noncomputable def _m (m:Ar)(Y:Bl)(aq:Ac)(ac:Hn):Km Nx:=match m with
 |false=>do let _ <- call (.builtin "list.append") [aq,<- eval Y ac]
 |true=>do let v <- eval Y ac;Mc Y.pos;let _ <- call (.builtin "set.add") [aq,v]
def wD (m:Ar)(G:Bl)(U:Ab Dy)(ae:Ey)(O:Ea)(k:Aj)(aq:Ac)(ac:Hn):Km Nx:=
 match U[k+1]? with
 |some Y=>do
  let x <- eval Y.iter ac
  Mc Y.iter.pos
  let x <- Gy Y.iter ac x;let it <- holding [x] (Pj x);let _ <- runOwn (.compStart (wM m G U ae O) (k+1) it aq ac) ac
 |none=>_m m G aq ac
def MC (m:Ar)(G Y iter:Bl)(B:Ab Bl)(U:Ab Dy)(ae:Ey)(O:Ea)(it aq:Ac)(ac:Hn)(k:Aj)(A:U[k]? = Aa ⟨Y,iter,B,0⟩)(L:∀ g',U[k+1]? = Aa g'->g'.is_async=0) :
  t0 (wM m G U ae O) k it aq ac=(do
   Mc iter.pos
   match <- Pi it with
   |none=>pure (.done .next)
   |some v =>
    Kn Y it v
    assign Y ac v
    let mut ok:=Vp
    for c in B do
     if ok then ok <- isTrue c ac (eval c ac)
    if ok then wD m G U ae O k aq ac
    again (.compLoop (wM m G U ae O) k it aq ac)):=by
 cases m <;>
 .unfold t0 wD wM _m;simp only[A];cases q:U[k+1]? with
  |none=>rfl
  |some g' =>
   have H:=L g' q;have E:(g'.is_async != 0)=false:=by rw[H];rfl
   simp only[E,Bt,Dq,bind_assoc,pure_bind];rfl
abbrev DK:=qF->ag->Ab D->ax (qF × Ab D)
def _l (o:Al (Aj × MO))(g:DG)(t:DT)(k:DK):Ab D->DK
 |[],G,S,U=>if lD o S then .ok (G,U) S else .bad
 |d::ds,G,S,U=>if lD o S then (g d G S).bind λY B=>(t Y B).bind λb O =>
   if b then (k Y O U).bind λp L=>_l o g t k ds p.1 L p.2 else _l o g t k ds Y O U
  else .bad
def z9 (fe:DE):DK:=λU S Y=>(fe U S).bind λx G=>if Y.length<bb then .ok (U,Y++[x]) G else .bad
def kIn (fi:qo)(g:DG)(t:DT)(k:DK):DK:=λY S U=>(fi Y S).bind λp G=>_l p.1 g t k p.2 Y G U
def MQ (B:Acc)(ay:Cx)(aa:J0)(P1:Hp)(J1:J9)(aq:Af)(ac:qF)(S:ag)(ds:Ab D)(s:Ai):Prop:=
 ∃ Y H P J o,gf B ay aa P1 J1 [] aq ac S ds s Y H P J o
section
variable {ay:Cx}{dw tg iter:Bl}{fj:Ab Bl}{bp:Ab Dy}{ae:Ey}{ai:Ea}{k:Aj}{it aq:Af}{fp:J9}{cg:It}{tn:Aj->Bc->Prop}{aa:J0}
def UR {X:Cx}(f:xO X aa H b)(U:b ∉ fp):xO X (aa++vG fp h) H b:=by
 obtain⟨M,A,E,O,G,Y⟩:=f;refine⟨M,A,E,O,G,λp L=>?_⟩;rcases Ch.mp L with z|z
 .exact Y p (Dh _ z)
 .rcases Ch.mp z with z|z
  .exact Y p (Cb _ z)
  .rintro rfl;exact U (c8 z).1
def ED {m:Ar}{M:Nq}{A:Bp}{Q:Fin->Ai->Prop}{Qa Qd:Ai->Prop}{E:J7}{s:Ai}{it aq:Ac}{en:Hn}(Y:bp[k]? = Aa ⟨tg,iter,fj,0⟩)(has:∀ g',bp[k+1]? = Aa g'->g'.is_async=0)
  (O:∀ s,Qa s->Q (.again (.compLoop (wM m dw bp ae ai) k it aq en)) s) (u:∀ s,Qd s->Q (.done .next) s)
  (h:Ap M A (Pi it) (λr U=>(r=Zw->Qd U)/\∀ v,r=Aa v->Ap M A (Kn tg it v) (λ_ L=>Ap M A (assign tg en v) (λ_ G=>Ap M A (kW fj en) (λb s4=>(b=Yp->Qa s4)/\(b=Vp->Ap M A (wD m dw bp ae ai k aq en) (λ_ w=>Qa w) E s4)) E G) E L) E U) E s) :
  Ap M A (t0 (wM m dw bp ae ai) k it aq en) Q E s:=by
 rw[MC m dw tg iter fj bp ae ai it aq en k Y has];refine Ad (Ig (Ad (bi h λr U ⟨y,o⟩=>?_)));cases r with
 |none=>exact An (u _ (y rfl))
 |some v =>
  refine Ad (bi (o v rfl) λ_ L j=>Ad (bi j λ_ G z=>Ad (bi z λb s4 H=>?_)));cases b with
  |false=>exact An (O _ (H.1 rfl))
  |true=>exact Ad (bi (H.2 rfl) λ_ w q=>An (O _ q))
def D0 (Y:∀ H:Hp,(∀ b∈fp,H b=Zw)->∀ b∈fp,xO ay aa H b)(U:aq ∉ fp)(o:Ce)(H':Hp)(L:∀ b∈fp,H' b=Zw):∀ b∈fp,xO ay (aa++[(aq,o)]) H' b:=λb G=>by
 obtain⟨y,j,w,A,E,O⟩:=Y H' L b G;refine⟨y,j,w,A,E,λp M=>?_⟩;rcases Ch.mp M with z|z
 .exact O p (Dh _ z)
 .rcases Ch.mp z with z|z
  .exact O p (Cb _ z)
  .rw[Bz.mp z];rintro rfl;exact U G
def gK {i:Aj}(T:oh ay.prog ay.w ay.K tg cg fp it tn)(G:tn (i+1) h)(pl:∀ b∈fp,∃ o,h.get? b=Aa o/\∀ v,o.data≠.cell v){E:Ai}{H:_L.St}{L:Hp}(O:Inv ay (aa++vG fp h) H L E):tn (i+1) E.heap/\(∀ b∈fp,L b=Zw):=by refine⟨T.keep _ _ _ G λb Y U e=>(O.pin (b,U) (Cb _ (Cb _ (jN Y e)))).1,λb Y=>?_⟩;obtain⟨U,e,A⟩:=pl b Y;exact(O.pin (b,U) (Cb _ (Cb _ (jN Y e)))).2.1
def BW (P:Ba)(w:Bu)(m:Ar)(dw:Bl)(bp:Ab Dy)(ae:Ey)(ai:Ea)(k:Aj)(it aq:Ac)(ac:Hn):(As P w).den (.compLoop (wM m dw bp ae ai) k it aq ac)=(t0 (wM m dw bp ae ai) k it aq ac).onRaise (λx=>do Kf x ac;theTreesLotGoes x):=by cases m <;> rfl
def BX (A:Bp)(m:Ar)(dw:Bl)(bp:Ab Dy)(ae:Ey)(ai:Ea)(k:Aj)(it aq:Ac)(ac:Hn):A.under (.compLoop (wM m dw bp ae ai) k it aq ac)=A:=by cases m <;> rfl
end
def iB {prog:Ba}{w:Bu}{A:Bp}{R:Qr->Ai->Prop}{s:Ai}{U:Bl}{Y:Ab Dy}{ae:Ey}{O:Ea}{k:Aj}{it aq:Ac}{ac:Hn}{m:Ar}(z:Y[k]? = Aa g)(H:g.is_async=0)
  (h0:Gs (As prog w) A (.compLoop (wM m U Y ae O) k it aq ac) R s)
  (h:Ap (As prog w) A (Pj it) (λG s'=>Gs (As prog w) A (.compLoop (wM m U Y ae O) k G aq ac) R s') (notedBy (As prog w) A ac λx s'=>R (.error x) s') s) :
  Gs (As prog w) A (.compStart (wM m U Y ae O) k it aq ac) R s:=by
 refine Pd ?_;have j:(As prog w).den (.compStart (wM m U Y ae O) k it aq ac)=(compStart (wM m U Y ae O) k it aq ac).onRaise (λx=>do Kf x ac;Mc theWindowsPlace):=by cases m <;> rfl
 have E:A.under (.compStart (wM m U Y ae O) k it aq ac)=A:=by cases m <;> rfl
 have L:(AaD (wM m U Y ae O) k it aq ac).quiet=Vp/\∀ G,(AaD (wM m U Y ae O) k G aq ac).quiet=true:=by cases m <;> exact⟨rfl,λ_=>rfl⟩
 rw[j,E];refine wpAny_notedAt ?_;have B:clausesOf (wM m U Y ae O)=Y:=by cases m <;> rfl
 have M:(g.is_async != 0)=false:=by rw[H];rfl
 unfold compStart;simp only[B,z,Option.elim,M,Bt,Dq];refine Ad (Kb (wpAny_ite ?_));split;exact An (And.intro L.1 h0);refine Ad (KT ?_);exact Ad (Ig (Ad (Ga h (λG s' h'=>An (And.intro (L.2 _) h')) λ_ _ x=>x)))
section
variable {X:Cx}{ae:Ey}{mm:Ar}
def B5 {Q:VK}(c:gU X aa Y P1 J1 ds U aq C s)(ok:if mm then gy X P1 J1 Q (.loc U.length) (U++[.lst ds]) else gy X P1 J1 Q (.lst ds) U):EP X aa Y Q (.ref aq) s:=by
 cases mm with
 |false=>exact LN c ok
 |true =>
  obtain⟨u,q,y,k,I,r,w,H,z,A,_⟩:=c;exact⟨.ref aq,_,I,rfl,tL r w A λv j O G B L E M=>ok v j O G B (H.trans L) (z.trans E) M⟩
def UF {M:Nq}{A:Bp}{E:J7}{s:Ai}{globals:Af}{Y:Ab (Ah × Af)}{B:Ah}{ac:Hn}{Q:Hn->Ai->Prop}
  (L:Q (newEnv ae s.heap.objs.size globals (HT (s.heap.objs.size+1) ae.names Y) B Zw .none (Aa ac) Po) { s with heap:=Ya (s.heap.push { cls:=.type "dict",data:=.dict #[] }) ae.names }) :
  Ap M A (Vd ae globals Y [] B Zw .none (Aa ac)) Q E s:=by
 simp only[Vd,Option.isSome_some,Dr];refine Ad (Zn ?_);refine Ad (wpAny_layCells _ (λO U H=>by cases G:U == Ol <;> simp[G]) _ _ _ _ ?_);rw[show ({ s with heap:=s.heap.push { cls:=.type "dict",data:=.dict #[] } } : Ai).heap.objs.size=s.heap.objs.size+1 from Ep ..];refine Ad ?_;rw[Np];exact An (An L)
end
section
def qDE:D->Ab D->ag->ax D:=λa ds S=>match a,ds with
 |.loc n,[i,x]=>match S[n]? with
  |some (.dct Y)=>match IG i with
   |some k=>match qAl Y k with
    |some d=>.ok d S
    |none=>if Y.length<bb then .ok x (S.set n (.dct (qCj Y k x))) else .bad
   |none=>.bad
  |_=>.bad
 |_,_=>.bad
noncomputable def uP:Ab D->Al (Ab Aq)
 |[]=>Aa []
 |.int i::r=>(uP r).map (i::·)
 |_::_=>Zw
def hZ (ns:Ab Aq):uP (ns.map D.int)=Aa ns:=by
 induction ns with
 |nil=>rfl
 |cons n r Y=>exact congrArg (Option.map (n::·)) Y
theorem l0:∀ {ds:Ab D} {ns:Ab Aq},uP ds=Aa ns->ds=ns.map D.int
 |[],ns,h=>by cases h;rfl
 |d::r,ns,h=>by
  cases d with
  |int i =>
   obtain⟨m,Y,rfl⟩:=Eo.mp (show (uP r).map (i::·)=Aa ns from h);rw[l0 Y];rfl
  |_=>exact nn h
theorem mE {K:Ag}{P:Hp}:∀ {ns:Ab Aq} {vs:Ab V},qJ K P J (ns.map D.int) vs->vs=ns.map V.int
 |[],vs,r=>by rw[r.nil_inv];rfl
 |n::ns,vs,r=>by obtain⟨w,Y,rfl,p,t⟩:=r.cons_inv;simp only[am] at p;rw[p,mE t];rfl
def sZ:G2:=λa b S=>match a,b with
 |.tup xs,.tup ys=>match uP xs,uP ys with
  |some U,Aa Y=>.ok (.bl (_H.lexLt U Y)) S
  |_,_=>.bad
 |_,_=>wb a b S
end
section
variable {X:Cx}
def QH {H P:Hp}{xs:Ab D}(I:Inv X aa Y H s)(r:bf X.K H P J S)(O:qT v G)(p:am X.K P J (.tup xs) v)(h:uP xs=Aa ns) :
  ∃ a ah,G=.ref a/\Tc s.heap a (Ni ah)/\Lm ah ns:=by
 have:=l0 h;subst this;obtain⟨a,M,ah,rfl,E,L,U,B,A,_⟩:=kX I r p;have:=mE L;subst this;exact⟨a,ah,O,B,by simpa using YA U⟩
set_option tactic.hygienic true in
def O9 (w:X.A.units<Fj):il X (Cs .Lt) sZ:=by
 intro j Y H s P J S v u M q a b Q I r B E G L U;unfold sZ at U;split at U
 .rename_i xs ys;split at U
  .rename_i p l k A;obtain⟨a,ah,rfl,o,y⟩:=QH I r B G k;obtain⟨b,O,rfl,z,i2⟩:=QH I r E L A;exact _H.qq o z (by simpa using y) (by simpa using i2) w ⟨.bl _,H,I,rfl,xr U r (by simp only[am])⟩
  .exact Am U
 .exact TV j Y H s P J S v u M q a b Q I r B E G L U
end
end _D
namespace _D
open _L PySem.SeqAt
section
variable {X:Cx}{aa:J0}{Y: _L.St}{H P:Hp}{J: Ab Af}{S:ag}{s:Ai}
inductive zu (X:Cx)(P:Hp)(J : Ab Af)(d d':D):Prop
 |eq (h:d=d')
 |tt (xs ys:Ab D) (its:Y0) (ed:d=.tup xs) (ed':d'=.tup ys) (q:kf X P J xs ys its its)
 |ll (xs ys:Ab D) (its:Y0) (ed:d=.lst xs) (ed':d'=.lst ys) (q:kf X P J xs ys its its)
def N0 (k1:Kd X P J s d u)(k2:Kd X P J s d' u):zu X P J d d':=by
 cases k1 with
 |non=>cases k2;exact .eq rfl
 |bl b=>cases k2;exact .eq rfl
 |int i t=>cases k2;exact .eq rfl
 |str x t=>cases k2;exact .eq rfl
 |tup a B I L A E h q =>
  cases k2 with
  |tup _ O G C Q U N T =>
   cases ZX h N;exact .tt B O I rfl rfl ⟨L,C,A,E,Q,U⟩
  |lst _ O G C Q U N T=>exact(YD h N).elim
 |lst a B I L A E h q =>
  cases k2 with
  |lst _ O G C Q U N T =>
   cases ZV h N;exact .ll B O I rfl rfl ⟨L,C,A,E,Q,U⟩
  |tup _ O G C Q U N T=>exact(YD N h).elim
def eT (I:Inv X aa Y H s)(r:bf X.K H P J S){m:Aj}(y:∀ (d d' e:D) (u:Ac),pl m d=Vp->pl m d'=Vp->Kd X P J s d u->Kd X P J s d' u->gz d e=gz d' e){xs ys N:Ab D}{ah:Y0}(A:xs.all (pl m)=Vp)(C:ys.all (pl m)=Vp)(q:kf X P J xs ys ah ah):xW xs N=xW ys N:=by
 obtain⟨v,g,T,E,U,G⟩:=q;have k:=T.length.trans E.length;have z:=U.length.trans G.length;rw[vK,vK,k,z];congr 1;have O:∀ j∈Cp (min ah.length N.length),gz (xs.getD j .non) (N.getD j .non)=gz (ys.getD j .non) (N.getD j .non):=λj Q=>by
  have w:=Fe.mp Q;have Q:j<ah.toArray.size:=by rw[Bk];lia
  obtain⟨c,l,o,L⟩:=vM T E Q;obtain⟨f,p,M,B⟩:=vM U G Q;exact y _ _ _ _ (wV A L) (wV C B) (vI I r (wV A L) l o) (vI I r (wV C B) p M)
 rw[Kv,Bg,Bg];exact⟨λh j Q=>(O j Q)▸h j Q,λh j Q=>(O j Q).symm▸h j Q⟩
def LO (I:Inv X aa Y H s)(r:bf X.K H P J S):∀ (n:Aj) (d d' e:D) (u:Ac),pl n d=Vp->pl n d'=Vp->Kd X P J s d u->Kd X P J s d' u->gz d e=gz d' e:=by
 intro n
 induction n with
 |zero =>
  intro d d' e u G N C O;cases N0 C O with
  |eq h=>rw[h]
  |tt _ _ _ U=>subst U;exact Gr G
  |ll _ _ _ U=>subst U;exact Gr G
 |succ m B =>
  intro d d' e u G N C O;cases N0 C O with
  |eq h=>rw[h]
  |tt E T L U Q q =>
   subst U Q;cases e with
   |tup A=>exact eT I r B G N q
   |_=>rfl
  |ll E T L U Q q =>
   subst U Q;cases e with
   |lst A=>exact eT I r B G N q
   |_=>rfl
open Classical in
def wc (X:Cx)(P:Hp)(J : Ab Af)(s:Ai)(xs:Ab D)(d:D)(y:Ac):Ar:=if h:∃ z,z∈xs/\Kd X P J s z y then gz (Lx h) d else Yp
def UC (I:Inv X aa Y H s)(r:bf X.K H P J S){n:Aj}{xs:Ab D}{vs:Ab V}{ah:Y0}{d:D}(h:xs.all (pl n)=Vp)(N:qJ X.K P J xs vs)(O:qQ vs ah){j:Aj}(G:j<ah.length):∃ z,z∈xs/\Kd X P J s z ah[j]/\wc X P J s xs d ah[j]=gz z d/\gz z d=gz (xs.getD j .non) d:=by obtain⟨w,y,z,m⟩:=vM N O (j:=j) (by rw[Bk];exact G);have k:=vI I r (wV h m) y z;have U:∃ z,z∈xs/\Kd X P J s z ah[j]:=⟨_,m,k⟩;have Q:=Le U;refine⟨Lx U,Q.1,Q.2,?_,LO I r n _ _ d _ (wV h Q.1) (wV h m) Q.2 k⟩;unfold wc;rw[dif_pos U]
def LL (I:Inv X aa Y H s)(r:bf X.K H P J S){n:Aj}{xs:Ab D}{vs:Ab V}{ah:Y0}{d:D}(h:xs.all (pl n)=Vp)(G:qJ X.K P J xs vs)(N:qQ vs ah):ah.map (wc X P J s xs d)=xs.map λx=>gz x d:=by have l:=G.length.trans N.length;refine Sw (by rw[Ao,Ao,l]) λj Q U=>?_;rw[Ao] at Q U;rw[Kc,Kc];obtain⟨z,_,_,O,C⟩:=UC (d:=d) I r h G N Q;rw[O,C];simp[Mg,U]
def UD (I:Inv X aa Y H s)(r:bf X.K H P J S){n:Aj}{A:Bp}{xs:Ab D}{vs:Ab V}{ah:Y0}{d:D}{v:V}{u:Ac}(N:A.units+n<Fj)(h:xs.all (pl n)=Vp)(Q:pl n d=Vp)(C:qJ X.K P J xs vs)(B:qQ vs ah)(p:am X.K P J d v)(q:qT v u):∀ y,y∈ah.toArray->EqAt A s y u (wc X P J s xs d y):=λy L=>by obtain⟨j,G,rfl⟩:=Eb.mp (show y∈ah by simpa using L);obtain⟨z,U,k,O,_⟩:=UC (d:=d) I r h C B G;rw[O];exact(iI I r n A z d _ u N (wV h U) Q k (vI I r Q p q)).eq
def tw (a b:D):Al Ar:=match xE b with
 |some Q=>if Q.all (pl qY)&&pl qY a then Aa (Q.any λx=>gz x a) else Zw
 |none=>Zw
def tz:G2:=λa b S=>match tw a b with
 |some k=>.ok (.bl k) S
 |none=>.bad
def pL:G2:=λa b S=>match tw a b with
 |some k=>.ok (.bl (!k)) S
 |none=>.bad
def BJ (h:tw a b=Aa k):∃ xs,_P b xs/\xs.all (pl qY)=Vp/\pl qY a=Vp/\k=xs.any λx=>gz x a:=by
 unfold tw at h;cases e:xE b with
 |none=>rw[e] at h;exact nn h
 |some xs =>
  rw[e] at h;obtain⟨c,rfl⟩:=kL h;have Q:=Ct.mp c;exact⟨xs,R_ e,Q.1,Q.2,rfl⟩
def bL (i:X.A.units+64<Fj)(I:Inv X aa Y H s)(r:bf X.K H P J S){a b:D}{v u:V}{T C:Ac}{k:Ar}(p:qT v T)(g:qT u C)(y:am X.K P J a v)(j:am X.K P J b u)(h:tw a b=Aa k) :
  (∀ {Q:J7} {E:J7},Q (.bool k) s->a8 X (Cs .In T C) Q E s)/\∀ {Q:J7} {E:J7},Q (.bool (!k)) s->a8 X (Cs .NotIn T C) Q E s:=by
 obtain⟨G,c,M,w,rfl⟩:=BJ h;have B:X.A.in1.units+qY<Fj:=by show X.A.units+1+qY<Fj;unfold qY;lia
 have any:∀ {o:Ab V} {N:Y0},qJ X.K P J G o->qQ o N->N.toArray.any (wc X P J s G a)=G.any λx=>gz x a:=λm U=>by rw[<- Array.any_toList];have e:=congrArg (λl=>l.any id) (LL (d:=a) I r M m U);rw[Xj,Xj] at e;exact e
 cases c with
 |tup A =>
  subst A;obtain⟨l,f,N,rfl,sq,t,U,L,_,_⟩:=kX I r j;cases (show C=Cc l from g);have O:=UD I r B M w t U y p;exact⟨λq=>in_tupleAt (wc X P J s G a) L O (by rw[any t U];exact q),λq=>notIn_tupleAt (wc X P J s G a) L O (by rw[any t U];exact q)⟩
 |lst A =>
  subst A;obtain⟨l,f,N,n,rfl,sq,t,U,L,_,_⟩:=uB I r j;cases (show C=Cc l from g);have z:s.heap.IsList l N.toArray:=⟨_,L,Z,n,Z⟩;have O:=UD I r B M w t U y p;exact⟨λq=>in_listAt (wc X P J s G a) z O (by rw[any t U];exact q),λq=>notIn_listAt (wc X P J s G a) z O (by rw[any t U];exact q)⟩
def qBY (O:X.A.units+64<Fj):il X (Cs .In) tz:=by
 intro aa Y H s P J S v u T E a b Q I r C L N B G;have U:qL X P J (match tw a b with|some k=>ax.ok (D.bl k) S|none=>.bad) (gy X P J Q):=G;clear G;cases e:tw a b with
 |none=>rw[e] at U;exact Am U
 |some k =>
  rw[e] at U;exact(bL O I r C L N B e).1 ⟨.bl _,H,I,Z,xr U r (by simp only[am])⟩
def F9 (O:X.A.units+64<Fj):il X (Cs .NotIn) pL:=by
 intro aa Y H s P J S v u T E a b Q I r C L N B G;have U:qL X P J (match tw a b with|some k=>ax.ok (D.bl (!k)) S|none=>.bad) (gy X P J Q):=G;clear G;cases e:tw a b with
 |none=>rw[e] at U;exact Am U
 |some k =>
  rw[e] at U;exact(bL O I r C L N B e).2 ⟨.bl _,H,I,Z,xr U r (by simp only[am])⟩
end
end _D
namespace _D
open _L
section
variable {X:Cx}
def bJ:G2:=λa b S=>match a,b with
 |.lst Q,.int k=>if 0<=k/\k<2 ^ 62/\Q.length*k.toNat<=bb then .ok (.lst (Da k.toNat Q).flatten) S else .bad
 |_,_=>yY a b S
theorem Q3 {K:Ag}{P:Hp}(r:qJ K P J ds vs):∀ k:Aj,qJ K P J (Da k ds).flatten (Da k vs).flatten
 |0=>by simpa using qJ.nil
 |k+1=>by rw[He,He,Jm,Jm];exact r.append (Q3 r k)
inductive _C (a b:D)(S:ag):Prop
 |old (e:bJ a b S=yY a b S)
 |of (xs:Ab D) (k:Aq) (ea:a=.lst xs) (eb:b=.int k)
def qCd (a b:D)(S:ag):_C a b S:=by
 cases a with
 |lst Q=>cases b with
  |int k=>exact .of Q k rfl rfl
  |_=>exact .old rfl
 |_=>exact .old rfl
def SW:il X (Et .Mult) bJ:=by
 intro i Y H s P J S v u y uu a b Q I r q p j o L;cases qCd a b S with
 |old e =>
  rw[e] at L;exact XI i Y H s P J S v u y uu a b Q I r q p j o L
 |of xs k x d =>
  subst x d;obtain⟨g,L⟩:=xD (X:=X) L;obtain⟨h1,h2,z⟩:=g;obtain⟨l,h,G,n,rfl,q1,t1,A,e,f,_⟩:=uB I r j;cases (show y=Cc l from q);have:=xU o;subst this;obtain⟨t,rfl⟩:=p;have hl:G.length=h.length:=A.length.symm;have B:G.toArray.size*k.toNat<=sizeLine:=by rw[Bk,<- f,<- zP];exact z
  have E:¬ G.toArray.size*k.toNat>(2 ^ 63-1)/8:=by
   have:(sizeLine:Aj)<=(2 ^ 63-1)/8:=by decide
   fin2
  have C:¬ (!Builtin.List.listFitsIndex k)=true:=by rw[fitsIndex_both om om];exact Es
  have N:¬ Mv (G.toArray.size*k.toNat)=true:=by rw[F8 B];exact Es
  have O:Aa1 (λM w=>M++w) #[] (Da (if G.toArray.isEmpty=Vp then 0 else k.toNat) G.toArray)=(Da k.toNat G).flatten.toArray:=by
   have c:∀ m:Aj,Aa1 (λM w=>M++w) #[] (Da m G.toArray)=(Da m G).flatten.toArray:=λm=>by have:=eX G m [];rw[Ji] at this;exact this
   rw[c];cases G with
   |nil=>simp
   |cons a r'=>rw[AT aA]
  refine wpAny_binaryOp_repeat_ref (T:="list") (U:="int") aC ⟨_,e,Z⟩ (λs'=>typeIs_int s' k t) noFill_list_mul F.fills_int_mul u8 repeat_list F.slot_int_index.lookup
   (Jz u8 (typeIs_int s k t) F.entry_int_rmul (F.args_int_rmul_2 _ _) (int___rmul___int_list k t l G.toArray n)
    ⟨e,Z,⟨_,e,Z⟩,Jz F.slot_list_mul ⟨_,e,Z⟩ F.entry_list_mul (F.args_list_mul_2 _ _) (AutoListH.list___mul___list_int_3 l G.toArray n k t C E N) ⟨e,?_⟩⟩)
  rw[O];exact iY I r (Q3 t1 k.toNat) (A.rep k.toNat) (by rw[rF,Nat.mul_comm];exact z) L
def GU:Gi "set" = Aa (.type "set"):=by decide +kernel
end
structure Z0 (X:Cx)(tg it:Bl)(f:qo):Prop where
 get:PI X tg it (sk X f)
section
variable {X:Cx}{tg it e:Bl}{fa:DE}{fI:DI}{k:Aj}{cm:Ar}
def qD0 (h:QI X tg it fI):Z0 X tg it (wB fI):=⟨L9 h.1⟩
def qDz (h:QE X e fa):Z0 X tg e (je fa):=⟨qAz h.1⟩
def qEv (Q:RoomC cm k X.A):ZOp X (Cs .Lt) sZ:=⟨O9 (by have:=T_ Q;fin2)⟩
def qEL:ZOp X (Et .Mult) bJ:=⟨SW⟩
end
def mX (H:Hp):Ab (Af × HO)->Hp
 |[]=>H
 |p::Q=>mX (bz H p.1 p.2) Q
theorem eD {b:Af}:∀ {L:Ab (Af × HO)} {H:Hp},b ∉ L.map (·.1)->mX H L b=H b
 |[],_,_=>rfl
 |p::Q,H,h=>by simp only[Ej,Av,not_or] at h;show mX (bz H p.1 p.2) Q b=H b;rw[eD h.2,qP h.1]
theorem QN:∀ {L:Ab (Af × HO)} {H:Hp},mX H L b=Aa u->(b,u)∈L\/H b=Aa u
 |[],_,h=>.inr h
 |p::Y,H,h=>by
  rcases QN (L:=Y) (H:=bz H p.1 p.2) h with h|h
  .exact .inl (Bn _ h)
  .by_cases Q:b=p.1
   .subst Q;rw[qX] at h;cases h;exact .inl (Cr ..)
   .rw[qP Q] at h;exact .inr h
section
variable {X:Cx}{aa:J0}{Y: _L.St}{H:Hp}{s:Ai}
def Inv.laidL {L:Ab (Af × HO)}{h':Bc}{t':Aj}(I:Inv X aa Y H s)(k:∀ b u,s.heap.get? b=Aa u->h'.get? b=Aa u)(hp:∀ p∈L,s.heap.objs.size<=p.1)(G:∀ p∈L,zR X.prog X.w (mX H L) h' p.1 p.2) :
  Inv X aa Y (mX H L) { s with heap:=h',toks:=t' }:=by
 have Q:∀ b u,H b=Aa u->mX H L b=Aa u:=λb u e=>by
  rw[eD (L:=L)];exact e;intro hb;obtain⟨p,J,rfl⟩:=Cf.mp hb;rw[I.hok.fresh (hp p J)] at e;cases e
 have U:∀ b,b<s.heap.objs.size->mX H L b=H b:=λb hb=>eD λN=>by obtain⟨p,J,rfl⟩:=Cf.mp N;exact absurd (Bq hb (hp p J)) (Fg _)
 refine I.un ⟨λb u q _ _ _=>k b u q,λb u q _ _ _=>⟨u.slots,k b u q⟩,λb u q n _=>by rw[U b (Bh q)];exact n,λb u q _=>⟨u,k b u q⟩,λb O q=>Q b _ q,λb o O q=>Q b _ q,λb C q=>⟨#[],by rw[Q b _ q];simp⟩⟩ λb u e=>?_;rcases QN e with N|hb
 .exact G (b,u) N
 .exact(I.hok b u hb).stay (λc v _ q=>k c v q) (λc q=>Q c _ q) λc O q=>Q c _ q
end
section
variable {X:Cx}{cm:Ar}{k:Aj}
def qFP (Q:RoomC cm k X.A):ZOp X (Cs .In) tz:=⟨qBY Q.units⟩
def qDU (Q:RoomC cm k X.A):ZOp X (Cs .NotIn) pL:=⟨F9 Q.units⟩
end
end _D
namespace _S
variable {mask:Aj}{xs:Bs Aj}{t:Fq}
def Rs (xs:Bs Aj):Prop:=xs.toList.Pairwise (· < ·)
def Rs.lt (h:Rs xs){a b:Aj}{x y:Aj}(Q:a<b)(U:xs[a]? = Aa x)(G:xs[b]? = Aa y):x<y:=by obtain⟨N,O⟩:=Cq.mp U;obtain⟨Y,J⟩:=Cq.mp G;have:=Ro.mp h a b (by simpa using N) (by simpa using Y) Q;rw[<- O,<- J];simpa using this
def sr {i x d:Aj}(h:xs[i]? = Aa x):xs.getD i d=x:=by obtain⟨Q,Y⟩:=Cq.mp h;simp[Jd,Q,Y]
structure Bel (xs:Bs Aj)(j p:Aj):Prop where
 le:p<=xs.size
 lo:∀ i x,i<p->xs[i]? = Aa x->x<j
 hi:∀ i x,p<=i->xs[i]? = Aa x->j<=x
set_option tactic.hygienic true in
theorem nO (h:Rs xs)(j:Aj):∀ (fuel lo Q:Aj),Q-lo<=fuel->lo<=Q->Q<=xs.size ->
  (∀ i x,i<lo->xs[i]? = Aa x->x<j)->(∀ i x,Q<=i->xs[i]? = Aa x->j<=x)->Bel xs j (Yb xs j fuel lo Q)
 |0,lo,Q,L,B,U,G,N=>by
  have:lo=Q:=by lia
  subst this;exact⟨U,G,N⟩
 |fuel+1,lo,Q,L,B,U,G,N=>by
  unfold Yb;by_cases J:lo<Q
  .rw[Au J];have T:(lo+Q)/2<xs.size:=by lia
   have e:xs[(lo+Q)/2]? = Aa xs[(lo+Q)/2]:=Dk T;simp only[sr e];split
   .rename_i O;refine nO h j fuel _ Q ak ak U (λi x C Y=>?_) N;by_cases q:i=(lo+Q)/2
    .subst q;rw[e] at Y;cases Y;exact O
    .exact Ng (h.lt ak Y e) O
   .rename_i O;refine nO h j fuel lo _ ak ak ak G (λi x C Y=>?_);by_cases q:i=(lo+Q)/2
    .subst q;rw[e] at Y;cases Y;lia
    .have:=h.lt (show (lo+Q)/2<i by lia) e Y;lia
  .rw[AT J];have:lo=Q:=by lia
   subst this;exact⟨U,G,N⟩
def kD (h:Rs xs)(j:Aj):Bel xs j (Cg xs j):=
 nO h j _ _ _ ak ak (Ay _) (λi x Q=>by lia) λi x Q Y=>by have:=(Cq.mp Y).1;lia
def nN (h:Rs xs){i j:Aj}(e:xs[i]? = Aa j):Cg xs j=i:=by
 have b:=kD h j;have U:=(Cq.mp e).1;by_cases Y:Cg xs j<i;have Q:xs[Cg xs j]? = Aa xs[Cg xs j]:=Dk ak;have:=h.lt Y Q e;have:=b.hi _ _ (Ay _) Q;lia
 .by_cases J:i<Cg xs j
  .have:=b.lo _ _ J e;lia
  .lia
def WW (h:Rs xs){i j:Aj}(e:xs[i]? = Aa j):Cg xs (j+1)=i+1:=by
 have b:=kD h (j+1);have U:=(Cq.mp e).1;have G:i<Cg xs (j+1):=by apply Ez;intro q;have:=b.hi _ _ ak e;lia
 by_cases Y:i+1<Cg xs (j+1)
 .have J:i+1<xs.size:=by have:=b.le;lia
  have Q:xs[i+1]? = Aa xs[i+1]:=Dk J;have:=b.lo _ _ Y Q;have:=h.lt (Fv i) e Q;lia
 .lia
def WX (h:Rs xs):Cg xs 0=0:=by
 have b:=kD h 0;apply Ez;intro q;have Q:0<xs.size:=by have:=b.le;lia
 have Y:xs[0]? = Aa xs[0]:=Dk Q;have:=b.lo _ _ ak Y;lia
structure Tb (t:Fq):Prop where
 rs:Rs t.place
 dm:t.dummies=#[]
def ZO (j:Aj):Xk #[] j=false:=by simp[Xk]
def cK (T:Tb t){i j:Aj}(e:t.place[i]? = Aa j):t.slot j=.live i:=by unfold AaE;simp only[nN T.rs e,e];simp
def VC (T:Tb t)(j:Aj):(∃ i,t.slot j=.live i/\t.place[i]? = Aa j)\/(t.slot j=.empty/\j ∉ t.place.toList):=by
 by_cases h:j∈t.place.toList
 .obtain⟨i,Y,e⟩:=Eb.mp h;have Q:t.place[i]? = Aa j:=by rw[<- By,Be Y,e]
  exact .inl ⟨i,cK T Q,Q⟩
 .refine .inr ⟨?_,h⟩;unfold AaE;simp only[T.dm,ZO];rw[AT,AT aA];intro q;apply h;have:t.place[Cg t.place j]? = Aa j:=by simpa using q
  obtain⟨U,J⟩:=Cq.mp this;rw[<- J];simp
def KJ (h:Rs xs){j:Aj}(O:j ∉ xs.toList):Rs (Dz xs (Cg xs j) j):=by
 have b:=kD h j;unfold Rs;rw[Sc];have Y:∀ (i:Aj) (x:Aj),xs.toList[i]? = Aa x->(i<Cg xs j->x<j)/\(Cg xs j<=i->j<x):=λi x e=>by
  have N:xs[i]? = Aa x:=by rw[<- By];exact e
  refine⟨λq=>b.lo _ _ q N,λq=>?_⟩;have C:=b.hi _ _ q N;have:x≠j:=by rintro rfl;exact O (Cd e)
  lia
 have G:∀ x∈xs.toList.take (Cg xs j),x<j:=λx Q=>by obtain⟨i,J,e⟩:=Eb.mp Q;rw[Fo] at J;rw[List.getElem_take] at e;exact(Y i x (by rw[Be ak,e])).1 ak
 have U:∀ x∈xs.toList.drop (Cg xs j),j<x:=λx Q=>by obtain⟨i,J,e⟩:=Eb.mp Q;rw[Gq] at J;rw[List.getElem_drop] at e;exact(Y (Cg xs j+i) x (by rw[Be ak,e])).2 ak
 rw[Vk,Fc];refine⟨List.Pairwise.take h,⟨U,List.Pairwise.drop h⟩,λx Q y hy=>?_⟩;rcases Av.mp hy with rfl|hy
 .exact G x Q
 .exact Ng (G x Q) (U y hy)
def lU {J:Type}(xs:Bs J){p:Aj}(hp:p<=xs.size)(x:J)(i:Aj):(Dz xs p x)[i]? = if i<p then xs[i]? else if i=p then Aa x else xs[i-1]?:=by
 rw[<- By,Sc];have G:(xs.toList.take p).length=p:=by simp;lia
 by_cases Q:i<p;rw[Au Q,Cn ak,Sb Q,By]
 .rw[AT Q,Ec ak,G];by_cases Y:i=p
  .subst Y;simp
  .rw[AT Y];obtain⟨k,U⟩:∃ k,i-p=k+1:=⟨i-p-1,by lia⟩
   rw[U,Nj,WP,By];congr 1;lia
def gQ {J:Type}(xs:Bs J)(p:Aj)(x:J):(Dz xs p x).size=xs.size+1:=by have:=(Kw xs p x).length_eq;simpa using this
def qAE (T:Tb t){j:Aj}(Q:j ∉ t.place.toList):Tb (t.put j).1:=by refine⟨KJ T.rs Q,?_⟩;show (if Xk t.dummies j then _ else t.dummies)=#[];rw[T.dm,ZO];rfl
open PySem.SetTable (Probe leap runEnd turns bits)
noncomputable def rn (mask:Aj)(p:Nu):Nu:=if p.more>0 then { p with j:=p.j+1,more:=p.more-1 } else { p with j:=(leap mask p.i p.perturb).1,more:=Hj mask (leap mask p.i p.perturb).1-(leap mask p.i p.perturb).1,i:=(leap mask p.i p.perturb).1,perturb:=(leap mask p.i p.perturb).2 }
def H9 (t:Fq)(p:Nu):t.advance p=rn t.mask p:=Z
def it (mask:Aj):Aj->Nu->Nu
 |0,p=>p
 |n+1,p=>it mask n (rn mask p)
theorem tK (mask:Aj):∀ (n:Aj) (p:Nu),it mask (n+1) p=rn mask (it mask n p)
 |0,p=>rfl
 |n+1,p=>tK mask n (rn mask p)
theorem lX (mask:Aj):∀ (m n:Aj) (p:Nu),it mask (m+n) p=it mask n (it mask m p)
 |0,n,p=>by rw[Tg];rfl
 |m+1,n,p=>by rw[Qm];exact lX mask m n (rn mask p)
noncomputable def rs (mask i Q:Aj):Nu:={ j:=i,more:=Hj mask i-i,i,perturb:=Q,dummy:=Zw }
def st (mask:Aj)(h:Aq):Nu:=rs mask (bits h % (mask+1)) (bits h)
theorem mF (mask i Q:Aj):∀ k,k<=Hj mask i-i->it mask k (rs mask i Q)={ j:=i+k,more:=Hj mask i-i-k,i,perturb:=Q,dummy:=Zw }
 |0,_=>rfl
 |k+1,Y=>by rw[tK,mF mask i Q k ak];unfold rn;rw[Au (by show Hj mask i-i-k>0;lia)];simp only[Probe.mk.injEq,and_true,true_and];lia
def X0 (mask i Q:Aj):it mask (Hj mask i-i+1) (rs mask i Q)=rs mask (leap mask i Q).1 (leap mask i Q).2:=by rw[tK,mF mask i Q _ (Ay _)];unfold rn;rw[AT (by show ¬ (Hj mask i-i-(Hj mask i-i)>0);lia)];rfl
def qAO (mask i:Aj):Hj mask i-i+1<=10:=by unfold Hj;split <;> lia
def lp (mask:Aj):Aj->Aj × Aj->Aj × Aj
 |0,q=>q
 |n+1,q=>lp mask n (leap mask q.1 q.2)
theorem JG (mask:Aj):∀ (m n:Aj) (q:Aj × Aj),lp mask (m+n) q=lp mask n (lp mask m q)
 |0,n,p=>by rw[Tg];rfl
 |m+1,n,p=>by rw[Qm];exact JG mask m n _
theorem MZ (mask:Aj):∀ (n i Q:Aj),∃ k,k<=10*n/\it mask k (rs mask i Q)=rs mask (lp mask n (i,Q)).1 (lp mask n (i,Q)).2
 |0,i,Q=>⟨0,by lia,rfl⟩
 |n+1,i,Q=>by obtain⟨k,Y,e⟩:=MZ mask n (leap mask i Q).1 (leap mask i Q).2;refine⟨(Hj mask i-i+1)+k,by have:=qAO mask i;lia,?_⟩;rw[lX,X0,e];rfl
theorem XA (mask:Aj):∀ (n i Q:Aj),(lp mask n (i,Q)).2=Q/32 ^ n
 |0,i,Q=>by simp[lp]
 |n+1,i,Q=>by show (lp mask n ((leap mask i Q).1,Q/32)).2=_;rw[XA mask n _ (Q/32),Nat.div_div_eq_div_mul,<- Nat.pow_succ']
def rD (mask i Q:Aj):(leap mask i Q).1<=mask:=Lf (Oa _ (Ki _))
theorem T9 (mask:Aj):∀ (n i Q:Aj),i<=mask->(lp mask n (i,Q)).1<=mask
 |0,i,Q,h=>h
 |n+1,i,Q,h=>T9 mask n _ _ (rD mask i Q)
def zg (h:Aq):bits h<2 ^ 64:=by unfold bits;have Q:(0:Aq)<=h % 2 ^ 64:=Mp _ aC;have Y:h % 2 ^ 64<(2 ^ 64:Aq):=Kl _ aC;lia
def uw (mask:Aj):Aj->Aj->Aj
 |0,i=>i
 |n+1,i=>uw mask n ((i*5+1) % (mask+1))
theorem tF (mask:Aj):∀ (m n i:Aj),uw mask (m+n) i=uw mask n (uw mask m i)
 |0,n,p=>by rw[Tg];rfl
 |m+1,n,p=>by rw[Qm];exact tF mask m n _
theorem JH (mask:Aj):∀ (n i:Aj),(lp mask n (i,0)).1=uw mask n i
 |0,i=>rfl
 |n+1,i=>by
  show (lp mask n (leap mask i 0)).1=_;have:leap mask i 0=((i*5+1) % (mask+1),0):=by simp[leap]
  rw[this,JH mask n];rfl
def um (mask:Aj):Prop:=mask=7\/mask=31\/mask=127\/mask=511\/mask=2047
noncomputable def yz (mask:Aj):Aj->Aj->Aj->Aj
 |0,_,Q=>Q
 |n+1,i,Q=>yz mask n ((i*5+1) % (mask+1)) (Q ||| 1 <<< i)
def U6 (mask:Aj):Ar:=yz mask (mask+1) 0 0 == 2 ^ (mask+1)-1&&uw mask (mask+1) 0 == 0
def U7 (h:um mask):U6 mask=true:=by rcases h with rfl|rfl|rfl|rfl|rfl <;> decide +kernel
theorem XJ (mask e:Aj):∀ (n i aq:Aj),(yz mask n i aq).testBit e=Vp->aq.testBit e=Vp\/∃ m,m<n/\uw mask m i=e
 |0,i,aq,h=>.inl h
 |n+1,i,aq,h=>by
  rcases XJ mask e n _ _ h with q|⟨m,Q,q⟩
  .rw[Nat.testBit_or,Kt] at q;rcases q with q|q
   .exact .inl q
   .rw[Nat.one_shiftLeft,Nat.testBit_two_pow,Bb] at q;exact .inr ⟨0,by lia,q⟩
  .exact .inr ⟨m+1,by lia,q⟩
def PF (h:um mask){i e:Aj}(O:i<=mask)(Y:e<=mask):∃ n,n<=mask/\uw mask n i=e:=by
 have a:=U7 h;unfold U6 at a;rw[Ax] at a;obtain⟨Q,G⟩:=a;have Q:yz mask (mask+1) 0 0=2 ^ (mask+1)-1:=by simpa using Q
 have g:∀ e,e<=mask->∃ n,n<=mask/\uw mask n 0=e:=λe Y=>by
  have q:(yz mask (mask+1) 0 0).testBit e=true:=by rw[Q,Nat.testBit_two_pow_sub_one];simp;lia
  rcases XJ mask e _ _ _ q with q|⟨n,U,q⟩
  .simp at q
  .exact⟨n,by lia,q⟩
 have N:uw mask (mask+1) 0=0:=by simpa using G
 obtain⟨m,C,em⟩:=g i O;obtain⟨n,U,J⟩:=g e Y;by_cases q:m<=n;refine⟨n-m,by lia,?_⟩;rw[<- em,<- tF,show m+(n-m)=n by lia];exact J;refine⟨n+(mask+1)-m,by lia,?_⟩;rw[<- em,<- tF,show m+(n+(mask+1)-m)=(mask+1)+n by lia,tF,N];exact J
def o6 (h:um mask){i Q e:Aj}(J:i<=mask)(hp:Q<2 ^ 64)(U:e<=mask):∃ n,n<=mask+13/\(lp mask n (i,Q)).1=e:=by
 have Y:(lp mask 13 (i,Q)).2=0:=by rw[XA];apply Nat.div_eq_of_lt;exact Ng hp aC
 obtain⟨n,G,q⟩:=PF h (T9 mask 13 i Q J) U;refine⟨13+n,by lia,?_⟩;rw[JG];have:lp mask 13 (i,Q)=((lp mask 13 (i,Q)).1,0):=by rw[<- Y]
 rw[this,JH];exact q
def BK (h:um mask)(hs:Aq){e:Aj}(Y:e<=mask):∃ n,n<10*turns mask/\(it mask n (st mask hs)).j=e:=by obtain⟨n,U,q⟩:=o6 h (i:=bits hs % (mask+1)) (Lf (Oa _ (Ki _))) (zg hs) Y;obtain⟨k,J,Q⟩:=MZ mask n (bits hs % (mask+1)) (bits hs);refine⟨k,by unfold turns;lia,?_⟩;show (it mask k (rs mask _ _)).j=e;rw[Q];exact q
theorem l6 (mask:Aj):∀ (n:Aj) (p:Nu),(it mask n p).dummy=p.dummy
 |0,p=>rfl
 |n+1,p=>by show (it mask n (rn mask p)).dummy=_;rw[l6 mask n];unfold rn;split <;> rfl
def uc (t:Fq)(p:Nu)(n:Aj):Prop:=∀ m,m<n->(it t.mask m p).j∈t.place.toList
inductive Meets (t:Fq)(hashAt:Aj->Aq)(h:Aq)(p:Nu)(fuel:Aj):Al SetTable.Met->Prop
 |emp (n:Aj) (hn:n<fuel) (w:uc t p n) (e:(it t.mask n p).j ∉ t.place.toList) (q:∀ m i,m<n->t.place[i]? = Aa (it t.mask m p).j->hashAt i≠h):Meets t hashAt h p fuel (Aa (.empty (it t.mask n p).j Zw))
 |cand (n i:Aj) (hn:n<fuel) (w:uc t p n) (e:t.place[i]? = Aa (it t.mask n p).j) (hh:hashAt i=h) (q:∀ m i,m<n->t.place[i]? = Aa (it t.mask m p).j->hashAt i≠h):Meets t hashAt h p fuel (Aa (.candidate (it t.mask n p).j i (it t.mask (n+1) p)))
def KH (h:Rs xs){a b x:Aj}(Y:xs[a]? = Aa x)(Q:xs[b]? = Aa x):a=b:=by rw[<- nN h Y,nN h Q]
set_option tactic.hygienic true in
theorem nY (T:Tb t)(hashAt:Aj->Aq)(h:Aq):∀ (fuel:Aj) (p:Nu),p.dummy=Zw->(∃ n,n<fuel/\(it t.mask n p).j ∉ t.place.toList)->Meets t hashAt h p fuel (Nv t hashAt h fuel p)
 |0,p,_,⟨n,u,_⟩=>by lia
 |fuel+1,p,M,⟨n,u,Y⟩=>by
  unfold Nv;rcases VC T p.j with⟨i,e,G⟩|⟨e,q⟩
  .rw[e];simp only;split
   .rename_i O;exact Meets.cand 0 i ak (λm J=>by lia) G (by simpa using O) λm i J=>by lia
   .rename_i O;have I:hashAt i≠h:=by simpa using O
    have y:n≠0:=by rintro rfl;exact Y (Cd (by rw[By];exact G))
    obtain⟨B,rfl⟩:∃ B,n=B+1:=⟨n-1,by lia⟩
    have H:=nY T hashAt h fuel (rn t.mask p) (by rw[<- M];exact l6 t.mask 1 p) ⟨B,by lia,Y⟩;rw[H9];have U:p.j∈t.place.toList:=Cd (by rw[By];exact G);have up:∀ {k:Aj},uc t (rn t.mask p) k->uc t p (k+1):=λ{k} w m J=>by
     cases m with
     |zero=>exact U
     |succ m=>exact w m ak
    have Q:∀ {k:Aj},(∀ m i,m<k->t.place[i]? = Aa (it t.mask m (rn t.mask p)).j->hashAt i≠h)->∀ m i,m<k+1->t.place[i]? = Aa (it t.mask m p).j->hashAt i≠h:=λ{k} q m L J A=>by
     cases m with
     |zero=>rw[KH T.rs A G];exact I
     |succ m=>exact q m L ak A
    generalize o:Nv t hashAt h fuel (rn t.mask p)=r at H;cases H with
    |emp k z w E C=>exact Meets.emp (p:=p) (k+1) ak (up w) E (Q C)
    |cand k L z w E N C=>exact Meets.cand (p:=p) (k+1) L ak (up w) E N (Q C)
  .rw[e];simp only[M];exact Meets.emp (p:=p) 0 ak (λm J=>by lia) q λm i J=>by lia
end _S
namespace _S
open PySem.SetTable (Probe leap runEnd turns bits)
variable {us:Ab Aj}{mask:Aj}{owner:Bs (Al Aj)}
structure wl (mask:Aj)(owner:Bs (Al Aj))(us:Ab Aj):Prop where
 size:owner.size=mask+1
 nd:us.Nodup
 le:∀ u∈us,u<=mask
 at':∀ j k,j<=mask->(owner.getD j (Aa 0)=Aa k↔us[k]? = Aa j)
def rY {i:Aj}(Q:i<=mask):Hj mask i<=mask:=by unfold Hj;split <;> lia
def rZ (mask i:Aj):i<=Hj mask i:=by unfold Hj;split <;> lia
def wl.none (O:wl mask owner us){j:Aj}(Q:j<=mask):(owner.getD j (Aa 0)).isNone=Vp↔j ∉ us:=by
 constructor;intro h J;obtain⟨k,Y,e⟩:=Eb.mp J;have:=(O.at' j k Q).mpr (by rw[Be Y,e]);rw[this] at h;cases h
 .intro h;cases q:owner.getD j (Aa 0) with
  |none=>rfl
  |some k=>exact absurd (Cd ((O.at' j k Q).mp q)) h
theorem eY (O:wl mask owner us):∀ (fuel i Q:Aj),i<=mask->(∃ L,L<fuel/\(lp mask L (i,Q)).1 ∉ us) ->
  ∃ n,Il mask owner fuel i Q=Aa (it mask n (rs mask i Q)).j/\(it mask n (rs mask i Q)).j<=mask/\(it mask n (rs mask i Q)).j ∉ us/\∀ m,m<n->(it mask m (rs mask i Q)).j∈us
 |0,i,Q,B,⟨L,y,_⟩=>by lia
 |fuel+1,i,Q,B,⟨L,y,J⟩=>by
  unfold Il;have u:=rY B;have A:=rZ mask i;cases T:(Cp (Hj mask i+1-i)).find? λk=>(owner.getD (i+k) (Aa 0)).isNone with
  |some k =>
   obtain⟨l,H,I⟩:=List.find?_range_eq_some.mp T;have C:k<Hj mask i+1-i:=Fe.mp H;have U:(it mask k (rs mask i Q)).j=i+k:=by rw[mF mask i Q k ak]
   refine⟨k,?_,?_,?_,λm E=>?_⟩;rw[U];rw[U];lia;rw[U];exact(O.none ak).mp l;rw[mF mask i Q m ak];have:=I m E;apply Ez;intro q;rw[(O.none (show i+m<=mask by lia)).mpr q] at this;cases this
  |none =>
   have Y:∀ k,k<Hj mask i+1-i->i+k∈us:=λk C=>by have:=List.find?_eq_none.mp T k (Fe.mpr C);apply Ez;intro q;exact this ((O.none (show i+k<=mask by lia)).mpr q)
   have g:L≠0:=by rintro rfl;exact J (Y 0 ak)
   obtain⟨N,rfl⟩:∃ N,L=N+1:=⟨L-1,by lia⟩
   obtain⟨n,z,w,o,M⟩:=eY O fuel (leap mask i Q).1 (leap mask i Q).2 (rD mask i Q) ⟨N,by lia,J⟩;have e:∀ m,it mask (Hj mask i-i+1+m) (rs mask i Q)=it mask m (rs mask (leap mask i Q).1 (leap mask i Q).2):=λm=>by rw[lX,X0]
   refine⟨Hj mask i-i+1+n,?_,?_,?_,λm E=>?_⟩;rw[e];exact z;rw[e];exact w;rw[e];exact o
   .by_cases p:m<Hj mask i-i+1
    .rw[mF mask i Q m ak];exact Y m ak
    .obtain⟨G,rfl⟩:∃ G,m=Hj mask i-i+1+G:=⟨m-(Hj mask i-i+1),by lia⟩
     rw[e];exact M G ak
def gap (h:us.length<=mask):∃ e,e<=mask/\e ∉ us:=by
 apply Ez;intro q;have:Cp (mask+1) ⊆ us:=λe Q=>by apply Ez;intro r;exact q ⟨e,by have:=Fe.mp Q;lia,r⟩
 have:=List.Nodup.length_le_of_subset Zo this;rw[Fl] at this;lia
def R3 (mask:Aj):wl mask (Array.replicate (mask+1) Zw) []:=by
 refine⟨by simp,List.nodup_nil,λu Q=>by simp at Q,λj k Y=>?_⟩;have:j<mask+1:=by lia
 simp[Jd,this]
def FB (O:wl mask owner us){j:Aj}(H:j<=mask)(N:j ∉ us):wl mask (owner.setIfInBounds j (Aa us.length)) (us++[j]):=by
 refine⟨by simp[O.size],?_,λu E=>?_,λi k T=>?_⟩;rw[Ri];refine⟨O.nd,by simp,λa L b C=>?_⟩;simp at C;rintro rfl;subst C;exact N L
 .rcases Ch.mp E with h|h
  .exact O.le u h
  .simp at h;lia
 .have I:=O.size;have Y:i<owner.size:=by lia
  have B:∀ {k},us[k]? = Aa i->k<us.length:=λq=>(Bw.mp q).1;by_cases Q:j=i
  .subst Q;have U:(owner.setIfInBounds j (Aa us.length)).getD j (Aa 0)=Aa us.length:=by simp[Jd,Y]
   rw[U];constructor;intro q;cases q;simp
   .intro q;by_cases G:k<us.length
    .rw[Cn G] at q;exact absurd (Cd q) N
    .rw[Ec ak] at q;have:k-us.length=0:=by
      cases J:k-us.length with
      |zero=>rfl
      |succ z=>rw[J] at q;simp at q
     congr 1;lia
  .have U:(owner.setIfInBounds j (Aa us.length)).getD i (Aa 0)=owner.getD i (Aa 0):=by
    simp[Jd,Y,Array.getElem_setIfInBounds,Q]
   rw[U,O.at' i k T];constructor;intro q;rw[Cn (B q)];exact q
   .intro q;by_cases G:k<us.length
    .rw[Cn G] at q;exact q
    .rw[Ec ak] at q;cases J:k-us.length with
     |zero=>rw[J] at q;simp at q;exact absurd q Q
     |succ z=>rw[J] at q;simp at q
def WM (mask:Aj)(us:Ab Aj)(hs:Ab Aq):Prop:=∀ (k:Aj) (h:Aq),hs[k]? = Aa h->∃ n,us[k]? = Aa (it mask n (st mask h)).j/\∀ m,m<n->(it mask m (st mask h)).j∈us
theorem eW (A:um mask):∀ (hs done:Ab Aq) (owner:Bs (Al Aj)) (us:Ab Aj),wl mask owner us->us.length=done.length->done.length+hs.length<=mask->WM mask us done ->
  ∃ Q Y,hs.foldl (λaq h=>do
   let (owner,k) <- aq;let j <- Il mask owner (turns mask) (bits h % (mask+1)) (bits h)
   pure (owner.setIfInBounds j (Aa k),k+1)) (Aa (owner,us.length))=Aa (Q,Y.length)/\wl mask Q Y/\Y.length=done.length+hs.length/\WM mask Y (done++hs)
 |[],done,owner,us,O,G,_,B=>⟨owner,us,rfl,O,by simpa using G,by simpa using B⟩
 |h::hs,done,owner,us,O,G,U,B=>by
  rw[Aw] at U;obtain⟨e,c,T⟩:=gap (mask:=mask) (us:=us) ak;obtain⟨L,t,N⟩:=o6 A (i:=bits h % (mask+1)) (Lf (Oa _ (Ki _))) (zg h) c;obtain⟨n,q,u,g,y⟩:=eY O (turns mask) (bits h % (mask+1)) (bits h) (Lf (Oa _ (Ki _))) ⟨L,by unfold turns;lia,by rw[N];exact T⟩;have s:=FB O u g;have I:WM mask (us++[(it mask n (rs mask (bits h % (mask+1)) (bits h))).j]) (done++[h]):=λk M J=>by
   by_cases w:k<done.length;rw[Cn w] at J;obtain⟨l,d,r⟩:=B k M J;exact⟨l,by rw[Cn ak];exact d,λm E=>Dh _ (r m E)⟩
   .rw[Ec ak] at J;cases C:k-done.length with
    |succ z=>rw[C] at J;simp at J
    |zero =>
     rw[C] at J;simp at J;subst J;refine⟨n,?_,λm E=>Dh _ (y m E)⟩;rw[Ec ak,G,C];rfl
  obtain⟨Q,Y,H,o,v,f⟩:=eW A hs (done++[h]) _ _ s (by simp[G]) (by simp;lia) I;refine⟨Q,Y,?_,o,by simpa [Nat.add_assoc,Pl 1] using v,by simpa using f⟩;rw[Tw];rw[Az] at H;have p:(do
   let (owner,k) <- Aa (owner,us.length);let j <- Il mask owner (turns mask) (bits h % (mask+1)) (bits h)
   pure (owner.setIfInBounds j (Aa k),k+1))=Aa (owner.setIfInBounds (it mask n (rs mask (bits h % (mask+1)) (bits h))).j (Aa us.length),us.length+1):=by
   show (Il mask owner (turns mask) (bits h % (mask+1)) (bits h)).bind _=_;rw[q];rfl
  rw[p];exact H
def cU (G:um mask)(hs:Bs Aq)(Y:hs.size<=mask):∃ owner us,Yc mask hs=Aa owner/\wl mask owner us/\us.length=hs.size/\WM mask us hs.toList:=by obtain⟨Q,J,U,C,N,O⟩:=eW G hs.toList [] _ [] (R3 mask) rfl (by simpa using Y) (λk h e=>by simp at e);refine⟨Q,J,?_,C,by simpa using N,by simpa using O⟩;unfold Yc;rw[<- Array.foldl_toList];have:(([]:Ab Aj).length)=0:=Z;rw[this] at U;erw [U];rfl
structure Laid (mask:Aj)(hs:Bs Aq)(t:Fq)(z0:Bs Aj):Prop where
 msk:t.mask=mask
 tb:Tb t
 size:t.place.size=hs.size
 le:∀ x∈t.place.toList,x<=mask
 perm:z0.toList.Perm (Cp hs.size)
 way:∀ (i k:Aj) (h:Aq),z0[i]? = Aa k->hs[k]? = Aa h->∃ n,t.place[i]? = Aa (it mask n (st mask h)).j/\uc t (st mask h) n
def _I (hM:um mask)(hs:Bs Aq)(C:hs.size<=mask)(finger moves:Aj)(led plain:Ar) :
  ∃ t z0,Wi mask finger moves led plain hs=Aa (t,z0)/\t.led=led/\t.plain=plain/\Laid mask hs t z0:=by
 obtain⟨owner,us,e,O,hl,v⟩:=cU hM hs C;have g:∀ j,j<=mask->owner.getD j Zw=owner.getD j (Aa 0):=λj H=>by
  have:j<owner.size:=by rw[O.size];lia
  simp[Jd,this]
 generalize G:((Cp (mask+1)).filterMap λj=>(owner.getD j Zw).map (j,·))=live;have mem:∀ (j k:Aj),(j,k)∈live↔us[k]? = Aa j:=λj k=>by
  rw[<- G,Ir];constructor
  .rintro⟨L,T,q⟩;have U:L<=mask:=by have:=Fe.mp T;lia
   rw[g L U] at q;cases Y:owner.getD L (Aa 0) with
   |none=>rw[Y] at q;cases q
   |some p =>
    rw[Y] at q;simp at q;obtain⟨rfl,rfl⟩:=q;exact(O.at' _ _ U).mp Y
  .intro q;have H:j<=mask:=O.le j (Cd q);refine⟨j,Fe.mpr ak,?_⟩;rw[g j H,(O.at' j k H).mpr q];rfl
 have B:live.map (·.1)=(Cp (mask+1)).filter λj=>(owner.getD j Zw).isSome:=by
  rw[<- G,List.map_filterMap];generalize owner.getD=f
  induction Cp (mask+1) with
  |nil=>rfl
  |cons a l z =>
   rw[Hb,Zp];cases Y:f a Zw with
   |none=>simpa using z
   |some k=>simpa using z
 have u:(live.map (·.1)).Pairwise (· < ·):=by rw[B];exact List.Pairwise.filter _ List.pairwise_lt_range
 have M:(live.map (·.2)).Nodup:=by unfold List.Nodup;rw[Ee];have N:=Ee.mp u;refine Sd (λ{a b} c hb d=>?_) N;intro q;have s:=(mem a.1 a.2).mp c;have o:=(mem b.1 b.2).mp hb;rw[<- q,s] at o;simp at o;lia
 have y:(live.map (·.2)).Perm (Cp hs.size):=by
  rw[List.perm_ext_iff_of_nodup M Zo];intro k;rw[Cf,Fe,<- hl];constructor;rintro⟨⟨j,p⟩,N,rfl⟩;exact(Bw.mp ((mem j p).mp N)).1;intro I;exact⟨(us[k],k),(mem _ _).mpr (Be I),Z⟩
 have J:∀ j,j∈live.map (·.1)↔j∈us:=λj=>by
  rw[Cf];constructor;rintro⟨⟨L,k⟩,N,rfl⟩;exact Cd ((mem _ _).mp N);intro N;obtain⟨k,I,e⟩:=Eb.mp N;exact⟨(j,k),(mem _ _).mpr (by rw[Be I,e]),rfl⟩
 refine⟨{ mask,place:=(live.map (·.1)).toArray,dummies:=#[],finger,led,moves,plain },(live.map (·.2)).toArray,?_,Z,Z,Z,⟨?_,Z⟩,?_,λx hx=>?_,?_,λi k h e1 e2=>?_⟩;unfold Wi;rw[e,<- G];rfl;exact u;have:=y.length_eq;simp at this ⊢;exact this;exact O.le x ((J x).mp hx);exact y
 .have Q:(live.map (·.2))[i]? = Aa k:=by simpa using e1
  rw[Er] at Q;cases Y:live[i]? with
  |none=>rw[Y] at Q;cases Q
  |some w =>
   rw[Y] at Q;simp at Q;have E:=Cd Y;have r:=(mem w.1 w.2).mp E;obtain⟨n,A,w2⟩:=v k h (by rw[By];exact e2);rw[<- Q] at A;rw[r] at A;refine⟨n,?_,λm hm=>?_⟩;rw[<- A];simp[Y];have:=(J _).mpr (w2 m hm);simpa using this
def E1:SetTable.relaid t hs w=Wi (Fd w-1) t.finger (t.movedTo (Fd w-1)) t.led t.plain hs:=Z
end _S
namespace _S
open PySem.SetTable (Probe leap runEnd turns bits)
variable {t:Fq}
structure ip {K:Type}(is:K->Ac->Prop)(hash:K->Aq)(es:Bs (Aq × Ac))(seen:Ab K):Prop where
 good:∀ e∈es.toList,∃ k,e.1=hash k/\is k e.2
 nd:es.toList.Pairwise λa b=>∀ k,is k a.2->¬ is k b.2
 mem:∀ k,k∈seen↔∃ e∈es.toList,is k e.2
section
variable {K:Type}{is:K->Ac->Prop}{hash:K->Aq}{es oq:Bs (Aq × Ac)}{seen:Ab K}
def ip.perm (Q:ip is hash es seen)(p:oq.toList.Perm es.toList):ip is hash oq seen:=
 ⟨λe Y=>Q.good e (p.mem_iff.mp Y),(p.pairwise_iff λ{x y} h k J U=>h k U J).mpr Q.nd,λk=>(Q.mem k).trans ⟨λ⟨e,Y,q⟩=>⟨e,p.mem_iff.mpr Y,q⟩,λ⟨e,Y,q⟩=>⟨e,p.mem_iff.mp Y,q⟩⟩⟩
def ip.nil:ip is hash #[] []:=⟨λe Q=>by simp at Q,by simp,λk=>by simp⟩
def ip.push (Q:ip is hash es seen)(J:∀ {k Y:K} {v:Ac},is k v->is Y v->k=Y){k:K}{x:Ac}(U:is k x)(C:k ∉ seen)(p:oq.toList.Perm (es.toList++[(hash k,x)])):ip is hash oq (k::seen):=by
 refine ip.perm (es:=es.push (hash k,x)) ⟨λe he=>?_,?_,λY=>?_⟩ (by simpa using p)
 .rw[Jo] at he;rcases Ch.mp he with he|he
  .exact Q.good e he
  .simp at he;subst he;exact⟨k,rfl,U⟩
 .rw[Jo,Vk];refine⟨Q.nd,by simp,λa O b G Y B N=>?_⟩;simp at G;subst G;have:=J U N;subst this;exact C ((Q.mem k).mpr ⟨a,O,B⟩)
 .rw[Av,Q.mem,Jo];constructor
  .rintro (rfl|⟨e,he,q⟩)
   .exact⟨(hash Y,x),by simp,U⟩
   .exact⟨e,Dh _ he,q⟩
  .rintro⟨e,he,q⟩;rcases Ch.mp he with he|he
   .exact .inr ⟨e,he,q⟩
   .simp at he;subst he;exact .inl (J q U)
def ip.again (Q:ip is hash es seen){k:K}(Y:k∈seen):ip is hash es (k::seen):=
 ⟨Q.good,Q.nd,λJ=>by rw[Av,Q.mem];exact⟨λh=>h.elim (λe=>by subst e;exact(Q.mem _).mp Y) id,.inr⟩⟩
end
section
open Classical in
theorem l8 {K:Type}{is:K->Ac->Prop}:∀ (L:Ab (Aq × Ac)) (U:Ab K),L.Pairwise (λa b=>∀ k,is k a.2->¬ is k b.2)->(∀ e∈L,∃ k∈U,is k e.2)->L.length<=U.length
 |[],U,_,_=>EQ _
 |e::L,U,G,h=>by
  rw[Fc] at G;obtain⟨J,Y,B⟩:=h e aA;have C:=l8 L (U.erase J) G.2 λN Q=>by obtain⟨k,O,q⟩:=h N (by simp[Q]);have:k≠J:=λz=>G.1 N Q J B (z▸q);exact⟨k,(Vl this).mpr O,q⟩
  rw[Se Y] at C;have:0<U.length:=Ub Y;rw[Aw];lia
open Classical in
def ip.few {K:Type}{is:K->Ac->Prop}{hash:K->Aq}{seen U:Ab K}{k:K}(Q:ip is hash es seen)(B:∀ Y∈seen,Y∈U)(G:k∈U)(C:k ∉ seen):es.size<U.length:=by
 have:=l8 es.toList (U.erase k) Q.nd λe O=>by obtain⟨Y,_,q⟩:=Q.good e O;have N:=(Q.mem Y).mpr ⟨e,O,q⟩;have J:Y≠k:=λz=>C (z▸N);exact⟨Y,(Vl J).mpr (B Y N),q⟩
 rw[Se G,Dp] at this;have:0<U.length:=Ub G;lia
end
structure kq (t:Fq)(es:Bs (Aq × Ac)):Prop where
 tb:Tb t
 msk:um t.mask
 size:t.place.size=es.size
 le:∀ x∈t.place.toList,x<=t.mask
 few:es.size*5<t.mask*3
 way:∀ (i:Aj) (e:Aq × Ac),es[i]? = Aa e->∃ n,t.place[i]? = Aa (it t.mask n (st t.mask e.1)).j/\uc t (st t.mask e.1) n
 plain:t.plain=Vp
def kq.fits (T:kq t es):t.fits es.size=true:=by
 have Q:=T.size;have J:=T.few;have Y:t.fill=es.size:=by unfold Rp;rw[T.tb.dm,Q];rfl
 unfold AaF;rw[Y,Q];rcases T.msk with h|h|h|h|h <;> rw[h] at J ⊢ <;> simp <;> lia
def kq.gap (T:kq t es):∃ e,e<=t.mask/\e ∉ t.place.toList:=by apply _S.gap;rw[Dp,T.size];have Q:=T.few;rcases T.msk with h|h|h|h|h <;> rw[h] at Q ⊢ <;> lia
def kq.odd (T:kq t es):t.gaveWay=false:=by unfold SetTable.gaveWay;rcases T.msk with h|h|h|h|h <;> rw[h] <;> rfl
def kq.put (T:kq t es){h:Aq}{x:Ac}{n:Aj}(w:uc t (st t.mask h) n)(E:(it t.mask n (st t.mask h)).j ∉ t.place.toList)(J:(it t.mask n (st t.mask h)).j<=t.mask) :
  let oq:=Dz es (t.put (it t.mask n (st t.mask h)).j).2 (h,x)
  Tb (t.put (it t.mask n (st t.mask h)).j).1/\(t.put (it t.mask n (st t.mask h)).j).1.place.size=oq.size/\(∀ y∈(t.put (it t.mask n (st t.mask h)).j).1.place.toList,y<=t.mask) /\
  (∀ (i:Aj) (e:Aq × Ac),oq[i]? = Aa e->∃ m,(t.put (it t.mask n (st t.mask h)).j).1.place[i]? = Aa (it t.mask m (st t.mask e.1)).j/\uc (t.put (it t.mask n (st t.mask h)).j).1 (st t.mask e.1) m):=by
 generalize H:(it t.mask n (st t.mask h)).j=j at *;have N:∀ y,y∈(t.put j).1.place.toList↔y=j\/y∈t.place.toList:=λy=>by show y∈(Dz t.place (Cg t.place j) j).toList↔_;rw[(Kw _ _ _).mem_iff];simp[or_comm]
 have C:Cg t.place j<=t.place.size:=(kD T.tb.rs j).le;have Y:∀ {p:Nu} {m:Aj},uc t p m->uc (t.put j).1 p m:=λ{p m} w q I=>(N _).mpr (.inr (w q I));refine⟨qAE T.tb E,?_,λy hy=>?_,λi e L=>?_⟩;show (Dz t.place _ j).size=(Dz es _ (h,x)).size;rw[gQ,gQ,T.size]
 .rcases (N y).mp hy with rfl|hy
  .exact J
  .exact T.le y hy
 .have Q:(if i<Cg t.place j then es[i]? else if i=Cg t.place j then Aa (h,x) else es[i-1]?)=Aa e:=by
   rw[<- lU es (by rw[<- T.size];exact C)];exact L
  have pl:(t.put j).1.place[i]? = if i<Cg t.place j then t.place[i]? else if i=Cg t.place j then Aa j else t.place[i-1]?:=lU t.place C j i
  rw[pl];by_cases B:i<Cg t.place j;rw[Au B] at Q ⊢;obtain⟨m,U,G⟩:=T.way i e Q;exact⟨m,U,Y G⟩
  .rw[AT B] at Q ⊢;by_cases O:i=Cg t.place j
   .rw[Au O] at Q ⊢;cases Q;exact⟨n,by rw[H],Y w⟩
   .rw[AT O] at Q ⊢;obtain⟨m,U,G⟩:=T.way _ e Q;exact⟨m,U,Y G⟩
theorem MY {mask:Aj}(p:Nu)(hp:p.j+p.more<=mask):∀ n,(it mask n p).j+(it mask n p).more<=mask
 |0=>hp
 |n+1=>by
  rw[tK];have J:=MY p hp n;unfold rn;split;show (it mask n p).j+1+((it mask n p).more-1)<=mask;lia;show (leap mask _ _).1+(Hj mask (leap mask _ _).1-(leap mask _ _).1)<=mask;have Q:=rY (rD mask (it mask n p).i (it mask n p).perturb);have Y:=rZ mask (leap mask (it mask n p).i (it mask n p).perturb).1;lia
def qBx (mask:Aj)(h:Aq)(n:Aj):(it mask n (st mask h)).j<=mask:=by
 have Q:bits h % (mask+1)<=mask:=Lf (Oa _ (Ki _));have:=MY (mask:=mask) (st mask h) (by
  show bits h % (mask+1)+(Hj mask (bits h % (mask+1))-bits h % (mask+1))<=mask;have Y:=rY Q;have J:=rZ mask (bits h % (mask+1));lia) n
 lia
def _p {es:Bs (Aq × Ac)}(v:um t.mask)(hp:t.plain=Vp)(n:t.place.size=es.size)(s:es.size<=1001)(A:t.tooFull=Vp)(d:t.dummies=#[])(y:(es.size-1)*5<t.mask*3)(x:0<es.size) :
  Fd (Hv es.size)<=2048/\∃ t' z0,t.relaid (es.map (·.1)) (Hv es.size)=Aa (t',z0)/\t'.led=t.led/\(z0.filterMap (es[·]?)).toList.Perm es.toList/\kq t' (z0.filterMap (es[·]?))/\z0.toList.Perm (Cp es.size):=by
 have N:t.fill=es.size:=by unfold Rp;rw[d,n];rfl
 have T:t.mask*3<=es.size*5:=by unfold Zq at A;rw[N] at A;simpa using A
 have Q:(es.size=5/\Fd (Hv es.size)=32)\/(es.size=19/\Fd (Hv es.size)=128)\/(es.size=77/\Fd (Hv es.size)=512)\/(es.size=307/\Fd (Hv es.size)=2048):=by
  rcases v with h|h|h|h|h <;> rw[h] at T y
  .have:es.size=5:=by lia
   exact .inl ⟨this,by rw[this];decide⟩
  .have:es.size=19:=by lia
   exact .inr (.inl ⟨this,by rw[this];decide⟩)
  .have:es.size=77:=by lia
   exact .inr (.inr (.inl ⟨this,by rw[this];decide⟩))
  .have:es.size=307:=by lia
   exact .inr (.inr (.inr ⟨this,by rw[this];decide⟩))
  .lia
 have B:um (Fd (Hv es.size)-1):=by
  rcases Q with⟨_,h⟩|⟨_,h⟩|⟨_,h⟩|⟨_,h⟩ <;> rw[h]
  .exact .inr (.inl Z)
  .exact .inr (.inr (.inl Z))
  .exact .inr (.inr (.inr (.inl Z)))
  .exact .inr (.inr (.inr (.inr Z)))
 have H:(es.map (·.1)).size<=Fd (Hv es.size)-1:=by rw[Ve];rcases Q with⟨U,h⟩|⟨U,h⟩|⟨U,h⟩|⟨U,h⟩ <;> rw[h,U] <;> lia
 obtain⟨t',z0,e,c,u,L⟩:=_I B (es.map (·.1)) H t.finger (t.movedTo (Fd (Hv es.size)-1)) t.led t.plain;have M:z0.size=es.size:=by have:=L.perm.length_eq;simpa using this
 have G:∀ i k,z0[i]? = Aa k->k<es.size:=λi k q=>by have:k∈Cp (es.map (·.1)).size:=L.perm.mem_iff.mp (Cd (by rw[By];exact q));simpa using this
 have C:(z0.filterMap (es[·]?)).toList=z0.toList.map λk=>es.toList.getD k (0,.none):=by
  rw[Array.toList_filterMap];have:∀ l:Ab Aj,(∀ k∈l,k<es.size)->l.filterMap (es[·]?)=l.map λk=>es.toList.getD k (0,.none):=by
   intro l
   induction l with
   |nil=>intro _;rfl
   |cons a l g =>
    intro z;have w:=z a aA;rw[Hb,Ej,g λk O=>z k (by simp[O])];rw[Dk w];simp[w]
  refine this _ λk O=>?_;obtain⟨i,o,q⟩:=Eb.mp O;exact G i k (by rw[<- By,Be o,q])
 have Y:(z0.filterMap (es[·]?)).toList.Perm es.toList:=by
  rw[C];have p:=L.perm.map λk=>es.toList.getD k (0,Ei);refine p.trans ?_;have r:(Cp (es.map (·.1)).size).map (λk=>es.toList.getD k (0,Ei))=es.toList:=by
   apply Sw;simp
   .intro i b f;have m:i<es.size:=by simpa using f
    simp[m]
  rw[r]
 have E:(z0.filterMap (es[·]?)).size=es.size:=by rw[<- Dp,Y.length_eq,Dp]
 have J:∀ i,(z0.filterMap (es[·]?))[i]? = (z0[i]?).map λk=>es.toList.getD k (0,.none):=λi=>by rw[<- By,C,Er,By]
 refine⟨by rcases Q with⟨_,h⟩|⟨_,h⟩|⟨_,h⟩|⟨_,h⟩ <;> rw[h] <;> decide,t',z0,by rw[E1];exact e,c,Y,⟨L.tb,by rw[L.msk];exact B,by rw[L.size,E,Ve],by rw[L.msk];exact L.le,?_,λi j q=>?_,by rw[u];exact hp⟩,by have:=L.perm;rwa [Ve] at this⟩
 .rw[E,L.msk];rcases Q with⟨U,h⟩|⟨U,h⟩|⟨U,h⟩|⟨U,h⟩ <;> rw[h,U] <;> lia
 .rw[J] at q;cases I:z0[i]? with
  |none=>rw[I] at q;cases q
  |some k =>
   rw[I] at q;simp only[Uc,Option.some.injEq] at q;have O:=G i k I;have:(es.map (·.1))[k]? = Aa j.1:=by rw[Array.getElem?_map,Dk O];rw[<- q];simp[O]
   rw[L.msk];exact L.way i k j.1 I this
end _S
namespace _S
open PySem.SetTable (Probe leap runEnd turns bits)
variable {k:Ab Aq}{Q:Ar->Ai->Prop}
def iw (h0 h:Bc):Prop:=∀ b o,h0.get? b=Aa o->h.get? b=Aa o
def im (prog:Ba)(w:Bu)(h0:Bc)(ks:Ab Aq)(v:Ac):Prop:=∃ a,v=.ref a/\Sx (Ip prog w) h0 ks a
section
variable {prog:Ba}{w:Bu}{h0:Bc}
def im.inj (J:im prog w h0 x v)(U:im prog w h0 y v):x=y:=by obtain⟨a,rfl,G⟩:=J;obtain⟨b,e,Y⟩:=U;cases e;exact G.inj Y
def j8 (G:iw h0 h)(J:Sx (Ip prog w) h0 ks a):Sx (Ip prog w) h ks a:=by obtain⟨o,Y,n,U,r⟩:=J;exact⟨o,Y,n,G _ _ U,r⟩
variable {A:Bp}{E:J7}{s:Ai}
def x_ {Q:Aq->Ai->Prop}(U:A.units<Fj)(J:iw h0 s.heap)(Y:im prog w h0 k v)(h:Q (Th (Ip prog w) k) { s with toks:=s.toks+(k.length+1) }) : Ap (As prog w) A (pyHash v) Q E s:=by obtain⟨a,rfl,Y⟩:=Y;exact wpAny_pyHash_tuple U (j8 J Y) h
def eqT (O:A.units<Fj)(G:iw h0 s.heap)(Y:im prog w h0 k v)(J:im prog w h0 N U)(h:Q (decide (k=N)) s):Ap (As prog w) A (eqBool v U) Q E s:=by obtain⟨a,rfl,Y⟩:=Y;obtain⟨b,rfl,J⟩:=J;exact wpAny_eqBool_tuple O (j8 G Y) (j8 G J) h
def lZ:∀ {ks:Ab Aq} {vs:Y0},ItemsAre (Ip prog w) ks vs->∀ v∈vs,∃ i t,v=.int i t:=by
 intro ks vs h
 induction h with
 |nil=>intro v hv;simp at hv
 |@cons k U ks vs J _ Y =>
  intro v hv;rcases Av.mp hv with rfl|hv
  .cases v <;> first|exact⟨_,_,rfl⟩|exact absurd J (by rintro⟨⟩)
  .exact Y v hv
def qCH (L:iw h0 s.heap)(U:im prog w h0 k v)(h:Q Vp s):Ap (As prog w) A (Qv 8 v) Q E s:=by
 obtain⟨a,rfl,U⟩:=U;have U:=j8 L U;have T:=U.typeIs;obtain⟨o,J,n,B,_,H,I⟩:=U;unfold Qv;refine Ad (Ud T F.slot_tuple_hash.lookup ?_);show Ap _ _ (seqItems? (.ref a) >>= _) Q E s;refine Ad (Gx B H ?_);refine Ad ?_;show Ap _ _ (forIn J _ _) _ _ s;rw[<- Xa];refine Of _ (λC r O=>r.1=Zw/\O=s/\∀ v∈C,∃ i t,v=.int i t) _ ?_ ?_ _ _ ⟨rfl,rfl,lZ I⟩;rintro v C r O ⟨G,rfl,Y⟩;obtain⟨i,t,rfl⟩:=Y v Cr;show Ap _ _ (Qv 7 (.int i t) >>= _) _ _ _;rw[show Qv 7 (.int i t)=pure Vp from rfl];refine Ad (An ?_);simp only[Mh,Bt,Dq];exact An ⟨Z,Z,λu N=>Y u (Bn _ N)⟩;rintro⟨z,M⟩ O ⟨G,rfl,_⟩;simp only at G;subst G;exact An h
def HN (L:iw h0 s.heap)(U:im prog w h0 k v)(h:Q Yp s):Ap (As prog w) A (Lg 8 v) Q E s:=by
 obtain⟨a,rfl,U⟩:=U;have U:=j8 L U;have T:=U.typeIs;obtain⟨o,J,n,B,_,H,I⟩:=U;unfold Lg;refine Ad (Lr T ?_);dsimp only;refine Ad (An ?_);simp only[Mh,Bt,Dq];refine Ad (Gx B H ?_);refine Ad ?_;show Ap _ _ (forIn J _ _) _ _ s;rw[<- Xa];refine Of _ (λC r O=>r.1=Zw/\O=s/\∀ v∈C,∃ i t,v=.int i t) _ ?_ ?_ _ _ ⟨rfl,rfl,lZ I⟩;rintro v C r O ⟨G,rfl,Y⟩;obtain⟨i,t,rfl⟩:=Y v Cr;show Ap _ _ (Lg 7 (.int i t) >>= _) _ _ _;rw[show Lg 7 (.int i t)=pure Yp from rfl];refine Ad (An ?_);simp only[Bt,Dq];exact An ⟨Z,Z,λu N=>Y u (Bn _ N)⟩;rintro⟨z,M⟩ O ⟨G,rfl,_⟩;simp only at G;subst G;exact An h
def qAL (J:iw h0 s.heap)(Y:im prog w h0 k v)(h:Q Vp s):Ap (As prog w) A (eqIsQuiet 8 v) Q E s:=by obtain⟨a,rfl,Y⟩:=Y;exact wpAny_eqIsQuiet_tuple (j8 J Y) h
def BM {J:Type}{c:Prop}[Jj c]{M:Nq}{t u:Km J}{Q:J->Ai->Prop}(U:c->Ap M A t Q E s)(Y:¬ c->Ap M A u Q E s):Ap M A (if c then t else u) Q E s:=by
 by_cases h:c;rw[Au h];exact U h;rw[AT h];exact Y h
structure zx (prog:Ba)(w:Bu){K:Type}[Uk K](is:K->Ac->Prop)(hash:K->Aq)(h0:Bc):Prop where
 inj:∀ {k k':K} {v:Ac},is k v->is k' v->k=k'
 ref:∀ {k:K} {v:Ac},is k v->∃ a,v=.ref a
 hsh:∀ {A:Bp} {E:J7} {s:Ai} {k:K} {v:Ac} {Q:Aq->Ai->Prop},A.units+8<Fj->iw h0 s.heap->is k v->(∀ tk,s.toks<=tk->Q (hash k) { s with toks:=tk }) -> Ap (As prog w) A (pyHash v) Q E s
 eq:∀ {A:Bp} {E:J7} {s:Ai} {k k':K} {v v':Ac} {Q:Ar->Ai->Prop},A.units+8<Fj->iw h0 s.heap->is k v->is k' v'->Q (decide (k=k')) s->Ap (As prog w) A (eqBool v v') Q E s
 byV:∀ {A:Bp} {E:J7} {s:Ai} {k:K} {v:Ac} {Q:Ar->Ai->Prop},iw h0 s.heap->is k v->Q Vp s->Ap (As prog w) A (Qv 8 v) Q E s
 cls:∀ {A:Bp} {E:J7} {s:Ai} {k:K} {v:Ac} {Q:Ar->Ai->Prop},iw h0 s.heap->is k v->Q Yp s->Ap (As prog w) A (Lg 8 v) Q E s
 quiet:∀ {A:Bp} {E:J7} {s:Ai} {k:K} {v:Ac} {Q:Ar->Ai->Prop},iw h0 s.heap->is k v->Q Vp s->Ap (As prog w) A (eqIsQuiet 8 v) Q E s
def qCc:zx prog w (im prog w h0) (Th (Ip prog w)) h0:=⟨im.inj,λ⟨a,e,_⟩=>⟨a,e⟩,λG Y J h=>x_ om Y J (h _ (Zg _ _)),λG Y J U h=>eqT om Y J U h,qCH,HN,qAL⟩
variable {K:Type}[Uk K]{is:K->Ac->Prop}{hash:K->Aq}
def qBr (M:zx prog w is hash h0){k:K}{x:Ac}{ys:Y0}{Q:Ar->Ai->Prop}(G:iw h0 s.heap)(L:is k x)(T:∀ y∈ys,∃ U,is U y)(h:Q Yp s):Ap (As prog w) A (Yd x ys) Q E s:=by
 unfold Yd;refine Ad ?_;refine Of _ (λN r B=>r.1=Zw/\B=s/\∀ v∈N,∃ U,is U v) _ ?_ ?_ _ _ ⟨Z,Z,T⟩
 .rintro v N r B ⟨O,rfl,J⟩;obtain⟨U,hv⟩:=J v Cr;have Y:∀ u∈N,∃ U,is U u:=λu C=>J u (Bn _ C);dsimp only;refine BM (λ_=>An ⟨rfl,rfl,Y⟩) λ_=>?_
  .refine Ad (M.quiet G L ?_);simp only[Mh,Bt,Dq];refine Ad (M.quiet G hv ?_);simp only[Mh,Bt,Dq];refine Ad (M.cls G L ?_);simp only[Bt,Dq];refine Ad (M.cls G hv ?_);simp only[Bt,Dq];exact An ⟨Z,Z,Y⟩
 .rintro⟨I,H⟩ B ⟨O,rfl,_⟩;simp only at O;subst O;exact An h
def qBq (M:zx prog w is hash h0){k:K}{v:Ac}{Q:Ar->Ai->Prop}(Y:is k v)(h:Q Vp s):Ap (As prog w) A (isSame v v) Q E s:=by obtain⟨a,rfl⟩:=M.ref Y;unfold isSame;simp only[Em,Dr];exact An h
theorem MW (M:zx prog w is hash h0){k:K}{x:Ac}{S:Af}{o:Ce}{es:Bs (Aq × Ac)}{ep:Aj}{t:Fq}{seen:Ab K}(hu:A.units+8<Fj)(hS:iw h0 s.heap)(ho:s.heap.get? S=Aa o)(hd:o.data=.set es ep t)
  (T:kq t es) (U:ip is hash es seen) (hx:is k x) (N:Aj) (b:uc t (st t.mask (hash k)) N)
  (G:(it t.mask N (st t.mask (hash k))).j ∉ t.place.toList) (zn:N<10*turns t.mask) {Q:SetFound->Ai->Prop}
  (h1:k∈seen->Q (.there Zw) s) (h2:k ∉ seen->Q (.free (it t.mask N (st t.mask (hash k))).j Yp) s) :
  ∀ (fuel n:Aj) (J:Al Nu),J.getD (t.probeStart (hash k))=it t.mask n (st t.mask (hash k))->n<=N->N-n<fuel ->
   (∀ (m i:Aj) (e:Aq × Ac),m<n->t.place[i]? = Aa (it t.mask m (st t.mask (hash k))).j->es[i]? = Aa e->¬ is k e.2) ->
   Ap (As prog w) A (Rq S x (hash k) Vp fuel J) Q E s
 |0,n,J,_,_,hf,_=>by lia
 |fuel+1,n,J,zl,hn,hf,hq=>by
  unfold Rq;refine Ad (Gf ho hd T.fits ?_);dsimp only;rw[T.odd];simp only[Bt,Dq];rw[zl];generalize hg:t.probe _ (hash k) (it t.mask n (st t.mask (hash k)))=r;obtain⟨H,hH,hg⟩:∃ H:Aj->Aq,(∀ i,H i=(es[i]?.map (·.1)).getD 0)/\t.probe H (hash k) (it t.mask n (st t.mask (hash k)))=r:=⟨_,λi=>rfl,hg⟩
  have Y:∀ m,it t.mask m (it t.mask n (st t.mask (hash k)))=it t.mask (n+m) (st t.mask (hash k)):=λm=>(lX _ _ _ _).symm;have gm:Meets t H (hash k) (it t.mask n (st t.mask (hash k))) (10*turns t.mask) r:=by rw[<- hg];refine nY T.tb H _ _ _ (by rw[l6];rfl) ⟨N-n,by lia,?_⟩;rw[Y,show n+(N-n)=N by lia];exact G
  have B:∀ j:Aj,(∀ m i:Aj,m<j->t.place[i]? = Aa (it t.mask m (it t.mask n (st t.mask (hash k)))).j->H i≠hash k) ->
    ∀ (m i:Aj) (e:Aq × Ac),m<n+j->t.place[i]? = Aa (it t.mask m (st t.mask (hash k))).j->es[i]? = Aa e->¬ is k e.2:=λj qj m i e hm I u p=>by
   by_cases zc:m<n;exact hq m i e zc I u p;refine qj (m-n) i ak (by rw[Y,show n+(m-n)=m by lia];exact I) ?_;rw[hH,u];obtain⟨k',e1,e2⟩:=U.good e (Cd (by rw[By];exact u));rw[M.inj p e2];simpa using e1
  cases gm with
  |emp j hj w' C q =>
   rw[Y] at C;have v:n+j=N:=by
    rcases Ye (n+j) N with h|h|h
    .exact absurd (b _ h) C
    .exact h
    .have:=w' (N-n) ak;rw[Y,show n+(N-n)=N by lia] at this;exact absurd this G
   dsimp only;rw[Y,v];refine An (h2 λp=>?_);obtain⟨e,a,d⟩:=(U.mem k).mp p;obtain⟨i,hi,I⟩:=Eb.mp a;have O:es[i]? = Aa e:=by rw[<- By,Be hi,I]
   obtain⟨m,w1,w2⟩:=T.way i e O;obtain⟨k',g1,c⟩:=U.good e a;have:=M.inj d c;subst this;rw[g1] at w1 w2;have f:m<N:=by
    apply Ez;intro hc;by_cases f:m=N;subst f;exact G (Cd (by rw[By];exact w1));exact G (w2 N ak)
   exact B j q m i e ak w1 O d
  |cand j i hj w' C hh q =>
   rw[Y] at C;have hi:i<es.size:=by rw[<- T.size];exact(Cq.mp C).1
   have I:es[i]? = Aa es[i]:=Dk hi;have v:n+j<N:=by
    rcases Ye (n+j) N with h|h|h
    .exact h
    .rw[h] at C;exact absurd (Cd (by rw[By];exact C)) G
    .have:=w' (N-n) ak;rw[Y,show n+(N-n)=N by lia] at this;exact absurd this G
   obtain⟨k',g1,c⟩:=U.good es[i] aA;dsimp only;have L:Ap (As prog w) A (do
     let Aa (_,y):=es[i]?|unsupported "internal:set-entry"
     let equal <- holding [y] (eqBool y x);let (oq,_,t') <- Wu S
     if Vp&&equal then return .there Zw
     let Aa same:=t'.sameMemory t.moves t.mask|unsupported "set.changed-during-lookup:is-the-new-block-at-the-old-address"
     let still <- match (if same then t'.slot (it t.mask j (it t.mask n (st t.mask (hash k)))).j else .empty) with
      |.live l=>match oq[l]? with
       |some (_,y')=>do pure (if <- isSame y' y then Aa l else Zw)
       |none=>pure Zw
      |_=>pure Zw
     match still with
     |none=>rule "set.search.anew";Rq S x (hash k) Vp fuel Zw
     |some l=>if equal then return .there (Aa l) else Rq S x (hash k) Vp fuel (Aa (it t.mask (j+1) (it t.mask n (st t.mask (hash k)))))) Q E s:=by
    rw[I];dsimp only;refine Ad (Df (M.eq hu hS c hx ?_));refine Ad (Gf ho hd T.fits ?_);by_cases z:k'=k;subst z;simp only[decide_true,Bool.and_self,Dr];exact An (h1 ((U.mem k').mpr ⟨es[i],by simp,c⟩))
    .simp only[z,decide_false,Hu,Bt,Dq];have hm:t.sameMemory t.moves t.mask=Aa true:=by simp[SetTable.sameMemory]
     rw[hm];dsimp only;rw[Y,cK T.tb C];simp only[Dr,I];refine Ad (qBq M c ?_);simp only[Dr];refine Ad (An ?_);dsimp only;refine MW M hu hS ho hd T U hx N b G zn h1 h2 fuel (n+j+1) _ ?_ ak ak λm l e hm O u p=>?_;rw[Su,Y];rfl
     .by_cases zo:m<n+j
      .exact B j q m l e zo O u p
      .have:m=n+j:=by lia
       subst this;have:=KH T.tb.rs O C;subst this;rw[I] at u;cases u;exact z (M.inj c p)
   refine BM (λ_=>?_) λ_=>?_
   .refine Ad (qBr M hS hx (λy hy=>?_) ?_)
    .obtain⟨e,a,rfl⟩:=Cf.mp hy;have:e∈es.toList:=by
      have:=(Ou.mp a);exact Ou.mpr (Array.mem_filter.mp this).1
     obtain⟨k2,_,g⟩:=U.good e this;exact⟨k2,g⟩
    .simp only[Bt,Dq];exact L
   .exact L
end
end _S
namespace _S
open PySem.SetTable (Probe leap runEnd turns bits)
@[reducible] noncomputable def mv (es:Bs (Aq × Ac))(Q:Aj)(t:Fq):Ce:={ cls:=.type "set",dict:=Zw,data:=.set es Q t }
def XQ {h:Bc}{S:Af}(Y:h.get? S=Aa (mv es Q t)):(h.update S (Obj.putSet oq t')).get? S=Aa (mv oq (Q+1) t'):=Dx _ Y Z
structure mi {K:Type}(is:K->Ac->Prop)(hash:K->Aq)(S:Af)(led:Ar)(V:Y0)(seen:Ab K)(h:Bc):Prop where
 ex:∃ es ep t,h.get? S=Aa (mv es ep t)/\ip is hash es seen/\kq t es/\t.led=led/\∀ e∈es.toList,e.2∈V
section
variable {prog:Ba}{w:Bu}{h0:Bc}{A:Bp}{E:J7}{s:Ai}{S:Af}{led:Ar}{V:Y0}
def FS (a:Af)(Q:Aj):setRelay a Q=(do
  let (es,_,t) <- Wu a
  if Fd Q>sizeLine then unsupported "set:memory"
  let (es,t) <- (do
   let Aa (t,z0):=t.relaid (es.map (·.1)) Q|unsupported "internal:set-table-without-room"
   let oq:=z0.filterMap (es[·]?)
   if oq.size != es.size then unsupported "internal:set-table-lost-an-element"
   pure (oq,t))
  storeSet a es t):=Z
def qCE {K:Type}[Uk K]{is:K->Ac->Prop}{hash:K->Aq}(M:zx prog w is hash h0){seen:Ab K}{k:K}{x:Ac}{Q:Ar->Ai->Prop}(hu:A.units+8<Fj)(hS:iw h0 s.heap)(G:mi is hash S led V seen s.heap)(f:is k x)(hV:x∈V){U:Ab K}(hU:U.length<=1000)(zs:∀ k'∈seen,k'∈U)(z4:k∈U)
  (h:∀ (b:Ar) (h':Bc) (C:Aj),s.toks<=C->Ew S s.heap h'->mi is hash S led V (k::seen) h'->Q b { s with heap:=h',toks:=C }) : Ap (As prog w) A (setAdd S x) Q E s:=by
 obtain⟨J,ep,t,y,G,T,hl,hm⟩:=G;unfold setAdd;refine Df (Ad (M.hsh hu hS f λC H=>?_));unfold setAddHashed setAddHashedIn;refine Df (Ad (Gf (s:={ s with toks:=C }) y rfl T.fits ?_));dsimp only;have z1:byScan x J=false:=by obtain⟨a,rfl⟩:=M.ref f;rfl
 rw[z1];simp only[Bt,Dq];obtain⟨e,l,zo⟩:=T.gap;have first:∃ N,uc t (st t.mask (hash k)) N/\(it t.mask N (st t.mask (hash k))).j ∉ t.place.toList/\N<10*turns t.mask:=by
  obtain⟨N,hN,eN⟩:=BK T.msk (hash k) l;have gm:=nY T.tb (λ_=>hash k+1) (hash k) (10*turns t.mask) (st t.mask (hash k)) rfl ⟨N,hN,by rw[eN];exact zo⟩;generalize Nv t _ _ _ _=r at gm;cases gm with
  |emp j hj w' e' q=>exact⟨j,w',e',hj⟩
  |cand j i hj w' e' hh q=>exact absurd hh ak
 obtain⟨N,c,zn,z5⟩:=first
 have z7:N<100000:=by
  have:turns t.mask<=2200:=by unfold turns;rcases T.msk with h|h|h|h|h <;> rw[h] <;> lia
  lia
 refine Ad (MW M (s:={ s with toks:=C }) hu hS y Z T G f N c zn z5 (λhk=>?_) (λhk=>?_) 100000 0 Zw Z ak ak λm i e hm=>by lia);exact An (h _ s.heap _ H (Yf _ _) ⟨J,ep,t,y,G.again hk,T,hl,hm⟩)
 .have z6:J.size<1000:=Bq (G.few zs z4 hk) hU;dsimp only;refine Ad (Gf (s:={ s with toks:=C }) y Z T.fits ?_);obtain⟨n,u,p3,p4⟩:=T.put (h:=hash k) (x:=x) c zn (qBx _ _ _);generalize hj:(it t.mask N (st t.mask (hash k))).j=j at *;have z:(t.put j).1.mask=t.mask:=rfl;have m2:(t.put j).1.plain=true:=T.plain;have m3:(t.put j).1.led=led:=hl;generalize hp:t.put j=tp at *;obtain⟨I,p⟩:=tp;dsimp only at n u p3 p4 z m2 m3 ⊢;rw[m2];simp only[Dr];refine Ad (M.byV (s:={ s with toks:=C }) hS f ?_);simp only[Dr,Aa5,AaG];have Y:(Dz J p (hash k,x)).size=J.size+1:=gQ _ _ _;have O:J.size+1<=sizeLine:=by rw[El];lia
  refine Ad (Yg (s:={ s with toks:=C }) y Z ?_ (by rw[Y];exact O));have L:ip is hash (Dz J p (hash k,x)) (k::seen):=by refine G.push (λa b=>M.inj a b) f hk ?_;have:=Kw J p (hash k,x);rw[Jo] at this;exact this
  have zl:∀ e∈(Dz J p (hash k,x)).toList,e.2∈V:=λe l=>by
   have:=(Kw J p (hash k,x)).mem_iff.mp l;rw[Jo] at this;rcases Ch.mp this with h1|h1
   .exact hm e h1
   .simp at h1;subst h1;exact hV
  have B:=XQ (oq:=Dz J p (hash k,x)) (t':=I) y;have zc:=Hg s.heap S (Obj.putSet (Dz J p (hash k,x)) I);have o:I.fits (Dz J p (hash k,x)).size=true:=by
   have v:I.fill=J.size+1:=by unfold Rp;rw[n.dm,u,Y];rfl
   have h2:=T.few;unfold AaF;rw[v,u,Y,z];rcases T.msk with h|h|h|h|h <;> rw[h] at h2 ⊢ <;> simp <;> lia
  refine BM (λg=>?_) λg=>?_
  .have z3:um I.mask:=by rw[z];exact T.msk
   have v:((Dz J p (hash k,x)).size-1)*5<I.mask*3:=by rw[Y,z];exact T.few
   obtain⟨q1,t2,z0,q2,q3,q4,q5,_⟩:=_p z3 m2 u (by rw[Y];lia) (by simpa using g) n.dm v (by rw[Y];lia);rw[Y] at q1 q2;rw[FS];refine Ad ?_;refine Ad (Gf (s:={ s with heap:=_,toks:=C }) B Z o ?_);dsimp only;rw[AT (by rw[El];lia)];refine Ad ?_;rw[q2];dsimp only;have d:(z0.filterMap λz2=>(Dz J p (hash k,x))[z2]?).size=J.size+1:=by rw[<- Dp,q4.length_eq,Dp,Y]
   rw[AT (by rw[d,Y];simp)];refine An ?_;refine Yg (s:={ s with heap:=_,toks:=C }) B Z ?_ (by rw[d];exact O);refine An (h _ _ _ H (zc.trans (Hg _ S _)) ⟨_,_,t2,XQ B,L.perm q4,q5,by rw[q3];exact m3,λe l=>zl e (q4.mem_iff.mp l)⟩)
  .refine An (h _ _ _ H zc ⟨_,_,I,B,L,⟨n,by rw[z];exact T.msk,u,by rw[z];exact p3,?_,by rw[z];exact p4,m2⟩,m3,zl⟩);have v:I.fill=J.size+1:=by unfold Rp;rw[n.dm,u,Y];rfl
   unfold Zq at g;rw[v] at g;rw[Y];simpa using g
end
end _S
namespace _S
open PySem.SetTable (Probe leap runEnd turns bits)
def xy (prog:Ba)(w:Bu)(k:Aq)(v:Ac):Prop:=(Ip prog w).is k v=Vp
section
variable {prog:Ba}{w:Bu}
set_option tactic.hygienic true in
def rA (h:xy prog w k v):∃ t,v=.int k t:=by
 cases v <;> first|(exact absurd h (by rintro⟨⟩)) | skip
 rename_i i t;refine⟨t,?_⟩;have:i=k:=(Ip prog w).inj (.int i t) i k (intKind_is _ _ _ _) h;rw[this]
end
end _S
namespace _S
variable {Q:J7}{i:Aj}
structure wx (prog:Ba)(w:Bu){K:Type}(is:K->Ac->Prop)(hash:K->Aq)(h0:Bc):Prop where
 add:∀ {A:Bp} {E:J7} {s:Ai} {S:Af} {led:Ar} {V:Y0} {seen U:Ab K} {k:K} {x:Ac} {Q:Ar->Ai->Prop},A.units+8<Fj->iw h0 s.heap->mi is hash S led V seen s.heap->is k x->x∈V->U.length<=1000->(∀ k'∈seen,k'∈U)->k∈U ->
  (∀ (b:Ar) (h':Bc) (tk:Aj),s.toks<=tk->Ew S s.heap h'->mi is hash S led V (k::seen) h'->Q b { s with heap:=h',toks:=tk }) -> Ap (As prog w) A (setAdd S x) Q E s
def EY (h0:Bc):wx prog w (im prog w h0) (Th (Ip prog w)) h0:=⟨λN U Y C B G O J h=>qCE qCc N U Y C B G O J h⟩
def uO {K:Type}(Y:Aj->K):Aj->Ab K
 |0=>[]
 |i+1=>Y i::uO Y i
theorem gD {K:Type}{Y:Aj->K}{k:K}:∀ {n:Aj},k∈uO Y n↔∃ i,i<n/\Y i=k
 |0=>by simp[uO]
 |n+1=>by
  rw[uO,Av,gD];constructor
  .rintro (rfl|⟨i,h,e⟩)
   .exact⟨n,by lia,Z⟩
   .exact⟨i,by lia,e⟩
  .rintro⟨i,h,e⟩;by_cases J:i=n
   .subst J;exact .inl e.symm
   .exact .inr ⟨i,by lia,e⟩
section
variable {prog:Ba}{w:Bu}{A:Bp}{R:Qr->Ai->Prop}{I:Af}{fp wr:J9}{G:Bs Tr->Bs Tr->Prop}{n:Aj}{P:Aj->Ac->Prop}{St:Aj->Ai->Prop}
variable {K:Type}{is:K->Ac->Prop}{hash:K->Aq}{h0:Bc}{led:Ar}{V:Y0}{U:Ab K}
def mi.sup {S:Af}{seen:Ab K}{h h':Bc}(Y:mi is hash S led V seen h)(e:∀ o,h.get? S=Aa o->h'.get? S=Aa o):mi is hash S led V seen h':=by obtain⟨J,N,t,O,r⟩:=Y;exact⟨J,N,t,e _ O,r⟩
def E0 (a:wx prog w is hash h0)(W:WalksS prog w A.in1 I fp wr G n P St)(S:Af)(l:S ∉ fp)(hu:A.in1.units+8<Fj)(Y:Aj->K)(q:∀ i v,P i v->is (Y i) v/\v∈V)(hU:U.length<=1000)(M:∀ i,i<n->Y i∈U)
  (c:h0.get? S=Zw) (f:∀ b∈wr,h0.get? b=Zw):∀ (k i:Aj) (s:Ai),n-i=k->i<=n->St i s->iw h0 s.heap->mi is hash S led V (uO Y i) s.heap ->
   (∀ s',Moved (S::wr) G s s'->mi is hash S led V (uO Y n) s'.heap->R (.ok (.ret .none)) s')->Gs (As prog w) A (.builtin "set.update.loop" ⟨[.ref S,.ref I],[]⟩) R s:=by
 have y:S ∉ wr:=λh=>l (W.sub _ h);have J:∀ b∈wr,b∈S::wr:=λb C=>Bn _ C;intro k
 induction k with
 |zero =>
  intro i s hk hi N x O m;have t:i=n:=by lia
  subst t;refine Jh Mq ?_;rw[Jq Im _];show Ap _ A.in1 (Pi (.ref I) >>= _) _ _ s;refine Ad (W.done s _ _ N λs' E=>?_);exact An (m s' (E.mono J) (O.sup λo e=>E.heap S _ y e))
 |succ k ih =>
  intro i s hk hi N x O m;have L:i<n:=by lia
  refine Jh Mq ?_;rw[Jq Im _];show Ap _ A.in1 (Pi (.ref I) >>= _) _ _ s;refine Ad (W.item i s _ _ L N λv s' hP g E=>?_);obtain⟨q1,q2⟩:=q i v hP;have H:iw h0 s'.heap:=λb o e=>E.heap b o (λC=>by rw[f b C] at e;cases e) (x b o e);show Ap _ A.in1 (holding [v] (setAdd S v) >>= _) _ _ s';refine Ad (Df (a.add hu H (O.sup λo e=>E.heap S _ y e) q1 q2 hU (λk' d=>?_) (M i L) λb h' tk u T z=>?_));obtain⟨j,hj,e⟩:=gD.mp d;exact e▸M j ak
  .refine An ⟨Rr Im _,ih (i+1) _ ak L (W.frame _ s' _ _ g u λb C o e=>?_) (λb o e=>?_) z λr p B=>?_⟩
   .rw[T.2 b (λh:b=S=>l (by rw[<- h];exact C))];exact e
   .rw[T.2 b (λh:b=S=>by rw[h,c] at e;cases e)];exact H b o e
   .refine m r (Moved.trans W.gtrans ((E.mono J).then_heap u λb o C e=>?_) p) B;rw[T.2 b (λh:b=S=>C (by rw[h];exact Cr))];exact e
end
section
variable {prog:Ba}{w:Bu}{A:Bp}{E:J7}{s:Ai}
noncomputable def j0 (w:Bu):Ar:=!w.params.followText "set-order"
@[reducible] def nz (w:Bu):Ce:=mv #[] 0 (.fresh 0 0 (j0 w))
def QZ (a:Ac){Q₁:J7}(h:Q₁ (.ref s.heap.objs.size) { s with heap:=s.heap.push (nz w) }) : Gs (As prog w) A (.call (.builtin "set.__new__") ⟨[.type "set",a],[]⟩) (wants Q₁ E) s:=by refine Pd ?_;show Ap _ A.in1 (do Ss "set.__new__" ⟨[.type "set",a],[]⟩;again (.builtin "set.__new__" ⟨[.type "set",a],[]⟩)) _ _ s;refine Ad (Ka (PySem.F.newCall_set_1 a) (An ⟨Rr Uu _,Jh PySem.F.entry_set_new ?_⟩));rw[Jq Uu _];unfold Ih.«set.__new__» AaA;have Y:=PySem.sub_set_self;obtain⟨U,g,d,J,os⟩:=s;dsimp only;wp_walk;refine Kb (An ?_);dsimp only;simp only[newObj];exact Ad (Zn (An (An h)))
def G4 (w:Bu):kq (.fresh 0 0 (j0 w)) #[]:=⟨⟨by unfold Rs;exact Nt,rfl⟩,.inl rfl,rfl,λx Y=>(by cases Y),(show 0*5<7*3 by decide),λi e h=>(by simp at h),rfl⟩
variable {K:Type}{is:K->Ac->Prop}{hash:K->Aq}{U:Ab K}
def WY (a:wx prog w is hash s.heap){l:Af}{items:Bs Ac}{Q:J7}(hh:A.handled=Zw)(hu:A.units+16<Fj)(hl:s.heap.IsList l items\/s.heap.IsTuple l items)(J:Aj->K)(d:∀ i v,items[i]? = Aa v->is (J i) v)(hU:U.length<=1000)(zl:∀ i,i<items.size->J i∈U)
  (h:∀ (h':Bc) (t:Aj),mi is hash s.heap.objs.size (j0 w) items.toList (uO J items.size) h'->(∀ b o,s.heap.get? b=Aa o->h'.get? b=Aa o)->Q (.ref s.heap.objs.size) { s with heap:=h',toks:=t }) :
  Ap (As prog w) A (call (.type "set") [.ref l]) Q E s:=by
 obtain⟨c,tl,z2⟩:=Go.mro;have zc:=Go.made;have z1:=Go.sub;refine L2 (Pd ?_);show Ap _ _ (callAny (.type "set") _) _ _ _;refine An ⟨Na _ (by decide +kernel),Jh PySem.F.entry_type_call ?_⟩;rw[Around.under_plain (weight_type_call_type "set" [.ref l] []) Z];have h1:=Go.notType;have h2:=Go.canCreate;have z4:=PySem.F.typeCall_set_1 (.ref l)
 repeat (any_goals (first|assumption|wp_step))
 refine Lq (QZ (.ref l) (E:=E) (Q₁:=λp B=>p=.ref s.heap.objs.size/\B={ s with heap:=s.heap.push (nz w) }) ⟨Z,Z⟩) λr B hr=>?_;cases r with
 |error e=>exact hr
 |ok fl =>
  cases fl with
  |ret p =>
   obtain⟨rfl,rfl⟩:=hr;have hS:(s.heap.push (nz w)).get? s.heap.objs.size=Aa (nz w):=Bf _ rfl;have hT:Wj { s with heap:=s.heap.push (nz w) } (.ref s.heap.objs.size) "set":=⟨_,hS,rfl⟩
   have z5:=Go.init.lookup;have z3:=Go.init.bind (.ref s.heap.objs.size)
   repeat (any_goals (first|assumption|wp_step))
   refine Lq (Jp (R:=wants (λr C=>r=.none/\∃ h' t,C={ s with heap:=h',toks:=t } /\ mi is hash s.heap.objs.size (j0 w) items.toList (uO J items.size) h'/\∀ b o,s.heap.get? b=Aa o->h'.get? b=Aa o) E) Go.init.plain PySem.F.entry_set_init (check_set_init_1 hT ?_)) λq C Y=>?_
   .have f:l<s.heap.objs.size:=by rcases hl with⟨_,e,_⟩|⟨_,e,_⟩ <;> exact Bh e
    have O:l≠(s.heap.push (nz w)).objs.size:=by rw[Ep];exact Cm (Yh f)
    have nS:s.heap.get? s.heap.objs.size=none:=Hx (Ay _);have nI:s.heap.get? (s.heap.push (nz w)).objs.size=none:=Hx (by rw[Ep];exact Jx _);rcases hl with⟨⟨k,j,I,G⟩,u,z,nl,M⟩|⟨⟨k,j,I,G⟩,u,z,nl,M⟩
    all_goals
     simp only at z M;subst z;subst M;have L:=Ak (nz w) u
    case' inl =>
     have y:=PySem.F.sub_list_set;have g:=PySem.F.sub_list_frozenset;have zn:(Ht "list" == Ht "dict")=false:=by decide
     have N:(s.heap.push (nz w)).IsList l items:=⟨_,L,Z,nl,Z⟩
    case' inr =>
     have y:=PySem.F.sub_tuple_set;have g:=PySem.F.sub_tuple_frozenset;have zn:(Ht "tuple" == Ht "dict")=false:=by decide
     have N:(s.heap.push (nz w)).IsTuple l items:=⟨_,L,Z,nl,Z⟩
    all_goals
     unfold Ih.«set.__init__» noKeywords Aa3;generalize zs:Pj=PI;wp_walk;subst zs
     first
      |(refine Gz N ?_;have W:=(Walks.list (prog:=prog) (w:=w) (A:=A.in1.in1.in1) (by simp[hh]) _ l O items).toS)
      |(refine Iw N ?_;have W:=(Walks.tuple (prog:=prog) (w:=w) (A:=A.in1.in1.in1) (by simp[hh]) _ l O items).toS)
     refine Ad (wpAny_runValue ?_);refine E0 (led:=j0 w) (V:=items.toList) a W s.heap.objs.size ?_ (by show A.units+3+8<Fj;lia) J (λi v hv=>⟨d i v hv,?_⟩) hU zl nS (λb hb=>?_) (items.size-0) 0 _ ak (EQ _)
      ⟨⟨_,Bf _ Z,Z,Z⟩,N.push _⟩ (λb o e=>Ak _ (Ak _ e)) ?_ λs' m T=>?_
     .rw[Ep];simp only[Av,Bz,Cz,Fu,not_or];exact⟨Cm (Fv _),Hl f⟩
     .exact Cd (by rw[By];exact hv)
     .rw[Bz.mp hb];exact nI
     .exact⟨#[],0,_,Ak _ hS,ip.nil,G4 w,Z,λe he=>by simp at he⟩
     .obtain⟨h',g',d',zo,n⟩:=s';have eg:g'=s.gens:=m.gens;have ed:d'=s.drawn:=m.drawn;have eo:n=s.os:=m.os;subst eg;subst ed;subst eo;refine An (An ⟨rfl,h',zo,rfl,T,λb o e=>?_⟩);refine m.heap b o (λhb=>?_) (Ak _ (Ak _ e));rcases Av.mp hb with rfl|hb
      .rw[nS] at e;cases e
      .rw[Bz.mp hb,nI] at e;cases e
   .cases q with
    |error e=>exact Y
    |ok H =>
     cases H with
     |ret r =>
      obtain⟨rfl,h',t,rfl,T,x⟩:=Y
      repeat (any_goals (first|assumption|wp_step))
      exact h _ _ T x
     |_=>exact Y.elim
  |_=>exact hr.elim
end
theorem lO {J:Type}:∀ {l:Ab J} {i:Aj} (h:i<l.length),(l[i]::l.eraseIdx i).Perm l
 |a::l,0,h=>by simp
 |a::l,i+1,h=>by rw[Tf,List.getElem_cons_succ];exact(List.Perm.swap _ _ _).trans ((lO (l:=l) (i:=i) (by simpa using h)).cons a)
theorem c9 {J:Type}(next:Aj->Aj):∀ (fuel k:Aj) (left:Ab J) (Y:Bs J),left.length=fuel->(Xl next fuel k left Y).toList.Perm (Y.toList++left)
 |0,k,left,Y,h=>by
  have:left=[]:=Pe h;subst this;unfold Xl;simp
 |fuel+1,k,left,Y,h=>by
  unfold Xl;have U:next k % left.length<left.length:=Oa _ om
  rw[Be U];dsimp only;refine(c9 next fuel (k+1) _ _ (by rw[List.length_eraseIdx,Au U];fin2)).trans ?_;rw[Jo,Ia];refine List.Perm.append_left _ ?_;exact lO U
def rT {J:Type}(next:Aj->Aj)(xs:Bs J) : (Pg next xs).toList.Perm xs.toList:=by
 have:=c9 next xs.size 0 xs.toList #[] aA
 simpa [Pg] using this
def vU:Slot "set_iterator" "__next__" "set_iterator.__next__":=
 .of (owner:="set_iterator") (n:="__next__") (by rw[v4,Uv];kernel_rfl) (by decide +kernel) (by decide +kernel) (by decide +kernel) (.inl (by decide +kernel)) (by rw[Vf];kernel_rfl)
def lN:entryFor table "set_iterator.__next__" = Aa Ih.«set_iterator.__next__»:=entryFor_of_fast (by kernel_rfl)
def eH (a:Ac):argsOk "set_iterator.__next__" ⟨[a],[]⟩:=by unfold argsOk;kernel_rfl
def cL:Slot "set_iterator" "__iter__" "set_iterator.__iter__":=
 .of (owner:="set_iterator") (n:="__iter__") (by rw[v4,Uv];kernel_rfl) (by decide +kernel) (by decide +kernel) (by decide +kernel) (.inl (by decide +kernel)) (by rw[Vf];kernel_rfl)
def _u:entryFor table "set_iterator.__iter__" = Aa Ih.«dict_keyiterator.__iter__»:=entryFor_alias (id':="dict_keyiterator.__iter__") (by kernel_rfl) Z (by decide +kernel) (by kernel_rfl)
def VU (a:Ac):argsOk "set_iterator.__iter__" ⟨[a],[]⟩:=by unfold argsOk;kernel_rfl
def _v:entryFor table "set.__iter__" = Aa Ih.«frozenset.__iter__»:=entryFor_alias (id':="frozenset.__iter__") (by kernel_rfl) Z (by decide +kernel) (by kernel_rfl)
def SG (a:Af)(slot given Y:Aj):setNext a slot given Y=(do
  let (es,epoch,t) <- Wu a
  if <- setsByText then
   if epoch != Y then unsupported "set_iterator.__next__:elements-changed"
   return ((<- setWalk a)[given]?).map λe=>(e.2,slot)
  if !t.plain&&es.size>1 then unsupported "set_iterator.__next__:the-table-is-plain-no-more"
  (do if !t.led&&!es.isEmpty then unsupported "set:maker-not-led")
  return match es[Cg t.place slot]?,t.place[Cg t.place slot]? with
   |some (_,x),Aa j=>Aa (x,j+1)
   |_,_=>Zw):=rfl
def EI (a:Af):setWalk a=(do
  let (es,epoch,t) <- Wu a
  if <- setsByText then return Pg ((<- ask).params.setOrder a epoch) es
  if !t.plain&&es.size>1 then return (<- drawOrder es.size es.toList).toArray
  (do if !t.led&&es.size>1 then unsupported "set:maker-not-led")
  return es):=Z
def PZ (a:Af):setDrawn a=(do
  let (es,_,t) <- Wu a;let byText <- setsByText
  return !byText&&(!t.plain&&es.size>1)):=Z
structure nk (w:Bu)(S:Af)(es:Bs (Aq × Ac))(ep:Aj)(t:Fq):Prop where
 tab:kq t es
 led:t.led=j0 w
def z0 (w:Bu)(S:Af)(Y:Aj)(es:Bs (Aq × Ac)):Bs (Aq × Ac):=if w.params.followText "set-order" = Vp then Pg (w.params.setOrder S Y) es else es
def dI (w:Bu)(S:Af)(Y:Aj)(es:Bs (Aq × Ac)):(z0 w S Y es).toList.Perm es.toList:=by
 unfold z0;split;exact rT _ _;exact Aa6 _
def jQ (w:Bu)(S:Af)(Y:Aj)(es:Bs (Aq × Ac)):(z0 w S Y es).size=es.size:=by rw[<- Dp,(dI w S Y es).length_eq,Dp]
noncomputable def xf (slot i:Aj)(S:Af)(n Y:Aj):Ce:={ cls:=.type "set_iterator",data:=.fields #[.int slot 0,.int i 0,.ref S,.int n 0,.int Y 0] }
def At (w:Bu)(I S:Af)(es:Bs (Aq × Ac))(Y:Aj)(t:Fq)(i:Aj)(h:Bc):Prop:=
 ∃ slot,h.get? I=Aa (xf slot i S es.size Y)/\h.get? S=Aa (mv es Y t)/\(w.params.followText "set-order" = Vp\/Cg t.place slot=i)
section
variable {prog:Ba}{w:Bu}{A:Bp}{E:J7}{s:Ai}{S I:Af}{es:Bs (Aq × Ac)}{ep:Aj}{t:Fq}
def VA {slot:Aj}{Q:Al (Ac × Aj)->Ai->Prop}(Y:nk w S es ep t)(T:s.heap.get? S=Aa (mv es ep t))(hs:w.params.followText "set-order" = Vp\/Cg t.place slot=i)
  (O:∀ e J,(z0 w S ep es)[i]? = Aa e->(w.params.followText "set-order" = Vp\/Cg t.place J=i+1)->Q (Aa (e.2,J)) s) (C:(z0 w S ep es)[i]? = Zw->Q Zw s):Ap (As prog w) A (setNext S slot i ep) Q E s:=by
 rw[SG];refine Ad (Gf T rfl Y.tab.fits ?_);dsimp only;refine Ad (Ad (Kb (An ?_)));cases U:w.params.followText "set-order" with
 |true =>
  show Ap _ _ (if (w.params.followText "set-order")=Vp then _ else _) _ _ _;rw[Au U];have B:(ep != ep)=false:=by simp
  rw[B];simp only[Bt,Dq];refine Ad ?_;rw[EI];refine Ad (Gf T Z Y.tab.fits ?_);dsimp only;refine Ad (Ad (Kb (An ?_)));show Ap _ _ (if (w.params.followText "set-order")=Vp then _ else _) _ _ _;rw[Au U];refine Ad (Kb (An (An ?_)));show Q (((Pg (w.params.setOrder S ep) es)[i]?).map λe=>(e.2,slot)) s;have G:z0 w S ep es=Pg (w.params.setOrder S ep) es:=by unfold z0;rw[Au U]
  rw[G] at O C;cases N:(Pg (w.params.setOrder S ep) es)[i]? with
  |none=>exact C N
  |some e=>exact O e slot N (.inl U)
 |false =>
  show Ap _ _ (if (w.params.followText "set-order")=Vp then _ else _) _ _ _;rw[AT (by rw[U];decide),Y.tab.plain,Y.led];unfold j0;rw[U];simp only[Mh,Gv,Bt,Dq,Aa5];have B:Cg t.place slot=i:=by
   rcases hs with h|h
   .rw[U] at h;cases h
   .exact h
  rw[B];have G:z0 w S ep es=es:=by unfold z0;rw[AT (by rw[U];decide)]
  rw[G] at O C;refine An ?_;cases N:es[i]? with
  |none=>exact C N
  |some e =>
   have H:i<t.place.size:=by rw[Y.tab.size];exact(Cq.mp N).1
   have L:t.place[i]? = Aa t.place[i]:=Dk H;rw[L];exact O e _ N (.inr (WW Y.tab.tb.rs L))
def At.type (h:At w I S es ep t i s.heap):s.TypeIs (.ref I) "set_iterator":=by obtain⟨slot,h,_⟩:=h;exact⟨_,h,rfl⟩
def c7 (J:nk w S es ep t)(T:At w I S es ep t i s.heap)
  (M:∀ e Y slot,(z0 w S ep es)[i]? = Aa e->s.heap.get? I=Aa (xf slot i S es.size ep)->s.heap.get? S=Aa (mv es ep t)->(w.params.followText "set-order" = Vp\/Cg t.place Y=i+1) ->
   Q e.2 { s with heap:=(s.heap.update I (Ko (·.setIfInBounds 0 (Ju Y)))).update I (Ko (·.setIfInBounds 1 (Ju ((i:Aq)+1)))) })
  (L:(z0 w S ep es)[i]? = Zw->Ap (As prog w) A (do setField (.ref I) 2 .none;sB (<- Zi (.type "StopIteration") [])) (λ(fin:PySem.Fin) s'=>∃ r,fin=.done (.ret r)/\Q r s') E s) :
  Ap (As prog w) A (Ih.«set_iterator.__next__» ⟨[.ref I],[]⟩) (λfin s'=>∃ r,fin=.done (.ret r)/\Q r s') E s:=by
 obtain⟨slot,U,O,H⟩:=T;show Ap _ _ (fieldsOf (.ref I) >>= _) _ _ s;refine Ad (wpAny_fieldsOf U rfl ?_);show Ap _ _ (setEntries S >>= _) _ _ s;refine Ad (Wk O rfl J.tab.fits ?_);have B:(((es.size:Aj):Aq) != ((es.size:Aj):Aq))=false:=by simp
 rw[B];simp only[Bt,Dq];show Ap _ _ (setNext S (slot:Aq).toNat (i:Aq).toNat (ep:Aq).toNat >>= _) _ _ s;rw[Fk,Fk,Fk];refine Ad (VA J O H (λe Y C G=>?_) λC=>?_);dsimp only;refine Ad (Gj U Z (by show 0<5;decide) ?_);have N:=Dx (Ko (·.setIfInBounds 0 (Ju Y))) U Z;refine Ad (Gj N Z (by show 1<5;decide) ?_);exact An ⟨_,Z,M e Y slot C U O G⟩;exact L C
def EH (j:A.handled=Zw)(G:S≠I)(N:nk w S es ep t):Walks prog w A I [I,S] [I] es.size (λi v=>∃ e,(z0 w S ep es)[i]? = Aa e/\e.2=v) (λi h=>At w I S es ep t i h) where
 sub:=λb Y=>by simp at Y;simp[Y]
 frame:=λi h k ⟨slot,y,M,H⟩ L=>⟨slot,L I aA _ y,L S aA _ M,H⟩
 item:=λi s Q E u st O=>by
  unfold Pi;refine Ad (Kq (Dv (name:=Fb "__next__") st.type vU (Dw vU st.type lN (c7 N st (λe J slot U C B Y=>?_) λU=>?_) (eH _))))
  .refine An (O e.2 _ s.toks ⟨e,U,Z⟩ ⟨J,?_,?_,Y⟩ λb o Y e=>?_)
   .exact Dx _ (Dx _ C Z) Z
   .rw[Cj _ _ G.symm,Cj _ _ G.symm];exact B
   .have Y:I≠b:=λz=>Y (by simp[z]);rw[Cj _ _ Y,Cj _ _ Y];exact e
  .have:=Array.getElem?_eq_none_iff.mp U;rw[jQ] at this;fin2
 done:=λs Q E st O=>by
  unfold Pi;refine Ad (Kq (Dv (name:=Fb "__next__") st.type vU (Dw vU st.type lN (c7 N st (λe J slot U C B Y=>?_) λU=>?_) (eH _))));have:=(Cq.mp U).1;rw[jQ] at this;fin2
  .obtain⟨slot,C,B,Y⟩:=st;refine Ad (Gj C Z (by show 2<5;decide) ?_);refine Ad ?_;simp only[Zi,newTuple];refine Ad (Dj ?_ (by size_fits));refine Ad (m:=Lo _ _) (Ka (a:=Ei) (by first|rfl|(simp only[Lo];rfl)) ?_);refine Dj ?_ (by size_fits);simp only[sB];refine Ad (Wh ?_);rw[show A.in1.handled=Zw from j];refine Ad (An (Us ?_));refine Ad (Sv (T:="StopIteration") (b:=Vp) ⟨_,Bf _ Z,Z⟩ isSubtype_stop ?_);refine An (O _ s.toks λb o Y e=>?_);exact(((Hg ..).extBut.push _).push _) b o (λz=>Y (by simp[z])) e
 self:=λi s Q E st O=>by refine Yi st.type cL (Dw cL st.type _u ?_ (VU _));show Ap _ _ (ret (.ref I)) _ _ s;exact An ⟨_,Z,"set_iterator",_,st.type,vU.lookup,O⟩
def BN (Y:nk w S es ep t)(J:s.heap.get? S=Aa (mv es ep t))(h:Q (.ref s.heap.objs.size) { s with heap:=s.heap.push (xf 0 0 S es.size ep) }) : Ap (As prog w) A (Pj (.ref S)) Q E s:=by have U:s.TypeIs (.ref S) "set":=⟨_,J,Z⟩;refine Yi U Uw (Dw Uw U _v ?_ (PySem.F.args_set_iter_1 _));show Ap _ _ (Sf S >>= _) _ _ s;unfold Sf;refine Ad (Ad (Wk J Z Y.tab.fits (An ?_)));refine Ad ?_;rw[PZ];refine Ad (Gf J Z Y.tab.fits ?_);dsimp only;refine Ad (Ad (Kb (An (An ?_))));rw[Y.tab.plain];simp only[Mh,Gv,Hu,Bt,Dq];refine Ad (An ?_);unfold setEpoch;refine Ad (Ad (Gf J Z Y.tab.fits (An ?_)));refine Ad (Dj (An ⟨_,Z,"set_iterator",_,⟨_,Bf _ Z,Z⟩,vU.lookup,h⟩))
def NF (Y:nk w S es ep t)(J:s.heap.get? S=Aa (mv es ep t)):At w s.heap.objs.size S es ep t 0 (s.heap.push (xf 0 0 S es.size ep)):=
 ⟨0,Bf _ Z,Ak _ J,.inr (WX Y.tab.tb.rs)⟩
end
end _S
namespace _S
open PySem.W
structure Ord {K:Type}(lt:K->K->Ar):Prop where
 irr:∀ a,lt a a=Yp
 tr:∀ {a b c},lt a b=Vp->lt b c=Vp->lt a c=Vp
 tri:∀ {a b},lt a b=Yp->a=b\/lt b a=Vp
theorem X8:∀ a:Ab Aq,_H.lexLt a a=Yp
 |[]=>rfl
 |x::Q=>by rw[_H.dz,Au rfl];exact X8 Q
theorem JB:∀ {a b c:Ab Aq},_H.lexLt a b=Vp->_H.lexLt b c=Vp->_H.lexLt a c=Vp
 |_,[],[],_,h=>by cases h
 |_,_::_,[],_,h=>by cases h
 |[],_,_::_,_,_=>rfl
 |_::_,[],_::_,h,_=>by cases h
 |x::G,y::O,z::N,Y,Q=>by
  rw[_H.dz] at Y Q ⊢;by_cases U:x=y
  .subst U;rw[Au Z] at Y;by_cases J:x=z
   .rw[Au J] at Q ⊢;exact JB Y Q
   .rw[AT J] at Q ⊢;exact Q
  .rw[AT U] at Y;have Y:=Bd Y;by_cases J:y=z
   .subst J;rw[AT U];exact Ci Y
   .rw[AT J] at Q;have Q:=Bd Q;rw[AT om];exact Ci om
theorem X9:∀ {a b:Ab Aq},_H.lexLt a b=Yp->a=b\/_H.lexLt b a=Vp
 |[],[],_=>.inl rfl
 |[],_::_,h=>by cases h
 |_::_,[],_=>.inr rfl
 |x::Q,y::Y,h=>by
  rw[_H.dz] at h ⊢;by_cases e:x=y
  .subst e;rw[Au rfl] at h ⊢;rcases X9 h with h|h
   .exact .inl (by rw[h])
   .exact .inr h
  .rw[AT e] at h;have h:=Ef h;rw[AT (Dm e)];exact .inr (Ci om)
def jF:Ord _H.lexLt:=⟨X8,JB,X9⟩
theorem eR {J : Type}{p q:J->Ar}:∀ {l:Ab J},(∀ x∈l,p x=Vp->q x=Vp)->(∃ x∈l,q x=Vp/\p x=Yp)->l.countP p<l.countP q
 |[],_,⟨x,h,_⟩=>by simp at h
 |a::l,h,⟨x,hx,Y,U⟩=>by
  have O:l.countP p<=l.countP q:=Ux λy Q=>h y (by simp[Q]);rw[Zr,Zr];rcases Av.mp hx with rfl|hx
  .rw[AT (by rw[U];decide),Au Y];fin2
  .have N:=eR (l:=l) (λy Q=>h y (by simp[Q])) ⟨x,hx,Y,U⟩;have:=h a aA;cases G:p a with
   |false=>rw[AT aC];split <;> fin2
   |true=>rw[Au rfl,Au (this G)];fin2
section
variable {K:Type}{lt':K->K->Ar}
def dQ (lt':K->K->Ar)(ks:Ab K)(x:K):Aq:=(ks.countP (λk=>lt' k x):Aj)
def Q0 (O:Ord lt'){ks:Ab K}{x y:K}(Y:x∈ks):lt' x y=decide (dQ lt' ks x<dQ lt' ks y):=by
 unfold dQ;cases h:lt' x y with
 |true =>
  refine(Ci ?_).symm;have:=eR (l:=ks) (p:=λk=>lt' k x) (q:=λk=>lt' k y) (λz _ Q=>O.tr Q h) ⟨x,Y,h,O.irr x⟩;fin2
 |false =>
  refine(Bo ?_).symm;have:ks.countP (λk=>lt' k y)<=ks.countP (λk=>lt' k x):=by
   rcases O.tri h with e|h'
   .rw[e];exact Ay _
   .exact Ux λz _ Q=>O.tr Q h'
  fin2
def nM (lt':K->K->Ar)(ks:Ab K)(d:K)(i j:Aj):Ar:=lt' (ks.getD i d) (ks.getD j d)
def Nf (lt':K->K->Ar)(l:Ab K):Prop:=l.Pairwise λa b=>lt' b a=Yp
theorem XD (O:Ord lt'):∀ {a b:Ab K},Nf lt' a->Nf lt' b->a.Perm b->a=b
 |[],b,_,_,p=>(List.nil_perm.mp p).symm
 |x::a,b,Q,Y,p=>by
  cases b with
  |nil=>exact absurd p.symm aA
  |cons y b =>
   unfold Nf at Q Y;rw[Fc] at Q Y;have e:x=y:=by
    rcases Av.mp (p.mem_iff.mp (.head _)) with e|e
    .exact e
    .rcases Av.mp (p.mem_iff.mpr (.head _)) with e'|e'
     .exact e'.symm
     .have J:=Q.1 y e';have U:=Y.1 x e;rcases O.tri J with e|h
      .exact e.symm
      .rw[U] at h;cases h
   subst e;rw[XD O Q.2 Y.2 (List.Perm.cons_inv p)]
def JO (O:Ord lt'){l:Ab K}(h:Nf lt' l)(nd:l.Nodup):l.Pairwise λa b=>lt' a b=true:=by refine List.Pairwise.imp₂ (λ{a b} Q Y=>?_) h nd;exact(O.tri Q).elim (λe=>absurd e.symm Y) id
noncomputable def mS (lt':K->K->Ar)(l:Ab K):Ab K:=l.mergeSort λa b=>!lt' b a
def mT (l:Ab K):(mS lt' l).Perm l:=List.mergeSort_perm _ _
def W7 (O:Ord lt')(l:Ab K):Nf lt' (mS lt' l):=by
 have:=List.pairwise_mergeSort (le:=λa b=>!lt' b a) (λa b c J Q=>?_) (λa b=>?_) l;exact this.imp λh=>by simpa using h
 .have J:lt' b a=false:=by simpa using J
  have Q:lt' c b=false:=by simpa using Q
  cases Y:lt' c a with
  |false=>rfl
  |true =>
   rcases O.tri J with e|h
   .rw[<- e] at Y;rw[Y] at Q;cases Q
   .have:=O.tr Y h;rw[Q] at this;cases this
 .cases h:lt' b a with
  |false=>rfl
  |true =>
   cases U:lt' a b with
   |false=>rfl
   |true=>have:=O.tr h U;rw[O.irr] at this;cases this
noncomputable def kJ (lt':K->K->Ar)(x:K):Ab K->Ab K
 |[]=>[x]
 |y::l=>if lt' x y then x::y::l else if lt' y x then y::kJ lt' x l else y::l
def mn (lt':K->K->Ar):Ab K->Ab K
 |[]=>[]
 |x::Q=>kJ lt' x (mn lt' Q)
set_option tactic.hygienic true in
theorem nZ (O:Ord lt')(x y:K):∀ l:Ab K,y∈kJ lt' x l↔y=x\/y∈l
 |[]=>by simp[kJ]
 |z::l=>by
  unfold kJ;split;simp
  .rename_i Q;split
   .rw[Av,nZ O x y l,Av];exact⟨λh=>by rcases h with h|h|h <;> simp[h],λh=>by rcases h with h|h|h <;> simp[h]⟩
   .rename_i Y;have:x=z:=(O.tri (by simpa using Q)).elim id λh=>absurd h Y;subst this;simp
set_option tactic.hygienic true in
theorem ZU (O:Ord lt')(x:K):∀ l:Ab K,l.Pairwise (λa b=>lt' a b=Vp)->(kJ lt' x l).Pairwise (λa b=>lt' a b=Vp)
 |[],_=>by simp[kJ]
 |z::l,h=>by
  rw[Fc] at h;unfold kJ;split
  .rename_i Q;refine Fc.mpr ⟨λy hy=>?_,Fc.mpr h⟩;rcases Av.mp hy with rfl|hy
   .exact Q
   .exact O.tr Q (h.1 y hy)
  .split
   .rename_i Y;refine Fc.mpr ⟨λy hy=>?_,ZU O x l h.2⟩;rcases (nZ O x y l).mp hy with rfl|hy
    .exact Y
    .exact h.1 y hy
   .exact Fc.mpr h
theorem vV (O:Ord lt')(y:K):∀ l:Ab K,y∈mn lt' l↔y∈l
 |[]=>by simp[mn]
 |x::l=>by rw[mn,nZ O,vV O y l,Av]
theorem b0 (O:Ord lt'):∀ l:Ab K,(mn lt' l).Pairwise (λa b=>lt' a b=Vp)
 |[]=>by simp[mn]
 |x::l=>ZU O x _ (b0 O l)
theorem b7 (O:Ord lt'):∀ {a b:Ab K},a.Pairwise (λa b=>lt' a b=Vp)->b.Pairwise (λa b=>lt' a b=Vp)->(∀ x,x∈a↔x∈b)->a=b
 |[],[],_,_,_=>rfl
 |[],y::b,_,_,h=>by have:=(h y).mpr aA;simp at this
 |x::a,[],_,_,h=>by have:=(h x).mp aA;simp at this
 |x::a,y::b,J,U,h=>by
  rw[Fc] at J U;have Y:∀ {u v},lt' u v=Vp->lt' v u=Vp->Fz:=λp q=>by have:=O.tr p q;rw[O.irr] at this;cases this
  have e:x=y:=by
   rcases Av.mp ((h x).mp aA) with e|e
   .exact e
   .rcases Av.mp ((h y).mpr aA) with e'|e'
    .exact e'.symm
    .exact(Y (U.1 x e) (J.1 y e')).elim
  subst e;have G:∀ {z:K} {l:Ab K},(∀ y∈l,lt' x y=Vp)->z∈l->z≠x:=λh Q e=>by subst e;have:=h _ Q;rw[O.irr] at this;cases this
  rw[b7 O J.2 U.2 λz=>⟨λQ=>?_,λQ=>?_⟩];exact(Av.mp ((h z).mp (by simp[Q]))).elim (λe=>absurd e (G J.1 Q)) id;exact(Av.mp ((h z).mpr (by simp[Q]))).elim (λe=>absurd e (G U.1 Q)) id
def IW (O:Ord lt'){l xs:Ab K}(h:Nf lt' l)(nd:l.Nodup)(m:∀ x,x∈l↔x∈xs):l=mn lt' xs:=
 b7 O (JO O h nd) (b0 O xs) λx=>by rw[m,vV O]
end
theorem DU:typeLookup (.type "set") "__len__" = pure (Aa (.builtin "set.__len__")):=PySem.F.slot_set_len.lookup
section
variable {prog:Ba}{w:Bu}{A:Bp}{E:J7}{s:Ai}{S:Af}{es:Bs (Aq × Ac)}{ep:Aj}{t:Fq}
def BH (hT:s.TypeIs (.ref r) "set"){Q:Ar->Ai->Prop}(h:Q Yp s):Ap (As prog w) A (Qc (.ref r)) Q E s:=by
 unfold Qc;refine Ad (Ud hT DU ?_);generalize J:("set.__len__" : Ek)=id0
 wp_delta
 rw[show splitId id0=Aa ("set","__len__") from by subst J;decide +kernel];subst J;refine Ad (Sv (T:="set") (b:=Vp) hT (by rw[Vf];kernel_rfl) ?_);refine Ue (λY=>absurd Y aC) (λ_=>?_);refine Ue (λ_=>?_) (λY=>absurd (by decide +kernel) Y);exact Ad (Lr hT (An h))
def QP {Q:Ab Ac->Ai->Prop}(m:A.handled=Zw)(G:nk w S es ep t)(v:s.heap.get? S=Aa (mv es ep t))(hn:es.size<=1000)
  (h:∀ h' a,(∀ b o,s.heap.get? b=Aa o->h'.get? b=Aa o)->s.heap.objs.size<h'.objs.size->Q ((z0 w S ep es).toList.map (·.2)) { s with heap:=h',toks:=a }) : Ap (As prog w) A (collect (.ref S)) Q E s:=by
 have T:S<s.heap.objs.size:=Bh v;unfold collect;refine Ad (wpAny_runValue (Jh PySem.F.entry_proto_collect ?_));rw[Jq PySem.F.plain_proto_collect _];show Ap _ A.in1 (newList [] >>= λl=>again (.builtin "list.__iadd__" ⟨[l,.ref S],[]⟩)) _ _ s;refine Ad (Dj (An ⟨Rr Ti _,Jh PySem.F.entry_list_iadd ?_⟩));rw[Jq Ti _];have hD:(s.heap.push { cls:=.type "list",data:=.seq ([] : Ab Ac).toArray }).get? s.heap.objs.size=Aa { cls:=.type "list",data:=.seq #[] }:=Bf _ Z;have J:(s.heap.push { cls:=.type "list",data:=.seq ([] : Ab Ac).toArray }).get? S=Aa (mv es ep t):=Ak _ v;show Ap _ A.in1 (Qe (.ref s.heap.objs.size) (.ref S) (.ref s.heap.objs.size)) _ _ _;unfold Qe;have d:Wj { s with heap:=s.heap.push { cls:=.type "list",data:=.seq ([] : Ab Ac).toArray } } (.ref S) "set":=⟨_,J,Z⟩
 refine Ad (Lr d ?_);have h1:Sg (.ref s.heap.objs.size) (.ref S)=false:=by simp[Sg];exact Hl T
 rw[AT (by rw[h1];decide)];refine Ad (BN (s:={ s with heap:=s.heap.push { cls:=.type "list",data:=.seq ([] : Ab Ac).toArray } }) G J ?_);have B:=Ak (xf 0 0 S es.size ep) hD;have y:Wj { s with heap:=(s.heap.push { cls:=.type "list",data:=.seq ([] : Ab Ac).toArray }).push (xf 0 0 S es.size ep) } (.ref S) "set":=⟨_,Ak _ J,Z⟩
 refine Ad (Df (BH y ?_));refine Ue (λ_=>?_) (λk=>absurd aC k);refine Ad (KT (Ad ?_));show Ap _ _ (updateSeq s.heap.objs.size (·.push .none) >>= λ_=>updateSeq s.heap.objs.size (·.pop)) _ _ _;refine Ad (v6 B Z ?_);have L:=Dx (Ex (·.push Ei)) B Z;refine v6 (hz:=by seq_fits) L Z ?_;have u:=Dx (Ex (·.pop)) L Z;have H:(s.heap.push { cls:=.type "list",data:=.seq ([] : Ab Ac).toArray }).objs.size=s.heap.objs.size+1:=Ep ..;have U:∀ {b:Af} {o:Ce},b≠s.heap.objs.size->((s.heap.push { cls:=.type "list",data:=.seq ([] : Ab Ac).toArray }).push (xf 0 0 S es.size ep)).get? b=Aa o ->
   ((((s.heap.push { cls:=.type "list",data:=.seq ([] : Ab Ac).toArray }).push (xf 0 0 S es.size ep)).update s.heap.objs.size (Ex (·.push Ei))).update s.heap.objs.size (Ex (·.pop))).get? b=Aa o:=
  λN e=>(Cj _ _ (Dm N)).trans ((Cj _ _ (Dm N)).trans e)
 have g:=NF (w:=w) (s:={ s with heap:=s.heap.push { cls:=.type "list",data:=.seq ([] : Ab Ac).toArray } }) G J;refine An ⟨Rr PySem.F.plain_extend_loop _,?_⟩;refine codeAny_extend_loopS ((EH (prog:=prog) (A:=A.in1) (I:=(s.heap.push { cls:=.type "list",data:=.seq ([] : Ab Ac).toArray }).objs.size) m (by rw[H];exact Cm (Yh T)) G).toS) (by rw[El];lia) s.heap.objs.size ?_ _ es.size 0 _ #[] _ Z (EQ _) ?_ u (ItemsOf.nil _) λf M c z O Y=>?_;rw[H];simp only[Av,Cz,Fu,not_or];exact⟨Cm (Fv _),Hl T⟩;obtain⟨slot,x,a2,a3⟩:=g;exact⟨slot,U (by rw[H];exact Hl (Fv _)) x,U (Cm T) a2,a3⟩
 .show Ap _ A (load s.heap.objs.size >>= _) _ _ f;refine Ad (wpAny_load O ?_);obtain⟨h',g',d',p,j⟩:=f;have eg:g'=s.gens:=z.gens;have ed:d'=s.drawn:=z.drawn;have r:j=s.os:=z.os;subst eg;subst ed;subst r;have e:M.toList=(z0 w S ep es).toList.map (·.2):=by
   refine List.ext_getElem? λi=>?_;rw[By,Er,By];by_cases n:i<es.size
   .have C:i<M.size:=by rw[Y.1];exact n
    obtain⟨e,he,q⟩:=Y.2 i M[i] (Dk C);rw[Dk C,he,Uc,q]
   .rw[Kx (by rw[Y.1];lia),Kx (by rw[jQ];lia)];rfl
  refine An ?_;show Q M.toList _;rw[e];refine h h' p (λb o q=>?_) (Bh O);have N:b<s.heap.objs.size:=Bh q;refine z.heap b o (λhx=>?_) (U (Cm N) (Ak _ (Ak _ q)));simp only[Av,Cz,Fu] at hx;rcases hx with hx|hx
  .exact absurd N (by rw[hx];exact Fg _)
  .exact absurd N (by rw[hx,H];exact Me.mpr (Jx _))
end
def run (f:Aj->Aj->Ar){J : Type}:KasT J -> J
 |.ret a=>a
 |.ask i j k=>run f (k (f i j))
theorem uM (f:Aj->Aj->Ar){J β:Type}(g:J->KasT β) : ∀ t:KasT J,run f (t.bind g)=run f (g (run f t))
 |.ret _=>rfl
 |.ask i j k=>uM f g (k (f i j))
section
variable (r:Aj->Aq)
def lt (i j:Aj):Ar:=decide (r i<r j)
def ky (p:Bs Aj)(k:Aj):Aq:=r (p.getD k 0)
def Up (p:Bs Aj)(n:Aj):Prop:=∀ i j,i<=j->j<n->ky r p i<=ky r p j
def Dn (p:Bs Aj)(n:Aj):Prop:=∀ i j,i<=j->j<n->ky r p j<=ky r p i
variable {r}
def d7 {p q:Bs Aj}{i j:Aj}(h:p[i]? = q[j]?):ky r p i=ky r q j:=by unfold ky;rw[Qf,Qf,h]
set_option tactic.hygienic true in
def d8 {p:Bs Aj}{i j:Aj}(Q:j<=p.size)(k:Aj):ky r (Mi p i j) k=if i<=k/\k<j then ky r p (i+j-1-k) else ky r p k:=by
 have:=getElem?_mirror_all (xs:=p) (i:=i) Q k;unfold Mi;split;rename_i h;rw[Au h] at this;exact d7 this;rename_i h;rw[AT h] at this;exact d7 this
def vP (p:Bs Aj)(i j:Aj):(Mi p i j).size=p.size:=mirror_size _ _ _ _
def yC (p:Bs Aj)(i j:Aj):(Mi p i j).Perm p:=mirror_perm _ _ _ _
theorem nK (p:Bs Aj):∀ (f n:Aj),1<=n->let m:=run (lt r) (kas_asc p f n);n<=m/\m<=n+f/\(∀ k,n<=k->k<m->ky r p (k-1)<=ky r p k)/\(m<n+f->ky r p m<ky r p (m-1))
 |0,n,_=>⟨Ay _,Ay _,λk J Q=>by have:k<n:=Q;lia,λh=>by have:n<n+0:=h;lia⟩
 |f+1,n,O=>by
  simp only[kas_asc,run];cases Y:lt r (p.getD n 0) (p.getD (n-1) 0) with
  |true =>
   simp only[Dr,run];exact⟨Ay _,by lia,λk J Q=>by lia,λ_=>Bd Y⟩
  |false =>
   simp only[Bt,Dq];obtain⟨J,Q,U,G⟩:=nK p f (n+1) ak;refine⟨by lia,by lia,λk a b=>?_,λh=>G ak⟩;by_cases N:k=n;subst N;exact Ps.mp (Ef Y);exact U k ak b
def N5 {m:Aj}(h:∀ k,1<=k->k<m->ky r p (k-1)<=ky r p k):Up r p m:=by
 intro i j J Q
 induction j with
 |zero =>
  have:i=0:=by lia
  subst this;exact Lh _
 |succ j Y =>
  by_cases e:i=j+1;subst e;exact Lh _;exact Tj (Y ak ak) (h (j+1) ak Q)
def yw (p:Bs Aj)(n q:Aj):Prop:=q<n/\∀ k,n-(q+1)<=k->k<n->ky r p k=ky r p (n-1)
def iL (p:Bs Aj)(n:Aj):yw (r:=r) p (n+1) 0:=⟨Ki _,λk a b=>by
 have:k=n:=by lia
 subst this;rfl⟩
set_option tactic.hygienic true in
def ZJ {p:Bs Aj}{n q:Aj}(Y:n<=p.size)(h:yw (r:=r) p n q)(k:Aj):ky r (Mi p (n-(q+1)) n) k=ky r p k:=by
 rw[d8 Y];split;rename_i Q;rw[h.2 k Q.1 Q.2,h.2 (n-(q+1)+n-1-k) ak ak];rfl
def sV (h:∀ k,ky r Q k=ky r p k){n:Aj}(d:Dn r p n):Dn r Q n:=λi j a b=>by rw[h,h];exact d i j a b
theorem gB:∀ (f:Aj) (p:Bs Aj) (n q:Aj),n+f<=p.size->1<=n->Dn r p n->yw (r:=r) p n q ->
  let o:=run (lt r) (wE f p n q);o.1.size=p.size/\o.1.Perm p/\n<=o.2.1/\o.2.1<=n+f/\Dn r o.1 o.2.1/\yw (r:=r) o.1 o.2.1 o.2.2
 |0,p,n,q,_,_,d,e=>⟨rfl,Mr _,Ay _,Ay _,d,e⟩
 |f+1,p,n,q,z,w,d,e=>by
  simp only[wE,run];cases E:lt r (p.getD n 0) (p.getD (n-1) 0) with
  |true =>
   have L:ky r p n<ky r p (n-1):=Bd E;simp only[Dr];have N:Dn r p (n+1):=λi j a b=>by
    by_cases C:j=n
    .subst C;by_cases B:i=j
     .subst B;exact Lh _
     .exact Tj (Tk L) (d i (j-1) ak ak)
    .exact d i j a ak
   have G:∀ p:Bs Aj,yw (r:=r) p (n+1) 0:=λp=>iL p n;by_cases T:q>0;rw[Au T];have O:=ZJ (r:=r) (p:=p) (n:=n) (q:=q) ak e;obtain⟨J,U,A,I,Y,Q⟩:=gB f (Mi p (n-(q+1)) n) (n+1) 0 (by rw[vP];lia) ak (sV O N) (G _);exact⟨by rw[J,vP],U.trans (yC _ _ _),by lia,by lia,Y,Q⟩;rw[AT T];obtain⟨J,U,A,I,Y,Q⟩:=gB f p (n+1) 0 ak ak N (G _);exact⟨J,U,by lia,by lia,Y,Q⟩
  |false =>
   simp only[Bt,Dq,run];cases M:lt r (p.getD (n-1) 0) (p.getD n 0) with
   |true =>
    simp only[Dr,run];exact⟨by trivial,Mr _,Ay _,by lia,d,e⟩
   |false =>
    simp only[Bt,Dq];have H:ky r p n=ky r p (n-1):=wP (Ps.mp (Ef M)) (Ps.mp (Ef E));have N:Dn r p (n+1):=λi j a b=>by
     by_cases C:j=n
     .subst C;by_cases B:i=j
      .subst B;exact Lh _
      .rw[H];exact d i (j-1) ak ak
     .exact d i j a ak
    have G:yw (r:=r) p (n+1) (q+1):=⟨by have:=e.1;lia,λk a b=>by
     by_cases O:k=n;subst O;rfl
     .rw[e.2 k ak ak];exact H.symm⟩
    obtain⟨J,U,A,I,Y,Q⟩:=gB f p (n+1) (q+1) ak ak N G;exact⟨J,U,by lia,by lia,Y,Q⟩
structure Got (r:Aj->Aq)(p:Bs Aj)(N:Aj)(o:Aj × Bs Aj):Prop where
 size:o.2.size=p.size
 perm:o.2.Perm p
 pos:1<=o.1
 le:o.1<=N
 up:Up r o.2 o.1
def cO {p:Bs Aj}{n N:Aj}(B:N<=p.size)(Q:1<=n)(O:n<=N)(d:Dn r p n):Got r p N (run (lt r) (kas_tail3 n N p)):=by
 unfold kas_tail3;rw[uM];obtain⟨G,U,Y,C⟩:=nK (r:=r) (Mi p 0 n) (N-n) n Q;refine⟨vP _ _ _,yC _ _ _,Ca Q G,Ca U ak,N5 λk a b=>?_⟩;show ky r (Mi p 0 n) (k-1)<=ky r (Mi p 0 n) k;by_cases J:n<=k;exact Y k J b;rw[d8 ak,d8 ak,Au ak,Au ak];exact d _ _ ak ak
def fQ {p:Bs Aj}{n N:Aj}(B:N<=p.size)(C:1<=n)(O:n+1<=N)(d:Dn r p (n+1)):Got r p N (run (lt r) (Xm n N p)):=by
 unfold Xm;rw[uM];obtain⟨J,Q,L,T,Y,G⟩:=gB (r:=r) (N-(n+1)) p (n+1) 0 ak ak d (iL p n);generalize run (lt r) (wE (N-(n+1)) p (n+1) 0)=o at *;split;have U:=ZJ (r:=r) (p:=o.1) (n:=o.2.1) (q:=o.2.2) ak G;have g:=cO (p:=Mi o.1 (o.2.1-(o.2.2+1)) o.2.1) (N:=N) (by rw[vP];lia) ak ak (sV U Y);exact⟨by rw[g.size,vP,J],(g.perm.trans (yC _ _ _)).trans Q,g.pos,g.le,g.up⟩;have g:=cO (p:=o.1) (N:=N) ak ak ak Y;exact⟨by rw[g.size,J],g.perm.trans Q,g.pos,g.le,g.up⟩
def _w {p:Bs Aj}{N:Aj}(B:N<=p.size)(H:1<=N):Got r p N (run (lt r) (Yj N p)):=by
 unfold Yj;rw[uM];obtain⟨w,M,A,I⟩:=nK (r:=r) p (N-1) 1 (Ay _);generalize run (lt r) (kas_asc p (N-1) 1)=n at *;have up:Up r p n:=N5 A;by_cases O:n=N;subst O;rw[Au aA];exact⟨Z,Mr _,H,Ay _,up⟩
 .rw[AT (by simpa using O)];have J:=I ak;by_cases Q:n>1
  .rw[Au Q];simp only[run];cases L:lt r (p.getD 0 0) (p.getD (n-1) 0) with
   |true=>simp only[Dr,run];exact⟨rfl,Mr _,by show 1<=n;lia,by show n<=N;lia,up⟩
   |false =>
    simp only[Bt,Dq];have U:ky r p (n-1)<=ky r p 0:=Ps.mp (Ef L);have all:∀ k,k<n->ky r p k=ky r p 0:=λk C=>wP (Tj (up k (n-1) ak ak) U) (up 0 k ak C);have Y:∀ k,ky r (Mi p 0 n) k=ky r p k:=λk=>by
     rw[d8 ak];split;rw[all k ak,all _ ak];rfl
    have g:=fQ (p:=Mi p 0 n) (n:=n) (N:=N) (by rw[vP];lia) ak ak (sV Y λi j a b=>by
     by_cases T:j=n
     .subst T;by_cases E:i=j
      .subst E;exact Lh _
      .rw[all i ak,<- all (j-1) ak];exact Tk J
     .rw[all i ak,all j ak];exact Lh _)
    exact⟨by rw[g.size,vP],g.perm.trans (yC _ _ _),g.pos,g.le,g.up⟩
  .rw[AT Q];have e:n=1:=by lia
   subst e;exact fQ B (Ay _) ak λi j a b=>by
    by_cases G:i=j;subst G;exact Lh _
    .have:i=0:=by lia
     have:j=1:=by lia
     subst i j;exact Tk J
theorem bX (p:Bs Aj)(k:Aj)(up:Up r p k):∀ (f l h:Aj),h-l<=f->l<=h->h<=k->(∀ i,i<l->ky r p i<=ky r p k)->(∀ i,h<=i->i<k->ky r p k<ky r p i) ->
  let m:=run (lt r) (Yk p k f l h);m<=k/\(∀ i,i<m->ky r p i<=ky r p k)/\(∀ i,m<=i->i<k->ky r p k<ky r p i)
 |0,l,h,N,O,Q,a,b=>by
  have:l=h:=by lia
  subst this;exact⟨Q,a,b⟩
 |f+1,l,h,N,O,Q,a,b=>by
  simp only[Yk];by_cases G:l>=h
  .rw[Au G];have:l=h:=by lia
   subst this;exact⟨Q,a,b⟩
  .rw[AT G];simp only[run];cases U:lt r (p.getD k 0) (p.getD ((l+h)/2) 0) with
   |true =>
    simp only[Dr];have J:ky r p k<ky r p ((l+h)/2):=Bd U;exact bX p k up f l ((l+h)/2) ak ak ak a λi x y=>Int.lt_of_lt_of_le J (up _ _ x y)
   |false =>
    simp only[Bt,Dq];have Y:ky r p ((l+h)/2)<=ky r p k:=Ps.mp (Ef U);exact bX p k up f ((l+h)/2+1) h ak ak Q (λi x=>Tj (up _ _ ak ak) Y) b
def c6 {p:Bs Aj}{k l:Aj}(J:k<p.size)(U:l<=k)(i:Aj):ky r (bubble p k (k-l)) i=if i=l then ky r p k else if l<i/\i<=k then ky r p (i-1) else ky r p i:=by
 have h:=getElem?_bubble (xs:=p) J (k-l) ak i;rw[show k-(k-l)=l by lia] at h;by_cases Y:i=l;rw[Au Y] at h ⊢;exact d7 h
 .rw[AT Y] at h ⊢;by_cases Q:l<i/\i<=k
  .rw[Au Q] at h ⊢;exact d7 h
  .rw[AT Q] at h ⊢;exact d7 h
theorem aZ:∀ (f:Aj) (p:Bs Aj) (k:Aj),k+f<=p.size->Up r p k->let o:=run (lt r) (kas_bin f p k);o.size=p.size/\o.Perm p/\Up r o (k+f)
 |0,p,k,_,up=>⟨rfl,Mr _,up⟩
 |f+1,p,k,I,up=>by
  simp only[kas_bin];rw[uM];obtain⟨N,C,O⟩:=bX p k up k 0 k ak ak (Ay _) (λi E=>by lia) λi a b=>by lia
  generalize run (lt r) (Yk p k k 0 k)=l at *;have Y:Up r (bubble p k (k-l)) (k+1):=λi j a b=>by
   rw[c6 ak N,c6 ak N];by_cases G:i=l
   .rw[Au G];by_cases Q:j=l
    .rw[Au Q];exact Lh _
    .rw[AT Q,Au ak];exact Tk (O (j-1) ak ak)
   .rw[AT G];by_cases J:l<i/\i<=k
    .rw[Au J,AT ak,Au ak];exact up _ _ ak ak
    .rw[AT J];by_cases Q:j=l
     .rw[Au Q];exact C i ak
     .rw[AT Q];by_cases U:l<j/\j<=k
      .rw[Au U];exact up _ _ ak ak
      .rw[AT U];exact up _ _ a ak
  obtain⟨B,L,T⟩:=aZ f (bubble p k (k-l)) (k+1) (by rw[bubble_size];lia) Y;exact⟨by rw[B,bubble_size],L.trans (bubble_perm _ _ _),by rw[show k+(f+1)=k+1+f by lia];exact T⟩
set_option tactic.hygienic true in
def KO {n:Aj}(U:1<=n):let o:=run (lt r) (Ph n);o.toList.Perm (Cp n)/\Up r o n:=by
 unfold Ph;simp only[uM];have O:(Ni (Cp n)).size=n:=by simp
 have g:=_w (r:=r) (p:=Ni (Cp n)) (N:=n) ak U;generalize run (lt r) (Yj n (Ni (Cp n)))=c at *;have Y:∀ {o:Bs Aj},o.Perm (Ni (Cp n))->o.toList.Perm (Cp n):=λh=>by simpa using Array.perm_iff_toList_perm.mp h
 split
 .rename_i Q;have C:max c.1 1=c.1:=by have:=g.pos;lia
  rw[C];obtain⟨B,G,J⟩:=aZ (n-c.1) c.2 c.1 (by rw[g.size,O];lia) g.up;refine⟨Y (G.trans g.perm),?_⟩;rw[show c.1+(n-c.1)=n by lia] at J;exact J
 .rename_i Q;have:c.1=n:=by have:=g.le;lia
  refine⟨Y g.perm,?_⟩;have u:=g.up;rw[this] at u;exact u
end
def mj (n:Aj){J : Type}(T:J->Prop):KasT J -> Prop
 |.ret a=>T a
 |.ask i j k=>i<n/\j<n/\∀ b,mj n T (k b)
def PB (n:Aj)(p:Bs Aj):Prop:=∀ k,p.getD k 0<n
def PB.perm {p q:Bs Aj}(h:PB n p)(e:q.Perm p):PB n q:=λk=>by
 by_cases Q:k<q.size
 .have Y:q.getD k 0=q[k]:=by simp[Jd,Q]
  rw[Y];have:q[k]∈p:=e.mem_iff.mp (Array.getElem_mem Q);obtain⟨j,U,J⟩:=Array.mem_iff_getElem.mp this;have:=h j;rw[show p.getD j 0=p[j] by simp[Jd,U]] at this;rw[<- J];exact this
 .have Y:q.getD k 0=0:=by simp[Jd,Q]
  rw[Y];exact Ql (EQ _) (h 0)
theorem mj.bind {J β:Type}{T:J->Prop}{U:β->Prop}{g:J->KasT β}: ∀ {t:KasT J},mj n T t->(∀ a,T a->mj n U (g a))->mj n U (t.bind g)
 |.ret a,h,Q=>Q a h
 |.ask i j k,⟨N,G,Y⟩,Q=>⟨N,G,λb=>mj.bind (Y b) Q⟩
theorem GG {n:Aj}{f:Aj->Aj->Ar}{Q:Aj->Aj->(Ar->Ai->Prop)->Ai->Prop}(Y:∀ i j (C:Ar->Ai->Prop),i<n->j<n->C (f i j) s->Q i j C s){J : Type}{T:J->Prop}{G:J->Ai->Prop}:∀ t:KasT J,mj n T t->G (run f t) s->t.kasWp Q G s
 |.ret _,_,h=>h
 |.ask i j k,⟨O,N,U⟩,h=>Y i j _ O N (GG Y (k (f i j)) (U _) h)
def y7 {J : Type}{T:J->Prop}{c:Prop}[Jj c]{a b:KasT J}(Y:mj n T a)(Q:mj n T b):mj n T (if c then a else b):=by
 split;exact Y;exact Q
section
variable {n:Aj}
theorem r9 (h:PB n p):∀ f m,mj n (λ_=>Jk) (kas_asc p f m)
 |0,m=>trivial
 |f+1,m=>⟨h _,h _,λb=>y7 trivial (r9 h f (m+1))⟩
theorem bM:∀ (f:Aj) {p:Bs Aj} (m q:Aj),PB n p->mj n (λo=>PB n o.1) (wE f p m q)
 |0,p,m,q,h=>h
 |f+1,p,m,q,h=>⟨h _,h _,λb=>y7 (y7 (bM f _ _ (h.perm (yC _ _ _))) (bM f _ _ h)) ⟨h _,h _,λd=>y7 h (bM f _ _ h)⟩⟩
def hW (h:PB n p)(m N:Aj):mj n (λo=>PB n o.2) (kas_tail3 m N p):=mj.bind (r9 (h.perm (yC _ _ _)) _ _) λ_ _=>h.perm (yC _ _ _)
def mC (h:PB n p)(m N:Aj):mj n (λo=>PB n o.2) (Xm m N p):=mj.bind (bM _ _ _ h) λo Q=>y7 (hW (Q.perm (yC _ _ _)) _ _) (hW Q _ _)
def UW (h:PB n p)(N:Aj):mj n (λo=>PB n o.2) (Yj N p):=mj.bind (r9 h _ _) λm _=>y7 h (y7 ⟨h _,h _,λb=>y7 h (mC (h.perm (yC _ _ _)) _ _)⟩ (mC h _ _))
theorem mD (h:PB n p)(k:Aj):∀ f l r,mj n (λ_=>Jk) (Yk p k f l r)
 |0,l,r=>trivial
 |f+1,l,r=>y7 (T:=λ_=>Jk) trivial ⟨h _,h _,λb=>y7 (mD h k f _ _) (mD h k f _ _)⟩
theorem ZT:∀ (f:Aj) {p:Bs Aj} (k:Aj),PB n p->mj n (λ_=>Jk) (kas_bin f p k)
 |0,p,k,h=>trivial
 |f+1,p,k,h=>mj.bind (mD h k k 0 k) λl _=>ZT f (k+1) (h.perm (bubble_perm _ _ _))
def iS (Y:0<n):mj n (λ_=>Jk) (Ph n):=by
 have h:PB n (Ni (Cp n)):=λk=>by
  by_cases Q:k<n;simp[Jd,Q];simp[Jd,Q,Y]
 exact mj.bind (UW h n) λo J=>y7 (ZT _ _ J) (show mj n (λ_=>Jk) (.ret o.2) from trivial)
end
structure yn (prog:Ba)(w:Bu)(h0:Bc)(vs:Y0)(f:Aj->Aj->Ar):Prop where
 ex:∃ κ,∀ (A:Bp),A.units+8<Fj->∀ (s:Ai),iw h0 s.heap->(∀ (Q:SortKind->Ai->Prop) (E:J7),Q κ s->Ap (As prog w) A (keyKind' vs.toArray) Q E s)/\∀ i j (C:Ar->Ai->Prop),i<vs.length->j<vs.length->C (f i j) s->kas_ask prog w A κ vs i j C s
theorem cG {n:Aj}{f g:Aj->Aj->Ar}(h:∀ i j,i<n->j<n->f i j=g i j){J : Type}{T:J->Prop}:∀ t:KasT J,mj n T t->run f t=run g t
 |.ret _,_=>rfl
 |.ask i j k,⟨Y,U,Q⟩=>by show run f (k (f i j))=run g (k (g i j));rw[h i j Y U];exact cG h _ (Q _)
section
variable {prog:Ba}{w:Bu}{A:Bp}{E:J7}{s:Ai}
theorem TB {K:Type}{is:K->Ac->Prop}{lt':K->K->Ar}{d:K}(O:Ord lt')(zc:∀ {k k':K} {v:Ac},is k v->is k' v->k=k'){a:Af}{vs:Y0}{ks:Ab K}{n:Aj}{h0:Bc}{P:PySem.Fin->Ai->Prop}(J:vs.length=ks.length)(zl:∀ i v,vs[i]? = Aa v->is (ks.getD i d) v)(l:s.heap.get? a=Aa (Eh "list" vs.toArray n))(hu:A.units+8<Fj)(hz:vs.length<=63)(c:2<=vs.length->yn prog w h0 vs (nM lt' ks d))(hS:iw h0 s.heap)(ha:h0.get? a=Zw)
  (h:∀ ps:Ab (K × Ac),ps.Perm (ks.zip vs)->Nf lt' (ps.map (·.1))->P (.done (.ret .none)) { s with heap:=sortedHeap s.heap a vs (ps.map (·.2)).toArray }) : Ap (As prog w) A (Ih.«list.sort» ⟨[.ref a],[]⟩) P E s:=by
 rw[list_sort_plain];have hb:a<s.heap.objs.size:=Bh l;have x:vs.toArray.size=vs.length:=by simp
 refine Ad (listItems_at l Z (Ad (listUpdate_at l Z ?_ (by rw[x,El];fin2) (EQ _))));obtain⟨f,q⟩:∃ f,(s.heap.update a (Ex λ_=>#[])).get? a=Aa (Eh "list" #[] f):=⟨_,Ms l (λ_=>#[])⟩;refine Ad (seqEpoch_at q rfl (Ad (wpAny_newTuple (Ad (Wl (Df ?_) (EQ _))) (by show vs.length<=_;rw[El];fin2))));have H:(((s.heap.update a (Ex λ_=>#[])).push (Eh "tuple" vs.toArray 0)).push (Eh "list" #[] 0)).get? a=Aa (Eh "list" #[] f):=
  Ak _ (Ak _ q)
 have S6:iw h0 (((s.heap.update a (Ex λ_=>#[])).push (Eh "tuple" vs.toArray 0)).push (Eh "list" #[] 0)):=λb o e =>
  Ak _ (Ak _ ((Cj _ _ (λz:a=b=>by rw[<- z,ha] at e;cases e)).trans (hS b o e)))
 show Ap (As prog w) A _ P E { s with heap:=((s.heap.update a (Ex λ_=>#[])).push (Eh "tuple" vs.toArray 0)).push (Eh "list" #[] 0) };dsimp only;have M:∀ (Y:SortSt) (ps:Ab (K × Ac)),(arrOf Y).map (·.2)=(ps.map (·.2)).toArray->failedOf Y=Zw->ps.Perm (ks.zip vs)->Nf lt' (ps.map (·.1))->Ap (As prog w) A (do
   let U:=(<- seqEpoch a) != f
   Builtin.List.listUpdate (.ref a) λ_=>(arrOf Y).map (·.2)
   if let Aa e:=failedOf Y then rule "list.sort.comparison-raised";throw e
   if U then rule "list.sort.modified";raiseError "ValueError" "list modified during sort"
   ret .none) P E { s with heap:=((s.heap.update a (Ex λ_=>#[])).push (Eh "tuple" vs.toArray 0)).push (Eh "list" #[] 0) }:=by
  intro Y ps h1 B g t;have hl:(ps.map (·.2)).length=vs.length:=by rw[Ao,g.length_eq,Uf,J,Xi]
  refine Ad (seqEpoch_at H Z ?_);rw[h1];refine Ad (listUpdate_at H Z ?_ (EQ _) (by show (ps.map (·.2)).toArray.size<=_;rw[Bk,hl,El];fin2));rw[B];simp only[bne_self_eq_false,Bt,Dq];exact An (h ps g t)
 by_cases B:vs.toArray.size<2
 .rw[Au B,Au B];refine Ad (An ?_);rw[StateT.run_pure];refine Ad (An ?_);refine M (SortSt.mk' general' (vs.toArray.zip vs.toArray) #[] 7 Zw) (ks.zip vs) ?_ Z (Aa6 _) ?_
  .show (vs.toArray.zip vs.toArray).map (·.2)=_;apply Zs.mp;simp[List.map_snd_zip,J]
  .rw[Sy om]
   match ks,J with
   |[],_=>exact Nt
   |[_],_=>exact Nk _ _
   |_::_::_,e=>simp at e B;fin2
 .rw[AT B,AT B];have y:2<=vs.length:=by fin2
  obtain⟨κ,C⟩:=c y;obtain⟨k1,k2⟩:=C A hu { s with heap:=((s.heap.update a (Ex λ_=>#[])).push (Eh "tuple" vs.toArray 0)).push (Eh "list" #[] 0) } S6;have km:∀ i,i<vs.length->ks.getD i d∈ks:=λi L=>by
   have:i<ks.length:=by fin2
   simp[Mg,this]
  have rc:run (nM lt' ks d) (Ph vs.length)=run (lt λi=>dQ lt' ks (ks.getD i d)) (Ph vs.length):=cG (λi j L _=>Q0 O (km i L)) _ (iS (n:=vs.length) om);obtain⟨N,T⟩:=KO (r:=λi=>dQ lt' ks (ks.getD i d)) (n:=vs.length) om;rw[<- rc] at N T;refine Ad (k1 _ _ ?_);refine Ad (Ga (kat_run (ks:=vs) (vs:=vs) (Q:=λY I=>(arrOf Y).map (·.2)=((run (nM lt' ks d) (Ph vs.length)).toList.map λi=>vs.getD i Ei).toArray/\failedOf Y=Zw/\I={ s with heap:=((s.heap.update a (Ex λ_=>#[])).push (Eh "tuple" vs.toArray 0)).push (Eh "list" #[] 0) })
   (G:=λp I=>p=run (nM lt' ks d) (Ph vs.length)/\I={ s with heap:=((s.heap.update a (Ex λ_=>#[])).push (Eh "tuple" vs.toArray 0)).push (Eh "list" #[] 0) }) Z y om (λp Y I a1 a2 a3 a4=>⟨?_,a3,a4.2⟩) (GG k2 _ (iS om) ⟨Z,Z⟩)) ?_ λ_ _ e=>e)
  .rw[kat_snds Z a2,a4.1]
  .rintro⟨⟨⟩,Y⟩ I ⟨q1,q2,rfl⟩;generalize run (nM lt' ks d) (Ph vs.length)=p at N T q1;have bd:∀ i (L:i<p.toList.length),p.toList[i]<vs.length:=λi L=>Fe.mp (N.mem_iff.mp (Fx L));refine M _ (p.toList.map λi=>(ks.getD i d,vs.getD i Ei)) ?_ q2 ?_ ?_
   .rw[q1,Dl];rfl
   .refine(N.map _).trans (List.Perm.of_eq ?_);apply Sw
    .simp[J]
    .intro i h1 B;have g:i<vs.length:=by simpa using h1
     have t:i<ks.length:=by fin2
     simp[g,t]
   .rw[Dl];unfold Nf;rw[Ee];refine Ro.mpr λi j L hj m=>?_;have hp:=N.length_eq;rw[Fl] at hp;have u:=T i j (Hk m) om;have gd:∀ k (hk:k<p.toList.length),p.getD k 0=p.toList[k]:=λk hk=>by
     have:k<p.size:=by simpa using hk
     simp[Jd,this]
    unfold ky at u;rw[gd i L,gd j hj] at u;show lt' (ks.getD p.toList[j] d) (ks.getD p.toList[i] d)=Yp;rw[Q0 O (km _ (bd j hj))];exact Bo (Ps.mpr u)
end
section
variable {prog:Ba}{w:Bu}{h0:Bc}
def DV {Q:Ar->Ai->Prop}:∀ {xs ys:Ab Aq} {us vs:Y0} {i:Aj} {N M:Aj},ItemsAre (Ip prog w) xs us->ItemsAre (Ip prog w) ys vs->N+ys.length=M+xs.length->Q (_H.lexLt xs ys) s->KatLex prog w A b (decide (N<M)) Q (us.zip vs) i s:=by
 intro xs ys us vs i N M U
 induction U generalizing ys vs i with
 |nil =>
  intro J Y h;cases J with
  |nil =>
   have:decide (N<M)=false:=Bo (by simp at Y;lia);rw[this];exact h
  |@cons k v ys vs q r =>
   have:decide (N<M)=true:=Ci (by simp at Y;lia);rw[this];exact h
 |@cons x u xs us C L G =>
  intro J Y h;cases J with
  |nil =>
   have:decide (N<M)=false:=Bo (by simp at Y;lia);rw[this];exact h
  |@cons y v ys vs O B =>
   obtain⟨t,rfl⟩:=rA (prog:=prog) (w:=w) C;obtain⟨T,rfl⟩:=rA (prog:=prog) (w:=w) O;rw[Kj];refine kat_cons (Yu ?_);rw[_H.dz] at h;refine kat_go (λe=>kat_yes ?_) λe=>kat_no ?_;rw[Au (by simpa using e)] at h;exact G B (by simp at Y;lia) h
   .rw[AT (by simpa using e)] at h;cases b&&i == 0 with
    |true=>exact oneLt_int h
    |false=>exact kat_one _ _ (Vt h)
theorem WB:∀ {vs:Y0} {ks:Ab (Ab Aq)},vs.length=ks.length->(∀ i v,vs[i]? = Aa v->im prog w h (ks.getD i []) v)->(∀ k∈ks,k≠[])->∃ fs,KatTups h vs fs/\fs.length=vs.length/\∀ f∈fs,∃ n t,f=Uj n t
 |[],[],_,_,_=>⟨[],trivial,rfl,λf hf=>by simp at hf⟩
 |v::vs,k::ks,H,hv,J=>by
  obtain⟨fs,L,E,I⟩:=WB (vs:=vs) (ks:=ks) (by simpa using H) (λi u B=>by simpa using hv (i+1) u (by simpa using B)) λk U=>J k (by simp[U]);obtain⟨a,rfl,o,Q,n,O,N,T,C⟩:=hv 0 v rfl;have U:k≠[]:=J k aA;have Y:ItemsAre (Ip prog w) k Q.toList:=C;cases G:Q.toList with
  |nil=>rw[G] at Y;cases Y;exact absurd rfl U
  |cons f A =>
   rw[G] at Y;cases Y with
   |cons q _ =>
    obtain⟨t,rfl⟩:=rA (prog:=prog) (w:=w) q;refine⟨_::fs,KatTups.cons O N T (by rw[<- By,G];rfl) L,by simp[E],λf hf=>?_⟩;rcases Av.mp hf with rfl|hf
    .exact⟨_,_,Z⟩
    .exact I f hf
def HQ {vs:Y0}{ks:Ab (Ab Aq)}(c:vs.length=ks.length)(hv:∀ i v,vs[i]? = Aa v->im prog w h0 (ks.getD i []) v)(U:∀ k∈ks,k≠[])(f:2<=vs.length):yn prog w h0 vs (nM _H.lexLt ks []):=by
 refine⟨tuples' (Ht "int" != Ht "tuple"),λA x s G=>⟨λQ E h=>?_,λi j C H I h=>?_⟩⟩;obtain⟨r,z,a2,p⟩:=WB (h:=s.heap) c (λi v Y=>by obtain⟨a,e,q⟩:=hv i v Y;exact⟨a,e,j8 G q⟩) U;refine kat_kind z ak (λv Y=>?_) aC h;obtain⟨n,t,rfl⟩:=p v Y;exact Looks.of_pure rfl
 .have g:∀ k (J:k<vs.length),∃ a,vs.getD k Ei=.ref a/\Sx (Ip prog w) s.heap (ks.getD k []) a:=λk J=>by
   obtain⟨a,e,q⟩:=hv k vs[k] (Be J);exact⟨a,by rw[<- e];simp[Mg,J],j8 G q⟩
  obtain⟨a,u,oa,ia,na,T,_,L,O⟩:=g i H;obtain⟨b,M,d,ib,m,o,_,B,N⟩:=g j I;unfold kas_ask;rw[u,M];refine kat_lt T L o B (DV O N ?_ h);have y:=O.length;have l:=N.length;simp only[Dp] at y l;lia
end
section
variable {K:Type}
def GI {J : Type}{ks:Ab K}{vs:Ab J}(G:vs.length=ks.length){p:K × J}(h:p∈ks.zip vs):∃ i,vs[i]? = Aa p.2/\ks.getD i d=p.1:=by
 obtain⟨i,Y,e⟩:=Eb.mp h;have U:i<ks.length:=by rw[Uf] at Y;lia
 have Q:i<vs.length:=by lia
 rw[List.getElem_zip] at e;subst e;exact⟨i,Be Q,by simp[U]⟩
end
structure Kind (prog:Ba)(w:Bu){K:Type}(is:K->Ac->Prop)(hash:K->Aq)(lt':K->K->Ar)(d:K)(Fit:K->Prop)(h0:Bc):Prop where
 ord:Ord lt'
 inj:∀ {k k':K} {v:Ac},is k v->is k' v->k=k'
 cmps:∀ {vs:Y0} {ks:Ab K},vs.length=ks.length->(∀ i v,vs[i]? = Aa v->is (ks.getD i d) v)->(∀ k∈ks,Fit k)->2<=vs.length->yn prog w h0 vs (nM lt' ks d)
def T6 (prog:Ba)(w:Bu)(h0:Bc):Kind prog w (im prog w h0) (Th (Ip prog w)) _H.lexLt [] (·≠[]) h0:=⟨jF,im.inj,λJ U Q Y=>HQ J U Q Y⟩
section
variable {prog:Ba}{w:Bu}{A:Bp}{E:J7}{s:Ai}{K:Type}{is:K->Ac->Prop}{hash:K->Aq}{lt':K->K->Ar}{d:K}{ti:K->Prop}{h0:Bc}{S:Af}{V:Y0}{seen:Ab K}
open Classical in
def uv (is:K->Ac->Prop)(d:K)(e:Aq × Ac):K:=if h:∃ k,is k e.2 then choose h else d
open Classical in
def IE {e:Aq × Ac}(h:∃ k,is k e.2):is (uv is d e) e.2:=by unfold uv;rw[dif_pos h];exact choose_spec h
def VF {Q:J7}(kd:Kind prog w is hash lt' d ti h0)(hh:A.handled=Zw)(hu:A.units+16<Fj)(hS:iw h0 s.heap)(zo:mi is hash S (j0 w) V seen s.heap)(hf:∀ k∈seen,ti k){U:Ab K}(hU:U.length<=63)(zn:∀ k∈seen,k∈U)
  (h:∀ h' tk D c (ps:Ab (K × Ac)),(∀ b o,s.heap.get? b=Aa o->h'.get? b=Aa o)->s.heap.objs.size<=D->h'.get? D=Aa (Eh "list" (ps.map (·.2)).toArray c)->ps.map (·.1)=mn lt' seen->(∀ p∈ps,is p.1 p.2/\p.2∈V)->ps.length<=63->Q (.ref D) { s with heap:=h',toks:=tk }) :
  Ap (As prog w) A (call (.builtin "sorted") [.ref S]) Q E s:=by
 obtain⟨O,I,t,ho,Y,T,hl,hV⟩:=zo;have st:nk w S O I t:=⟨T,hl⟩;have hn:O.size<=63:=by
  have:=l8 O.toList U Y.nd λe N=>by obtain⟨k',_,q⟩:=Y.good e N;exact⟨k',zn k' ((Y.mem k').mpr ⟨e,N,q⟩),q⟩
  rw[Dp] at this;lia
 have H:=dI w S I O;have z3:=jQ w S I O;have u:∀ e∈(z0 w S I O).toList,is (uv is d e) e.2/\e.2∈V:=λe N=>by have j:=H.mem_iff.mp N;obtain⟨k,_,q⟩:=Y.good e j;exact⟨IE ⟨k,q⟩,hV e j⟩
 have n:(z0 w S I O).toList.Pairwise λa b=>∀ k,is k a.2->¬ is k b.2:=(H.pairwise_iff λ{x y} h k hy hx=>h k hx hy).mpr Y.nd;generalize zl:(z0 w S I O).toList=oe at *;have z2:oe.length<=63:=by rw[H.length_eq,Dp];exact hn
 have B:∀ i v,(oe.map (·.2))[i]? = Aa v->is ((oe.map (uv is d)).getD i d) v/\v∈V:=λi v hv=>by
  rw[Er] at hv;cases f:oe[i]? with
  |none=>rw[f] at hv;cases hv
  |some e =>
   rw[f] at hv;cases hv;have g:=u e (Cd f);have:(oe.map (uv is d)).getD i d=uv is d e:=by rw[List.getD_eq_getElem?_getD,Er,f];rfl
   rw[this];exact g
 have nd:(oe.map (uv is d)).Nodup:=by unfold List.Nodup;rw[Ee];refine Sd (λ{a b} ha L h e=>?_) n;exact h _ (u a ha).1 (e▸(u b L).1)
 have mem:∀ x,x∈oe.map (uv is d)↔x∈seen:=λx=>by
  rw[Y.mem,Cf];constructor;rintro⟨e,N,rfl⟩;exact⟨e,H.mem_iff.mp N,(u e N).1⟩;rintro⟨e,N,q⟩;exact⟨e,H.mem_iff.mpr N,kd.inj (u e (H.mem_iff.mpr N)).1 q⟩
 have G:(oe.map (·.2)).length=(oe.map (uv is d)).length:=by simp
 refine Rt kind_sorted plain_sorted entry_sorted (args_sorted1 _) ?_;unfold Ih.«sorted»;refine Ad (m:=checkCount "sorted" 1 1 _) (An ?_);refine Ad (QP hh st ho ak λJ M l C=>?_);rw[zl];refine Ad (Wl ?_ (by rw[El,Ao];lia));have hD:(J.push (Eh "list" (oe.map (·.2)).toArray 0)).get? J.objs.size=Aa (Eh "list" (oe.map (·.2)).toArray 0):=Bf _ Z;have n0:h0.get? J.objs.size=none:=by
  cases q:h0.get? J.objs.size with
  |none=>rfl
  |some o=>exact absurd (Bh (hS _ _ q)) (Me.mpr (Hk C))
 show Ap _ _ _ _ _ { s with heap:=J.push (Eh "list" (oe.map (·.2)).toArray 0),toks:=M };refine Ad (Df (Dw slot_list_sort ⟨_,hD,Z⟩ wS (TB (h0:=h0) (is:=is) kd.ord kd.inj (d:=d) (vs:=oe.map (·.2)) G (λi v hv=>(B i v hv).1) hD (by show A.units+2+8<Fj;lia) (by rw[Ao];lia) (λh2=>kd.cmps G (λi v hv=>(B i v hv).1) (λk hk=>hf k ((mem k).mp hk)) h2) (λb o e=>Ak _ (l b o (hS b o e))) n0 λps pm nf=>⟨_,Z,?_⟩) (args_list_sort _)));refine An ⟨_,Z,?_⟩;have hz:(J.push (Eh "list" (oe.map (·.2)).toArray 0)).objs.size=J.objs.size+1:=size_push' ..;have z1:∀ b o,b≠J.objs.size->(J.push (Eh "list" (oe.map (·.2)).toArray 0)).get? b=Aa o->((((J.push (Eh "list" (oe.map (·.2)).toArray 0)).update J.objs.size (Ex λ_=>#[])).push (Eh "tuple" (oe.map (·.2)).toArray 0)).push (Eh "list" #[] 0)).get? b=Aa o:=λb o L e =>
  Ak _ (Ak _ ((Cj _ _ (Dm L)).trans e))
 obtain⟨r,zc⟩:∃ r,((J.push (Eh "list" (oe.map (·.2)).toArray 0)).update J.objs.size (Ex λ_=>#[])).get? J.objs.size=Aa (Eh "list" #[] r):=⟨_,Ms hD (λ_=>#[])⟩
 have zs:=Ms (Ak (Eh "list" #[] 0) (Ak (Eh "tuple" (oe.map (·.2)).toArray 0) zc)) (λ_=>(ps.map (·.2)).toArray);have pk:(ps.map (·.1)).Perm (oe.map (uv is d)):=by have:=pm.map (·.1);rwa [Sy ak] at this
 refine h _ M J.objs.size _ ps (λb o e=>?_) (Hk C) zs (IW kd.ord nf (pk.nodup_iff.mpr nd) λx=>by rw[pk.mem_iff,mem]) (λp hp=>?_) (by have:=pk.length_eq;rw[Ao,Ao] at this;lia)
 .have L:b≠J.objs.size:=λz=>by
   subst z;exact absurd (Bh e) (Me.mpr (Hk C))
  exact(Cj _ _ (Dm L)).trans (z1 b o L (Ak _ (l b o e)))
 .obtain⟨i,r,e2⟩:=GI (d:=d) G (pm.mem_iff.mp hp);exact e2▸B i _ r
end
end _S
namespace _D
open _L
variable {aa:J0}{J:J9}{Y:_L.St}
noncomputable def wF:Ab D->Al (Ab (Ab Aq))
 |[]=>Aa []
 |.tup Q::r=>(uP Q).bind λk=>(wF r).map (k::·)
 |_::_=>Zw
def ml (k:Ab Aq):D:=.tup (k.map D.int)
theorem lE:∀ {ds:Ab D} {ks:Ab (Ab Aq)},wF ds=Aa ks->ds=ks.map ml
 |[],ks,h=>by cases h;rfl
 |d::r,ks,h=>by
  cases d with
  |tup N =>
   obtain⟨k,U,G⟩:=Eg.mp (show (uP N).bind (λk=>(wF r).map (k::·))=Aa ks from h);obtain⟨m,Q,rfl⟩:=Eo.mp G;rw[lE Q,l0 U];rfl
  |_=>cases h
def vW (ks:Ab (Ab Aq)):wF (ks.map ml)=Aa ks:=by
 induction ks with
 |nil=>rfl
 |cons k ks Q =>
  show (uP (k.map D.int)).bind (λk=>(wF (ks.map ml)).map (k::·))=_;rw[hZ,Q];rfl
def kR (xs:Ab D):Al (Ab D):=match wF xs with
 |some Q=>if ((_S.mn _H.lexLt Q).length<=63&&Q.all λk=>!k.isEmpty) then Aa ((_S.mn _H.lexLt Q).map ml) else Zw
 |none=>Zw
def FX:D->Al (Ab D)
 |.lst Q=>Aa Q
 |.tup Q=>Aa Q
 |_=>Zw
def M3 {K:Type}{lt':K->K->Ar}(O:_S.Ord lt')(ks:Ab K)(d:K):_S.mn lt' (_S.uO (λi=>ks.getD i d) ks.length)=_S.mn lt' ks:=
 _S.b7 O (_S.b0 O _) (_S.b0 O _) λx=>by
  rw[_S.vV O,_S.vV O,_S.gD];constructor;rintro⟨i,Q,rfl⟩;simp[Mg,Q];intro U;obtain⟨i,Q,e⟩:=Eb.mp U;exact⟨i,Q,by simp[Mg,Q,e]⟩
section
variable {X:Cx}{e:Bl}
def VY:Gi "sorted" = Aa (.builtin "sorted"):=by decide +kernel
theorem X2:∀ {k:Ab Aq} {us:Y0},qQ (k.map V.int) us->ItemsAre (Ip prog w) k us
 |[],us,h=>by cases h;exact .nil
 |i::k,us,h=>by
  cases h with
  |cons q t =>
   obtain⟨Q,rfl⟩:=q;exact .cons (intKind_is _ _ _ _) (X2 t)
def Q6 {H P:Hp}{S:ag}(I:Inv X aa Y H s)(r:bf X.K H P J S)(p:am X.K P J d v)(q:qT v U)(h:FX d=Aa xs) :
  ∃ a vs ah,U=.ref a/\qJ X.K P J xs vs/\qQ vs ah/\(s.heap.IsList a ah.toArray\/s.heap.IsTuple a ah.toArray)/\xs.length=ah.length:=by
 cases d with
 |lst N =>
  cases h;obtain⟨a,vs,ah,n,rfl,_,t,Q,e,l,_⟩:=uB I r p;exact⟨a,vs,ah,q,t,Q,.inl ⟨_,e,rfl,n,rfl⟩,l⟩
 |tup N =>
  cases h;obtain⟨a,vs,ah,rfl,_,t,Q,⟨o,e,G,n,O⟩,l,_⟩:=kX I r p;exact⟨a,vs,ah,q,t,Q,.inr ⟨o,e,G,n,O⟩,l⟩
 |_=>cases h
end
section
variable {X:Cx}
def lstM (d:D)(S:ag):Al (Ab D):=match d with
 |.lst Q=>Aa Q
 |.loc i=>match S[i]? with
  |some (.lst Q)=>Aa Q
  |_=>Zw
 |_=>Zw
def rJ {H P:Hp}{S:ag}(I:Inv X aa Y H s)(r:bf X.K H P J S)(h:lstM d S=Aa xs)(p:am X.K P J d v) :
  ∃ a vs ah n,v=.ref a/\qJ X.K P J xs vs/\qQ vs ah/\s.heap.get? a=Aa { cls:=.type "list",data:=.seq ah.toArray n } /\ xs.length=ah.length:=by
 cases d with
 |lst G =>
  cases h;obtain⟨a,vs,ah,n,e,_,t,Q,O,N,_⟩:=uB I r p;exact⟨a,vs,ah,n,e,t,Q,O,N⟩
 |loc i =>
  simp only[lstM] at h;cases U:S[i]? with
  |none=>rw[U] at h;cases h
  |some m =>
   rw[U] at h;cases m with
   |lst G =>
    cases h;simp only[am] at p;obtain⟨a,rfl,q⟩:=p;obtain⟨vs,z,t⟩:=r.at' i a _ q U;obtain⟨_,ah,n,Q,e⟩:=I.hok a _ z;exact⟨a,vs,ah,n,rfl,t,Q,e,by rw[t.length,Q.length]⟩
   |_=>cases h
 |_=>cases h
end
end _D
section
namespace _D
open _L
mutual
def xa:D->Al PyData
 |.non=>Aa .none
 |.bl b=>Aa (.bool b)
 |.int i=>Aa (.int i)
 |.str x=>Aa (.str x)
 |.tup Q=>(lA Q).map .tuple
 |.lst Q=>(lA Q).map .list
 |.dct0=>Aa (.dict [])
 |_=>Zw
def lA:Ab D->Al (Ab PyData)
 |[]=>Aa []
 |d::Q=>(xa d).bind λx=>(lA Q).map (x::·)
end
end _D
end
namespace _S
open PySem.W
section
variable {prog:Ba}{w:Bu}{A:Bp}{E:J7}{s:Ai}{K:Type}{is:K->Ac->Prop}{hash:K->Aq}{lt':K->K->Ar}{d:K}{ti:K->Prop}{h0:Bc}
def VE {Q:J7}(kd:Kind prog w is hash lt' d ti h0)(hu:A.units+16<Fj)(g:iw h0 s.heap){l:Af}{vs:Y0}(hl:s.heap.IsList l vs.toArray\/s.heap.IsTuple l vs.toArray)(ks:Ab K)(J:vs.length=ks.length)(G:∀ i v,vs[i]? = Aa v->is (ks.getD i d) v)(hf:∀ k∈ks,ti k)(C:vs.length<=63)
  (h:∀ (Y h':Bc) (tk:Aj) (D:Af) (c:Aj) (ps:Ab (K × Ac)),(∀ b o,s.heap.get? b=Aa o->Y.get? b=Aa o)->(∀ b o,Y.get? b=Aa o->h'.get? b=Aa o)->Y.objs.size<=D->h'.get? D=Aa (Eh "list" (ps.map (·.2)).toArray c)->ps.map (·.1)=mS lt' ks->(∀ p∈ps,is p.1 p.2/\p.2∈vs)->ps.length=ks.length->Q (.ref D) { s with heap:=h',toks:=tk }) :
  Ap (As prog w) A (call (.builtin "sorted") [.ref l]) Q E s:=by
 refine Rt kind_sorted plain_sorted entry_sorted (args_sorted1 _) ?_;unfold Ih.«sorted»;refine Ad (m:=checkCount "sorted" 1 1 _) (An ?_);have O:∀ {R:Ab Ac->Ai->Prop},(∀ Y:Bc,(∀ b o,s.heap.get? b=Aa o->Y.get? b=Aa o)->R vs { s with heap:=Y }) -> Ap (As prog w) A.in1 (collect (.ref l)) R E s:=λ{R} f=>by
  have e:vs.toArray.toList=vs:=by simp
  rcases hl with⟨o,H,M,n,j⟩|⟨o,H,M,n,j⟩
  .exact Yl l (.inl Z) H M j (λh' L=>by rw[e];exact f h' L) (by rw[Bk,El];lia)
  .exact Yl l (.inr Z) H M j (λh' L=>by rw[e];exact f h' L) (by rw[Bk,El];lia)
 refine Ad (O λY U=>?_);refine Ad (Wl ?_ (by rw[El];lia));have T:(Y.push (Eh "list" vs.toArray 0)).get? Y.objs.size=Aa (Eh "list" vs.toArray 0):=Bf _ Z;have x:h0.get? Y.objs.size=none:=by
  cases q:h0.get? Y.objs.size with
  |none=>rfl
  |some o=>exact absurd (Bh (U _ _ (g _ _ q))) (Fg _)
 show Ap _ _ _ _ _ { s with heap:=Y.push (Eh "list" vs.toArray 0),toks:=s.toks };refine Ad (Df (Dw slot_list_sort ⟨_,T,Z⟩ wS (TB (h0:=h0) (is:=is) kd.ord kd.inj (d:=d) (vs:=vs) J G T (by show A.units+2+8<Fj;lia) C (λa=>kd.cmps J G hf a) (λb o e=>Ak _ (U b o (g b o e))) x λps r nf=>⟨_,Z,?_⟩) (args_list_sort _)));refine An ⟨_,Z,?_⟩;have hz:(Y.push (Eh "list" vs.toArray 0)).objs.size=Y.objs.size+1:=size_push' ..;have u:∀ b o,b≠Y.objs.size->(Y.push (Eh "list" vs.toArray 0)).get? b=Aa o->((((Y.push (Eh "list" vs.toArray 0)).update Y.objs.size (Ex λ_=>#[])).push (Eh "tuple" vs.toArray 0)).push (Eh "list" #[] 0)).get? b=Aa o:=λb o B e =>
  Ak _ (Ak _ ((Cj _ _ (Dm B)).trans e))
 obtain⟨N,I⟩:∃ N,((Y.push (Eh "list" vs.toArray 0)).update Y.objs.size (Ex λ_=>#[])).get? Y.objs.size=Aa (Eh "list" #[] N):=⟨_,Ms T (λ_=>#[])⟩;have y:=Ms (Ak (Eh "list" #[] 0) (Ak (Eh "tuple" vs.toArray 0) I)) (λ_=>(ps.map (·.2)).toArray);have t:(ps.map (·.1)).Perm ks:=by have:=r.map (·.1);rwa [Sy ak] at this
 refine h Y _ s.toks Y.objs.size _ ps U (λb o e=>?_) (Ay _) y (XD kd.ord nf (W7 kd.ord ks) (t.trans (mT ks).symm)) (λp hp=>?_) (by have:=t.length_eq;rwa [Ao] at this)
 .have B:b≠Y.objs.size:=λz=>by
   subst z;exact absurd (Bh e) (Fg _)
  exact(Cj _ _ (Dm B)).trans (u b o B (Ak _ e))
 .obtain⟨i,N,e2⟩:=GI (d:=d) J (r.mem_iff.mp hp);exact⟨e2▸G i _ N,Cd N⟩
end
end _S
namespace _D
open _L
variable {ah:Y0}
def fD (xs:Ab D):Al (Ab D):=match wF xs with
 |some Q=>if (decide (Q.length<=63)&&Q.all λk=>!k.isEmpty) then Aa ((_S.mS _H.lexLt Q).map ml) else Zw
 |none=>Zw
def M1 (R:Ab D->ag->ax D):DF:=λY S=>match Y with
 |[d]=>match (FX d).bind fD with
  |some Q=>R Q S
  |none=>.bad
 |_=>.bad
def yH:DF:=M1 λQ S=>.ok (.lst Q) S
section
variable {X:Cx}{aa:J0}{Y: _L.St}{H P:Hp}{J: Ab Af}{S:ag}{s:Ai}
inductive sx (X:Cx)(pins:J0)(Y : _L.St)(H P:Hp)(J : Ab Af)(ys:Ab D)(u:Ac)(s':Ai):Prop
 |mk (D:Af) (vs:Ab V) (e:u=.ref D) (hn:H D=Zw) (I:Inv X pins Y (bz H D (.lst vs)) s') (rp:qJ X.K P J ys vs):sx X pins Y H P J ys u s'
theorem aY {K:Type}{is:K->Ac->Prop}{cq:K->D}(Q:∀ k v,is k v->v∈ah->∃ U,qT U v/\am X.K P J (cq k) U):∀ (ps:Ab (K × Ac)),(∀ p∈ps,is p.1 p.2/\p.2∈ah)->∃ vs,qQ vs (ps.map (·.2))/\qJ X.K P J ((ps.map (·.1)).map cq) vs
 |[],_=>⟨[],.nil,.nil⟩
 |p::ps,h=>by obtain⟨vs,O,B⟩:=aY Q ps λq G=>h q (by simp[G]);obtain⟨v,C,N⟩:=Q p.1 p.2 (h p aA).1 (h p aA).2;exact⟨v::vs,.cons C O,.cons N B⟩
def XC {K:Type}{is:K->Ac->Prop}{cq:K->D}{ks:Ab K}{ps:Ab (K × Ac)}{N:Bc}{G:Aj}{D c:Aj}(U:∀ k v,is k v->v∈ah->∃ I,qT I v/\am X.K P J (cq k) I)(A:Inv X aa Y H s)(C:∀ b o,s.heap.get? b=Aa o->N.get? b=Aa o)(T:s.heap.objs.size<=D)(B:N.get? D=Aa (Eh "list" (ps.map (·.2)).toArray c))(O:ps.map (·.1)=ks)(hp:∀ p∈ps,is p.1 p.2/\p.2∈ah)(w:ps.length<=63) :
  sx X aa Y H P J (ks.map cq) (.ref D) { s with heap:=N,toks:=G }:=by
 subst O;obtain⟨E,M,z⟩:=aY U ps hp;refine⟨D,E,rfl,A.hok.fresh T,Inv.laidL (L:=[(D,HO.lst E)]) (t':=G) A C (λp Q=>?_) λp Q=>?_,z⟩;rw[Bz.mp Q];exact T;rw[Bz.mp Q];refine⟨?_,ps.map (·.2),c,M,B⟩;have:=M.length;rw[Ao] at this;rw[this,El];lia
def KP {K:Type}{is:K->Ac->Prop}{hash:K->Aq}{lt':K->K->Ar}{d:K}{B:K->Prop}(kd:_S.Kind X.prog X.w is hash lt' d B s.heap)(o:X.A.units+64<Fj)(I:Inv X aa Y H s)(r:bf X.K H P J S){a:Af}{ah:Y0}
  (L:s.heap.IsList a ah.toArray\/s.heap.IsTuple a ah.toArray) (ks:Ab K) (A:ks.length=ah.length) (w:∀ i v,ah[i]? = Aa v->is (ks.getD i d) v) (p:ks.length<=63) (T:∀ k∈ks,B k) (cq:K->D)
  (Q:∀ k v,is k v->v∈ah->∃ C,qT C v/\am X.K P J (cq k) C) {E:J7} :
  a8 X (call (.builtin "sorted") [.ref a]) (sx X aa Y H P J ((_S.mS lt' ks).map cq)) E s:=by
 refine _S.VE kd li (λ_ _ e=>e) L ks A.symm w T li λu q M D c l O U z N G y j=>?_;exact XC (s:={ s with heap:=u,toks:=s.toks }) Q (I.kept O) U z N G y li
def WC (I:Inv X aa Y H s)(r:bf X.K H P J S){ks:Ab (Ab Aq)}{vs:Ab V}{ah:Y0}(A:qJ X.K P J (ks.map ml) vs)(B:qQ vs ah)(f:ks.length=ah.length) :
  (∀ i v,ah[i]? = Aa v->_S.im X.prog X.w s.heap (ks.getD i []) v)/\∀ k v,_S.im X.prog X.w s.heap k v->v∈ah->∃ Q,qT Q v/\am X.K P J (ml k) Q:=by
 have U:∀ (i:Aj) (u:Ac),ah[i]? = Aa u->∃ b,u=.ref b/\Sx (Ip X.prog X.w) s.heap (ks.getD i []) b/\∃ Q,qT Q u/\am X.K P J (ml (ks.getD i [])) Q:=λi u G=>by
  have y:i<ah.length:=(Bw.mp G).1;obtain⟨v,z,p⟩:=A.get (Be (show i<(ks.map ml).length by rw[Ao];lia));obtain⟨c,e,q⟩:=B.get z;cases e.symm.trans G;have N:(ks.map ml)[i]'(by rw[Ao];lia)=ml (ks.getD i []):=by simp[Mg,show i<ks.length by lia]
  rw[N] at p;obtain⟨b,d,E,rfl,sq,t,l,⟨o,L,C,m,N⟩,_,_⟩:=kX I r (show am X.K P J (.tup ((ks.getD i []).map D.int)) v from p);cases (show u=Cc b from q);have:=mE t;subst this;exact⟨b,rfl,⟨o,E.toArray,m,L,C,N,by simpa using X2 l⟩,.ref b,rfl,p⟩
 refine⟨λi u G=>?_,λk u M g=>?_⟩;obtain⟨b,rfl,q,_⟩:=U i u G;exact⟨b,Z,q⟩;obtain⟨i,T,rfl⟩:=Eb.mp g;obtain⟨b,j,q,w,O,pw⟩:=U i _ (Be T);rw[_S.im.inj M ⟨b,j,q⟩];exact⟨w,O,pw⟩
def dA {ks:Ab (Ab Aq)}(h:(ks.all λk=>!k.isEmpty)=Vp):∀ k∈ks,k≠[]:=λk Q z=>by have:=Bg.mp h k Q;subst z;cases this
set_option tactic.hygienic true in
def VD {E:J7}(B:X.A.units+64<Fj)(I:Inv X aa Y H s)(r:bf X.K H P J S){a:Af}{xs ys:Ab D}{vs:Ab V}{ah:Y0}(L:qJ X.K P J xs vs)(N:qQ vs ah)(e1:s.heap.IsList a ah.toArray\/s.heap.IsTuple a ah.toArray)(U:xs.length=ah.length)(hs:fD xs=Aa ys) :
  a8 X (call (.builtin "sorted") [.ref a]) (sx X aa Y H P J ys) E s:=by
 unfold fD at hs;cases G:wF xs with
 |none=>rw[G] at hs;cases hs
 |some T =>
  rw[G] at hs;dsimp only at hs;split at hs;rename_i Q;cases hs;rw[Ax,Bb] at Q;have:=lE G;subst this;rw[Ao] at U;obtain⟨C,O⟩:=WC I r L N U;exact KP (d:=[]) (_S.T6 X.prog X.w s.heap) B I r e1 T U C Q.1 (dA Q.2) ml O;cases hs
def qBw (L:X.A.units+64<Fj){vs:Ab V}{us:Y0}{ds:Ab D}{Q:VK}{R:Ab D->ag->ax D}(I:Inv X aa Y H s)(r:bf X.K H P J S)(z:qQ vs us)(C:qJ X.K P J ds vs)(U:qW X P J (M1 R ds S) Q)
  (k:∀ ys D G,H D=Zw->qJ X.K P J ys G->qW X P J (R ys S) Q->Q (.ref D) (bz H D (.lst G))):a8 X (call (.builtin "sorted") us) (EP X aa Y Q) X.xe s:=by
 match ds,U,C with
 |[],U,_=>exact Am U
 |_::_::_,U,_=>exact Am U
 |[d],U,C =>
  simp only[M1] at U;cases O:(FX d).bind fD with
  |none=>rw[O] at U;exact Am U
  |some ys =>
   rw[O] at U;obtain⟨l,M,y⟩:=Eg.mp O;obtain⟨v,u,rfl,rfl,p,q⟩:=wW C z;obtain⟨a,vs,ah,rfl,w,B,T,E⟩:=Q6 I r p q M;refine bi (VD L I r w B T E y) λg o ⟨D,G,e,A,j,N⟩=>?_;subst e;exact⟨.ref D,_,j,rfl,k ys D G A N U⟩
def U1 (O:X.A.units+64<Fj):wR X (.builtin "sorted") yH:=by intro aa Y H s P J S M w E Q I r T B C;exact qBw O I r T B C λA D N L U G=>wQ r L U G
end
section
variable {X:Cx}{cm:Ar}{k:Aj}
def qDC (Q:RoomC cm k X.A):gp X (.builtin "sorted") yH:=⟨U1 Q.units⟩
end
end _D
namespace _L
variable {lc:Y8}{mg mb:J8}
def qCB (H:Hp):Prop:=∀ b,H b=Zw\/(∃ o Q,H b=Aa (.frz o (.lst Q)))\/H b=Aa (.tbl #[])
def Y_ (K:Ag)(H:Hp):Prop:=∀ x∈uA,∀ c T,Do K x=Aa (c,T)->H T=Aa (.tbl #[])
structure zq (K:Ag)(h:Bc):Prop where
 at':∀ x∈uA,∀ c T,Do K x=Aa (c,T)->Aa4 h c T/\h.get? T=Aa (Qg #[]) /\ K.lookup T=Zw
 inj:∀ x∈uA,∀ y∈uA,∀ c d T,Do K x=Aa (c,T)->Do K y=Aa (d,T)->x=y
def BR {P:Ba}{w:Bu}{K:Ag}{CX:wu}{k:Aj}{fa a:Af}{fd:Ft}{x:Ah}{sp:Sp}{Q:Ai}{vs:Y0}{ns:Ab Aq}
  (KX:K.In Q.heap) (t:Q.heap.Ns Bi mg) (J:Q.heap.Ns Po mb) (zo:∀ x:Ah,x ≠ "__name__" -> mb x=Gi x) (f:Q.heap.NoLimit) (hg:Q.gens=#[]) (zn:EO mg Q.heap) (N:zq K Q.heap)
  (E:Q.heap.get? a=Aa { cls:=.type "list",data:=.seq vs.toArray }) (hi:Lm vs ns) (hl:ns.length<=sizeLine) (hr:oi k Rh)
  (F:∀ base:Bc,K.In base->base.Ns Bi mg->q_ P w K mg base CX k fa fd [x] sp) (A:∀ (s:Ai) (u:Ac),Oe s fd ⟨[u],[]⟩ [(x,u)])
  (zs:∀ H:Hp,Y_ K H->sw K H a (ns.map V.int)->sp [.ref a] H (λv _=>v=.bl Vp) λ_ _ _=>Fz)
  (zl:∀ H e s',CX [] H Q (λ_ _ _=>Fz) e s'->Fz) :
  Gs (As P w) Rh (.call (.ref fa) ⟨[.ref a],[]⟩) (λr s'=>r=.ok (.ret (.bool Vp))/\OldK Q.heap s'.heap/\s'.os=Q.os/\Oc s'.gens) Q:=by
 have rv:=GB hi;have z3:=hi.length;let im:Af->Prop:=λb=>∃ x∈uA,∃ c,Do K x=Aa (c,b);have tab:∀ b,im b->Q.heap.get? b=Aa (Qg #[]) /\ K.lookup b=none:=λb ⟨x,U,c,h⟩=>(N.at' x U c b h).2;have core:∀ H:Hp,qCB H->Y_ K H->sw K H a (ns.map V.int)->jp P w H Q.heap->(∀ b,H b≠Zw->b=a\/im b)->(H a≠Zw->K.lookup a=Zw) ->
   Gs (As P w) Rh (.call (.ref fa) ⟨[.ref a],[]⟩) (λr s'=>r=.ok (.ret (.bool Vp))/\OldK Q.heap s'.heap/\s'.os=Q.os/\Oc s'.gens) Q:=by
  intro H hO hT hS L hA hK;have Y:∀ {b:Af} {o:Ce},Q.heap.get? b=Aa o->H b=Zw->(bK Q.heap H).get? b=Aa o:=λe n=>BG e n;have l:∀ {b:Af} {o:Ce},Q.heap.get? b=Aa o->o.cls≠.none->(o.cls≠.type "list" \/ ∃ M j,o.data=.dict M j)->H b=none:=λ{b o} e c1 c2=>by
   cases q:H b with
   |none=>rfl
   |some u =>
    rcases hA b (by rw[q];simp) with e'|e'
    .subst e';rw[E] at e;cases e;rcases c2 with z|⟨M,j,d⟩
     .exact absurd Z z
     .cases d
    .rw[(tab b e').1] at e;cases e;exact absurd Z c1
  have rj:∀ {b:Af} {o:Ce} {M:Bs Ym} {j:Aj},Q.heap.get? b=Aa o->o.data=.dict M j->H b=none:=λ{b o M j} e d=>by
   cases q:H b with
   |none=>rfl
   |some u =>
    rcases hA b (by rw[q];simp) with e'|e'
    .subst e';rw[E] at e;cases e;cases d
    .rw[(tab b e').1] at e;cases e;cases d
  have G:∀ {b:Af} {m:J8},Q.heap.Ns b m->(bK Q.heap H).Ns b m:=λ{b m} ⟨o,M,j,e,d,r⟩=>⟨o,M,j,Y e (rj e d),d,r⟩;have zc:K.In (bK Q.heap H):=λb o e=>Y (KX b o e) (by
   cases q:H b with
   |none=>rfl
   |some u =>
    rcases hA b (by rw[q];simp) with e'|e'
    .subst e';rw[hK (by rw[q];simp)] at e;cases e
    .rw[(tab b e').2] at e;cases e)
  have hM:Mod K mg (bK Q.heap H):=by
   refine⟨zc,G t,⟨mb,G J,zo⟩,let ⟨mc,h1,h2⟩:=f;⟨mc,G h1,h2⟩,?_,λx U c T h=>?_,N.inj⟩;obtain⟨bm,o,b1,b2,b3,b4,b5⟩:=zn;exact⟨bm,o,b1,b2,Y b3 (l b3 (by rw[b4];nofun) (.inl (by rw[b4];decide))),b4,b5⟩;obtain⟨o,vs,p,tf,y,tg,z1,g,tt,C,I,r⟩:=(N.at' x U c T h).1;exact⟨o,vs,p,tf,y,tg,z1,g,tt,Y C (l C (by rw[I];nofun) (.inl (by rw[I];decide))),I,r⟩
  have e0:oo P w K mg (bK Q.heap H) Rh [] Q H:=⟨Z,hM,λb o e=>SY e,Nat.le_of_eq (US _ _),trivial,λb J=>absurd (show b∈([]:J9) from J) aA,L,.of_eq hg⟩
  refine Lq ((F _ zc (G t)).run Rh [] Q H ⟨[.ref a],[]⟩ [.ref a] [.ref a] _ _ hr e0 (A Q (.ref a)) (.cons rfl .nil) (zs H hT hS)) λr s' h=>?_;cases r with
  |error e=>exact(zl H e s' h).elim
  |ok fl =>
   cases fl with
   |next=>exact Am h
   |brk=>exact Am h
   |cont=>exact Am h
   |ret u =>
    obtain⟨v,H',os,i,un,B,r',q⟩:=h;have q':v=.bl true:=q;subst q';obtain rfl:u=Fa true:=r';refine⟨rfl,⟨λb o e=>?_,λb o e=>un.there b o e aA⟩,os,i⟩;cases q:H b with
    |none=>exact .inl (un.keep b o e q (by intro z;exact absurd (show b∈([]:J9) from z) aA) aA)
    |some u =>
     rcases hO b with z|⟨ob,xs,z⟩|z
     .rw[q] at z;cases z
     .have z2:=un.frzs b ob _ z;obtain⟨C,_⟩:=L b _ z;obtain⟨I,_⟩:=B b _ z2;rw[e] at C;cases C;exact .inl I
     .obtain⟨jf,z2⟩:=un.tbls b _ z;have C:Q.heap.get? b=Aa (Qg #[]):=L b _ z;have I:s'.heap.get? b=Aa (Qg (#[] ++ jf)):=B b _ z2;rw[e] at C;cases C;rcases hA b (by rw[q];simp) with e'|⟨x,U,c,h⟩
      .subst e';rw[E] at e;cases e
      .exact .inr (.inl ⟨((N.at' x U c b h).1.tab e).isCodeTable,Z,#[],jf,Z,I⟩)
 have nT:¬ im a:=λh=>by have z:=(tab a h).1;rw[E] at z;cases z
 have tT:∀ x∈uA,∀ c T,Do K x=Aa (c,T)->im T:=λx U c T h=>⟨x,U,c,h⟩;have z4:∀ b,Jj (im b):=λb=>Classical.propDecidable _;cases hk:K.lookup a with
 |some o =>
  have e:=KX a o hk;rw[E] at e;cases e;refine core (λb=>if im b then Aa (.tbl #[]) else Zw) (λb=>?_) (λx U c T h=>Au (tT x U c T h)) (.inr ⟨vs,_,hk,by rw[Ao];exact hl,rv⟩) (λb u z=>?_) (λb z=>?_) λz=>absurd (AT nT) z
  .by_cases h:im b
   .exact .inr (.inr (Au h))
   .exact .inl (AT h)
  .by_cases h:im b
   .have O:=(Au h).symm.trans z;cases O;exact(tab b h).1
   .have O:=(AT h).symm.trans z;cases O
  .by_cases h:im b
   .exact .inr h
   .exact absurd (AT h) z
 |none =>
  refine core (λb=>if b=a then Aa (.frz { cls:=.type "list",data:=.seq vs.toArray } (.lst (ns.map V.int))) else if im b then Aa (.tbl #[]) else Zw) (λb=>?_) (λx U c T h=>?_) (.inl (.inr ⟨{ cls:=.type "list",data:=.seq vs.toArray },Au Z⟩)) (λb u z=>?_) (λb z=>?_) λ_=>hk
  .by_cases J:b=a
   .exact .inr (.inl ⟨_,_,Au J⟩)
   .by_cases h:im b
    .exact .inr (.inr ((AT J).trans (Au h)))
    .exact .inl ((AT J).trans (AT h))
  .have h':=tT x U c T h;exact(AT (λ(z:T=a)=>nT (z▸h'))).trans (Au h')
  .by_cases J:b=a
   .have O:=(Au J).symm.trans z;cases O;subst J;exact⟨E,by rw[Ao];exact hl,vs,_,rv,E⟩
   .by_cases h:im b
    .have O:=((AT J).trans (Au h)).symm.trans z;cases O;exact(tab b h).1
    .have O:=((AT J).trans (AT h)).symm.trans z;cases O
  .by_cases J:b=a
   .exact .inl J
   .by_cases h:im b
    .exact .inr h
    .exact absurd ((AT J).trans (AT h)) z
def i9 (q:Ba)(K:Ag):Ar:=uA.all λx=>match Do K x with
 |none=>Vp
 |some (_,T)=>((recsOf q).find? λe=>e.name == x).isSome&&((K.lookup T).isNone&&uA.all λy=>match Do K y with
  |none=>Vp
  |some (_,U)=>x == y||!decide (T=U))
def EA {Y:ExcName->Al Ac}{K:Ag}(T:Top q lc Y mg mb h)(X:K.In h)(c:i9 q K=Vp):zq K h:=by
 unfold i9 at c;have g:∀ x∈uA,∀ d U,Do K x=Aa (d,U)->((recsOf q).find? λe=>e.name == x).isSome=Vp/\(K.lookup U).isNone=Vp/\(uA.all λy=>match Do K y with
  |none=>Vp
  |some (_,V)=>x == y||!decide (U=V))=true:=λx Q d U e=>by
  have z:=Bg.mp c x Q;rw[e] at z;simpa only [Ax] using z
 refine⟨λx Q d U e=>?_,λx Q y B d I U L N=>?_⟩;obtain⟨C,G,_⟩:=g x Q d U e;obtain⟨r,J⟩:=Mt.mp C;obtain⟨E,O⟩:=PySem.W.tab_of T X J e;exact⟨E,O,by simpa using G⟩;have z:=Bg.mp (g x Q d U L).2.2 y B;rw[N] at z;simpa using z
def EJ {l:wT}{n k:Aj}{q:Ba}{lc:Y8}{j:(Ah->Al Ac)->Bc->Prop}{I:Bu->Bc->Prop}{d:DefRec}{K:Params->Ag}{CX:Bu->wu}{sp:Bu->Sp}{x:Ah}
  (hn:l.most=Aa n) (T:n<=sizeLine) (C:d.params.defaults=[]) (hr:oi k Rh) (ht:∀ p,i9 q (K p)=Vp)
  (hY:∀ (w:Bu) (h:Bc),I w h->(K w.params).In h)
  (F:∀ (w:Bu) (mg:J8) (N:Af) (h:Bc),(K w.params).In h->h.Ns Bi mg->mg d.name=Aa (.ref N) ->
   ∃ fd:Ft,(∀ (s:Ai) (u:Ac),Oe s fd ⟨[u],[]⟩ [(x,u)]) /\
    ∀ base:Bc,(K w.params).In base->base.Ns Bi mg->q_ l.prog w (K w.params) mg base (CX w) k N fd [x] (sp w))
  (L:∀ (w:Bu) (H:Hp) (a:Af) (ns:Ab Aq),ns.length<=n->Y_ (K w.params) H->sw (K w.params) H a (ns.map V.int)->sp w [.ref a] H (λv _=>v=.bl Vp) λ_ _ _=>Fz)
  (O:∀ (w:Bu) (H:Hp) (s:Ai) (e:Ac) (s':Ai),CX w [] H s (λ_ _ _=>Fz) e s'->Fz) :
  AaH q lc j I l.row.toRowW d [] (λf vs=>Aa2 f vs):=by
 refine _A.pv hn C λw A U mg mb N o pm cd b a vs ns G i ho hd zc E J Y Q hg=>?_;have B:=hY w _ i;obtain⟨fd,hb,hF⟩:=F w mg N _ B G.T.g E;exact BR B G.T.g G.T.b G.T.builtins G.T.nolimit hg (let ⟨g,M,b1,y,b3,m,z,t⟩:=G.T.bmain;⟨g,M,b1,y,b3,m,z,t⟩) (EA G.T B (ht _)) J Y (Ca Q T) hr hF hb (λH r c=>L w H a ns Q r c) λH e s'=>O w H U e s'
end _L
namespace _D
open _L
variable {K:Ag}{mg:J8}
def qAW (X:K.In h)(G:h.Ns Bi mg){x:Ah}{st:Du}{ps:Y8}{f:Af}{L:Ac}{C O:Al Af}{U:Bs (Al Ac)}{kV Y J Q N:Ac}
  (a:Br K Bi x=Aa (Aa (.ref f)))
  (l:K.lookup f=Aa ⟨L,C,.func (Fp x x (xZ st) (zJ st) (qH st) .none kV Y J O Q N),U⟩) (c:Js K Q x=Vp) (k:Dd K (.ref f)=Vp)
  (B:∀ (kV Y J:Ac) (O:Al Af) (Q N:Ac) (us:Y0),us.length=ps.length->Tt (Fp x x (xZ st) (zJ st) (qH st) .none kV Y J O Q N) ⟨us,[]⟩=pure (ps.zip us)):wj K mg x st ps:=
 have F:=lP (st:=st) l c k
 ⟨f,_,Kz X G a,F,F.binds B⟩
noncomputable def nQ (K:Ag)(C:Af):Ar:=
 decide (De K (.ref C) "__getattribute__" = Aa (Aa (.builtin "BaseException.__getattribute__")))&&decide (De K (.ref C) "__getattr__" = Aa Zw)
 && decide (De K (.ref C) "__class__" = Aa (Aa (.builtin "object.__class__")))&&decide (Vq K C (.type "object")=Aa Vp)&&decide (Vq K C (.type "BaseException")=Aa Vp)
 && (Ru K C).isSome&&decide (Ll K (.ref C) (.type "ValueError")=Aa Vp)
noncomputable def sM (K:Ag):Ar:=
 decide (Xu K (.builtin "object.__class__") "__get__" = Aa (Aa (.builtin "getset_descriptor.__get__")))&&decide (Zz K (.builtin "object.__class__")=Aa Vp)
def HM (K:Ag)(Q:J9):Ar:=Q.all λC=>Q.all λB=>decide (Ll K (.ref C) (.ref B)=Aa (C == B))
def HP {Y:J9}(T:Y.all (nQ K)=Vp)(I:sM K=Vp)(U:HM K Y=Vp):ut K Y:=by
 have g:=I;unfold sM at g;simp only[Ax,Bb] at g;have J:∀ C∈Y,nQ K C=true:=Bg.mp T;refine⟨λC Q=>?_,λC Q B L=>?_,λC Q=>?_⟩;have e:=J C Q;unfold nQ at e;simp only[Ax,Bb] at e;obtain⟨⟨⟨⟨⟨⟨H,A⟩,G⟩,N⟩,E⟩,O⟩,M⟩:=e;exact⟨H,A,G,g.1,g.2,N,E,O⟩;have e:=Bg.mp (Bg.mp U C Q) B L;exact Bd e;have e:=J C Q;unfold nQ at e;simp only[Ax,Bb] at e;exact e.2
def qCL (K:Ag)(Q:Y0)(A:Af):Ar:=Q.all λv=>decide (Jt K v (.ref A)=Aa Vp)
def qCJ (K:Ag)(Q:J9)(A:Af):Ar:=Q.all λC=>nP K C A
def qCK (K:Ag)(Q:J9):Ar:=Q.all λC=>Dd K (.ref C)
def aM (K:Ag):Sp:=λJ H Q E=>Y_ K H/\∃ a Y,J=[.ref a]/\sw K H a (xL V.int Y)/\Y.length<=63/\∀ U,Q (.bl Vp) U
theorem Q2 {P:Hp}:∀ ns:Ab Aq,qJ K P J (ns.map D.int) (ns.map V.int)
 |[]=>.nil
 |n::ns=>.cons (by simp only[am]) (Q2 ns)
def xu (H:Hp):Hp:=λb=>match H b with
 |some (.tbl _)=>Zw
 |u=>u
def DQ {P:Ba}{w:Bu}{l:Af}{st:Du}{k:Aj}{x:Ah}(hs:wj K mg "law" st [x])(y:mg "law" = Aa (.ref l))
  (B:∀ (kV U A:Ac) (I:Al Af) (J j:Ac) (s:Ai) (v:Ac),Oe s (Fp "law" "law" (xZ st) (zJ st) (qH st) .none kV U A I J j) ⟨[v],[]⟩ [(x,v)])
  (N:∀ base:Bc,∃ F,aR P w K mg base Vp k "law" [x] F/\∀ ns:Ab Aq,ns.length<=63->∃ S,F [.lst (ns.map D.int)] [] = .ok (.bl Vp) S) :
  ∃ fd:Ft,(∀ (s:Ai) (v:Ac),Oe s fd ⟨[v],[]⟩ [(x,v)])/\∀ base:Bc,K.In base->base.Ns Bi mg->q_ P w K mg base (qe P w) k l fd [x] (aM K):=by
 obtain⟨f,fd,r,F,hb⟩:=hs;cases y.symm.trans r;refine⟨fd,?_,λbase _ _=>?_⟩;obtain⟨oc,od,kV,U,A,I,J,j,zc,rfl,_,_⟩:=F.ex;exact B kV U A I J j
 .obtain⟨G,⟨f',n,M,_,t,L,X⟩,i⟩:=N base;cases r.symm.trans M;cases L.one (bS F);refine(X.imp λvs H Q E h=>?_).ok;obtain⟨g,a,ns,rfl,m,L,k⟩:=h;obtain⟨S,e⟩:=i ns L;have Y:∀ (b:Af) (u:HO),H b=Aa u->(∀ O,u≠.tbl O)->xu H b=Aa u:=λb u q h=>by
   unfold xu;rw[q];cases u with
   |tbl O=>exact absurd rfl (h O)
   |_=>rfl
  have C:sw K (xu H) a (xL V.int ns):=by
   rcases m with (h|⟨o,h⟩)|h
   .exact .inl (.inl (Y _ _ h λ_ z=>by cases z))
   .exact .inl (.inr ⟨o,Y _ _ h λ_ z=>by cases z⟩)
   .exact .inr h
  have sub:qO (xu H) H:=λb u q=>by
   unfold xu at q;cases z:H b with
   |none=>rw[z] at q;cases q
   |some v =>
    rw[z] at q;cases v with
    |tbl O=>cases q
    |_=>exact q
  refine⟨rfl,xu H,[],[.lst (ns.map D.int)],[],⟨λx p c T h=>⟨#[],g x p c T h,by unfold xu;rw[g x p c T h],by simp,trivial,λai cv z=>by cases z⟩,sub,rfl,.nil,by simp,by simp,by simp⟩,.cons (rV C (Q2 ns)) .nil,?_⟩;rw[e];intro v H' P' J' _ _ _ d;simp only[am] at d;subst d;exact k H'
def qB3 {l:wT}{N:Y8}{G:(Ah->Al Ac)->Bc->Prop}{J:Bu->Bc->Prop}{d:DefRec}{K:Params->Ag}{x:Ah}(E:l.most=Aa 63)(Q:d.params.defaults=[])(U:oi k Rh)(I:∀ p,i9 q (K p)=Vp)
  (L:∀ (w:Bu) (h:Bc),J w h->(K w.params).In h)
  (F:∀ (w:Bu) (mg:J8) (Y:Af) (h:Bc),(K w.params).In h->h.Ns Bi mg->mg d.name=Aa (.ref Y) ->
   ∃ fd:Ft,(∀ (s:Ai) (u:Ac),Oe s fd ⟨[u],[]⟩ [(x,u)])/\∀ base:Bc,(K w.params).In base->base.Ns Bi mg->q_ l.prog w (K w.params) mg base (qe l.prog w) k Y fd [x] (aM (K w.params))) :
  AaH q N G J l.row.toRowW d [] (λf vs=>Aa2 f vs):=
 _L.EJ (n:=63) (k:=k) (x:=x) (CX:=λw=>qe l.prog w) (sp:=λw=>aM (K w.params)) E aC Q U I L F (λ_ _ a T B C O=>⟨C,a,T,Z,O,B,λ_=>rfl⟩) λw H s e A h=>by obtain⟨_,_,_,_,_,_,_,_,_,_,_,_,z⟩:=h;exact z
end _D
namespace _D
variable {us:Y0}
def us0 (h:us.length=0):us=[]:=Pe h
def yy {n:Aj}(h:us.length=n+1):∃ a vs,us=a::vs/\vs.length=n:=by
 cases us with
 |nil=>exact absurd h aA
 |cons a vs=>exact⟨a,vs,rfl,by simpa using h⟩
def O_ (h:us.length=1):∃ a,us=[a]:=by obtain⟨a,Y,rfl,Q⟩:=yy h;exact⟨a,by rw[us0 Q]⟩
def N_ (h:us.length=2):∃ a b,us=[a,b]:=by obtain⟨a,Y,rfl,Q⟩:=yy h;obtain⟨b,rfl⟩:=O_ Q;exact⟨a,b,rfl⟩
def _c (h:us.length=3):∃ a b c,us=[a,b,c]:=by obtain⟨a,Y,rfl,Q⟩:=yy h;obtain⟨b,c,rfl⟩:=N_ Q;exact⟨a,b,c,rfl⟩
def us4 (h:us.length=4):∃ a b c d,us=[a,b,c,d]:=by obtain⟨a,Y,rfl,Q⟩:=yy h;obtain⟨b,c,d,rfl⟩:=_c Q;exact⟨a,b,c,d,rfl⟩
def us5 (h:us.length=5):∃ a b c d e,us=[a,b,c,d,e]:=by obtain⟨a,Y,rfl,Q⟩:=yy h;obtain⟨b,c,d,e,rfl⟩:=us4 Q;exact⟨a,b,c,d,e,rfl⟩
end _D
namespace _D
open _L
variable {sc:Ey}
def N2 (F:DF):∃ G:DF,G=F:=⟨F,Z⟩
def sh (F:DF):DF:=Lx (N2 F)
def zE (F:DF):sh F=F:=Le (N2 F)
def _k:Al Hz->Ar
 |some .local => Vp
 |some .cell=>Vp
 |some .free=>Vp
 |_=>Yp
noncomputable def S_:Al Hz->Ar
 |some .local => Vp
 |some .cell=>Vp
 |_=>Yp
def isG:Al Hz->Ar
 |some .globalImplicit=>Vp
 |_=>Yp
noncomputable def za (x:Ah):Ar:=!(x == ("__debug__" : Ah))&&(!(x == ("__classdict__" : Ah))&&!decide (x = "__name__"))
def oz (X:Cx)(x:Ah):Ar:=isG (X.env.kindOf x)&&za x
def _i (v:Ac)(x:Ah):Ar:=decide (Gi x=Aa v)
def vN (sc:Ey):Ab Ah:=sc.names.filterMap λy=>if S_ (Aa y.2) then Aa y.1 else Zw
def vJ (sc:Ey):Ab Ah:=(sc.names.filterMap λy=>if S_ (Aa y.2)&&!(y.1 == (".0" : Ah)) then Aa y.1 else Zw)++sc.names.filterMap λy=>if y.2 == .free then Aa y.1 else Zw
def Ck (b:Ar):Prop:=b=Vp
def ck {b:Ar}(h:b=true:=by kernel_rfl):Ck b:=h
structure DfS (F:DF)(P:Ba)(w:Bu)(K:Ag)(mg:J8)(base:Bc)(cm:Ar)(k:Aj)(x:Ah)(n:Aj):Prop where
 get:vw P w K mg base cm k x n F
def y_ (X:Cx)(m:Aj)(x:Ah):Ar:=decide (X.N[m]? = Aa x)&&(S_ (X.env.scope.names.lookup x)&&(decide X.N.Nodup&&(X.fn x||decide (X.env.scope.names.lookup x=Aa .local))))
noncomputable def xb (X:Cx)(m:Aj)(x:Ah):Ar:=decide (X.N[m]? = Aa x)&&decide (X.env.scope.names.lookup x=Aa .local)
def cX (Q:Ey)(Y:Y8)(ae:Ey)(cr:Ab (Al Aj)):Ar:=
 decide (ae.kind=.function)&&(decide (∀ y∈ae.names,y.2=.local -> ae.names.lookup y.1=Aa .local)&&(decide (∀ y∈ae.names,y.2=.cell->ae.names.lookup y.1=Aa .cell)&&(decide (∀ y∈ae.names,y.2=.free->Q.names.lookup y.1=Aa .cell\/Q.names.lookup y.1=Aa .free)
 && (decide (∀ y∈ae.names,y.2=.free->ae.names.lookup y.1=Aa .free)&&(decide (cr.length=(vJ ae).length)&&(((cr.zip (vJ ae)).all λp=>match p.1 with|none=>Vp|some i=>Y[i]? == Aa p.2&&ae.names.lookup p.2 == Aa .free)&&decide (vJ ae).Nodup))))))
noncomputable def xi (N P:Y8)(sc:Ey):Ar:=
 decide (sc.kind=.function)&&(decide (sc.isCoroutine=Yp)&&(decide (sc.isGenerator=Yp)&&(decide N.Nodup&&(decide (N.take P.length=P)&&(decide (∀ x∈P,sc.names.lookup x=Aa .local \/ sc.names.lookup x=Aa .cell)&&decide (∀ y∈sc.names,y.2≠.free))))))
def iA (h:cX Q Y ae cr=Vp):gk Q Y ae (vJ ae) cr:=by simp only[cX,Ax,Bb] at h;obtain⟨a,b,c,d,e,f,g,k⟩:=h;exact⟨a,b,c,d,e,f,g,k⟩
def m5 {N P:Y8}(h:xi N P sc=Vp):c_ N P sc:=by simp only[xi,Ax,Bb] at h;obtain⟨a,b,c,d,e,f,g⟩:=h;exact⟨a,b,c,d,e,f,g⟩
section
variable {X:Cx}{a b c e:Bl}{aw:Ab Bl}{f g:DS}{fa:DE}{t:DT}{l q:Aj}{y z:Ah}{es:Ab Bl}{fA:DA}{x:Ah}{p ai:Ea}{cm:Ar}{k n m:Aj}{F:DF}
def ZZ (h:_k (sc.names.lookup x)=Vp):qi sc x:=by
 unfold qi;revert h;cases sc.names.lookup x with
 |none=>intro h;cases h
 |some y=>cases y <;> intro h <;> first|cases h;done|exact .inl rfl|exact .inr (.inl rfl)|exact .inr (.inr rfl)
def D7 (h:S_ (sc.names.lookup x)=Vp):_L.Loc sc x:=by
 unfold _L.Loc;revert h;cases sc.names.lookup x with
 |none=>intro h;cases h
 |some y=>cases y <;> intro h <;> first|cases h;done|exact .inl rfl|exact .inr rfl
def pU (h:za x=Vp):(x == ("__debug__" : Ah))=Yp/\(x == ("__classdict__" : Ah))=Yp/\x ≠ "__name__":=by unfold za at h;rw[Ax,Ax] at h;exact⟨by simpa using h.1,by simpa using h.2.1,by simpa using h.2.2⟩
def xH (h:oz X x=Vp):Gl X x/\(x == ("__debug__" : Ah))=Yp/\x ≠ "__name__":=by
 have h:=(Ax _ _).mp h;refine⟨?_,(pU h.2).1,(pU h.2).2.2⟩;have z:=h.1;unfold Gl;revert z;cases X.env.kindOf x with
 |none=>intro z;cases z
 |some y=>cases y <;> intro z <;> first|cases z;done|rfl
def oM (h:y_ X m x=Vp):X.N[m]? = Aa x/\_L.Loc X.env.scope x/\X.N.Nodup/\(X.fn x=Vp\/X.env.scope.names.lookup x=Aa .local):=by simp only[y_,Ax,Bb,Kt] at h;exact⟨h.1,D7 h.2.1,h.2.2⟩
def yF (h:xb X m x=Vp):X.N[m]? = Aa x/\X.env.scope.names.lookup x=Aa .local:=by simp only[xb,Ax,Bb] at h;exact h
def qEP (h:Ck (oz X x)):Gl X x:=(xH h).1
def aV (h:Ck (decide (X.N[m]? = Aa x)&&(_k (X.env.scope.names.lookup x)&&za x))):QE X (.Name x ai) (qB m):=by unfold Ck at h;simp only[Ax,Bb] at h;exact qAH m h.1 (ZZ h.2.1) (pU h.2.2).1 (pU h.2.2).2.1
def aBt (h:Ck (oz X x))(hm:X.mg x=Zw)(Q:Ck (_i (.type nm) x)):QE X (.Name x ai) (dC (.ty nm)):=
 have h:=xH h
 RL h.1 hm (Bd Q) h.2.2 h.2.1
def aCl (h:Ck (oz X x))(hm:X.mg x=Aa (.ref C)/\Dd X.K (.ref C)=Vp):QE X (.Name x ai) (dC (.obj C)):=
 have h:=xH h
 qAG h.1 hm.1 hm.2 h.2.1
def aGi (h:Ck (oz X x))(hm:∃ t,X.mg x=Aa (.int v t)):QE X (.Name x ai) (dC (.int v)):=
 have h:=xH h
 RM h.1 hm h.2.1
abbrev St1 (X:Cx)(e:Bl)(es:Ab Bl)(ai:Ea):Prop:=Bj (e::es) X.env=(Yp,eval e X.env)::Bj es X.env/\(Fh ai (Bj es X.env)).any (·.1)=Yp
def aN (G:DfS F X.prog X.w X.K X.mg X.base cm k x n)(Y:RoomC cm k X.A)(Q:Fn1 X)(h:Ck (oz X x))(J:QA X (e::es) fA)(s:St1 X e es ai):QE X (.Call (.Name x p) (e::es) [] ai) (qI n F fA):=
 have h:=xH h
 qcN G.1 Y Q h.1 J h.2.1 s.1 s.2
def aB {id:Ek}(Q:gp X (.builtin id) F)(h:Ck (oz X x))(hm:X.mg x=Zw)(J:Ck (_i (.builtin id) x))(Y:QA X (e::es) fA)(s:St1 X e es ai):QE X (.Call (.Name x p) (e::es) [] ai) (qG F fA):=
 have h:=xH h
 FI Q h.1 hm (Bd J) Y h.2.2 h.2.1 s.1 s.2
def aT (Q:gp X (.type T) F)(h:Ck (oz X x))(hm:X.mg x=Zw)(J:Ck (_i (.type T) x))(Y:QA X (e::es) fA)(s:St1 X e es ai):QE X (.Call (.Name x p) (e::es) [] ai) (qG F fA):=
 have h:=xH h
 KC Q h.1 hm (Bd J) Y h.2.2 h.2.1 s.1 s.2
def aNm (h:Ck (y_ X m x)):QG X (.Name x ai) (bc m):=
 have h:=oM h
 RN h.2.2.1 h.1 h.2.1 h.2.2.2
def aSt (hs:Md e (Aa (.Name x Q)) ai.line X.env=pure Yp)(Y:QE X e fa)(h:Ck (y_ X m x)):QS X (.Assign [.Name x Q] e ai) (qV fa (bc m)):=
 have h:=oM h
 qAJ h.2.2.1 Y h.1 h.2.1 hs h.2.2.2
def aP2 {Y J Q:Ea} {kt k2 pt2} (h:Ck (decide X.N.Nodup&&(xb X m x&&(xb X l y&&!decide (m=l))))) (G:X.calm=Vp) (U:QA X [a,b] fA)
  (hw:Ic [.Tuple [.Name x Y,.Name y J] kt Q] (.Tuple [a,b] k2 pt2) X.env=pure (Aa [x,y])) (hs:Ie [.Tuple [.Name x Y,.Name y J] kt Q] (.Tuple [a,b] k2 pt2) ai.line X.env=pure Yp) :
  QS X (.Assign [.Tuple [.Name x Y,.Name y J] kt Q] (.Tuple [a,b] k2 pt2) ai) (f7 m l fA):=by
 unfold Ck at h;simp only[Ax,Bb,Jn,Nl] at h;exact qAI G h.1 U (yF h.2.1).1 (yF h.2.2.1).1 h.2.2.2 (yF h.2.1).2 (yF h.2.2.1).2 hw hs
def aP3 {Y J U Q:Ea} {kt k2 pt2} (h:Ck (decide X.N.Nodup&&(xb X m x&&(xb X l y&&(xb X q z&&(!decide (m=l)&&(!decide (m=q)&&!decide (l=q)))))))) (E:X.calm=Vp) (L:QA X [a,b,c] fA)
  (hw:Ic [.Tuple [.Name x Y,.Name y J,.Name z U] kt Q] (.Tuple [a,b,c] k2 pt2) X.env=pure (Aa [x,y,z])) (hs:Ie [.Tuple [.Name x Y,.Name y J,.Name z U] kt Q] (.Tuple [a,b,c] k2 pt2) ai.line X.env=pure Yp) :
  QS X (.Assign [.Tuple [.Name x Y,.Name y J,.Name z U] kt Q] (.Tuple [a,b,c] k2 pt2) ai) (tU m l q fA):=by
 unfold Ck at h;simp only[Ax,Bb,Jn,Nl] at h;obtain⟨C,O,G,N,T,B,I⟩:=h;exact RO E C L (yF O).1 (yF G).1 (yF N).1 T B I (yF O).2 (yF G).2 (yF N).2 hw hs
def aRs {O Q:Ea}(h:Ck (oz X x))(N:X.calm=Vp)(G:Fn1 X)(hm:∃ Y,X.mg x=Aa (.ref C)/\nP X.K C Y=Vp)(J:QA X (e::aw) fA)(s:St1 X e aw Q) :
  QS X (.Raise (Aa (.Call (.Name x O) (e::aw) [] Q)) Zw ai) (xI (.ref C) fA):=
 have h:=xH h;let ⟨_,hm,U⟩:=hm
 FJ N G h.1 hm U J h.2.1 s.1 s.2
def aTr {Y:Du}{Q:Ab Du}{T J:Ea}{N:Y0}(h:Ck (oz X x&&(xb X m nm&&(decide X.N.Nodup&&decide (X.N.length=n)))))(B:Fn1 X)(hm:∃ U,X.mg x=Aa (.ref U)/\∀ c∈N,Jt X.K c (.ref U)=Aa Vp)(L:∀ E C,ZPass (Cx.tryIn X E C)->QB (Cx.tryIn X E C) O f)(hs:∀ e,QB (Cx.suite X e) (Y::Q) g) :
  QS X (.Try O [.ExceptHandler (Aa (.Name x T)) (Aa nm) (Y::Q) J] [] [] ai) (lB n m N f g):=by
 unfold Ck at h;simp only[Ax,Bb] at h;obtain⟨U,hm,G⟩:=hm;exact qAK B L hs (xH h.1).1 hm G h.2.2.1 (yF h.2.1).1 (yF h.2.1).2 (xH h.1).2.1 h.2.2.2
end
structure zm (K:Ag)(mg:J8)(tp:Aj->Du)(tab:Ab (Ah × Aj × Ab Ah))(bl:Y8)(qt tj:Ab (Ah × Af))(cs:Y0)(exl:J9)(ua:Ab (Ah × Aq)):Prop where
 src:∀ (j:Aj) {x:Ah} {i:Aj} {ps:Y8},tab[j]? = Aa (x,i,ps)->wj K mg x (tp i) ps
 nb:∀ {x:Ah},Ck (bl.contains x)->mg x=Zw
 cl:∀ {x:Ah} {C:Af},qt.lookup x=Aa C->mg x=Aa (.ref C)/\Dd K (.ref C)=Vp
 rz:∀ {x:Ah} {C:Af},tj.lookup x=Aa C->∃ Ae,mg x=Aa (.ref C)/\nP K C Ae=Vp
 ct:∃ C0,mg "FarError" = Aa (.ref C0)/\∀ c∈cs,Jt K c (.ref C0)=Aa Vp
 cls:ut K exl
 gi:∀ {x:Ah} {v:Aq},ua.lookup x=Aa v->∃ t,mg x=Aa (.int v t)
section
variable {K:Ag}{mg:J8}{cm:Ar}{tp:Aj->Du}{tab:Ab (Ah × Aj × Ab Ah)}{bl:Y8}{qt tj:Ab (Ah × Af)}{cs:Y0}{exl:J9}{ua:Ab (Ah × Aq)}{x:Ah}{i m:Aj}{ps:Y8}{F:DF}{g:DS}
def dq (P:Ba)(w:Bu)(base:Bc)(k j:Aj)(T:zm K mg tp tab bl qt tj cs exl ua)(Y:tab[j]? = Aa (x,i,ps))(h:Ck (xi (vN (qH (tp i))) ps (qH (tp i))&&decide ((vN (qH (tp i))).length=m)))(J:F=qM m g)
  (U:∀ (f:Af) (Q:Ac) (A:Bp) (G:Ab Hn) (s:Ai) (H:Hp) (E:XK),fU K x Q->RoomC cm k (A.deeper (Fw x (qH (tp i)) s.heap.objs.size f Q)) ->
   QB (jv cm P w K mg base (vN (qH (tp i))) x (qH (tp i)) f Q A G s H E) (zJ (tp i)) g):DfS F P w K mg base cm (k+1) x ps.length:=by
 unfold Ck at h;simp only[Ax,Bb] at h;obtain⟨h,rfl⟩:=h;exact⟨J▸qCM (T.src j Y) (m5 h) rfl U⟩
def dqP {P:Ba}{w:Bu}{base:Bc}(k j:Aj)(T:zm K mg tp tab bl qt tj cs exl ua)(Y:tab[j]? = Aa (x,i,ps))(h:Ck (xi (vN (qH (tp i))) ps (qH (tp i))&&decide ((vN (qH (tp i))).length=m)))
  (J:∀ (f:Af) (Q:Ac) (A:Bp) (U:Ab Hn) (s:Ai) (H:Hp) (E:XK),fU K x Q->RoomC cm k (A.deeper (Fw x (qH (tp i)) s.heap.objs.size f Q)) ->
   QB (jv cm P w K mg base (vN (qH (tp i))) x (qH (tp i)) f Q A U s H E) (zJ (tp i)) g):aR P w K mg base cm (k+1) x ps (qM m g):=by
 unfold Ck at h;simp only[Ax,Bb] at h;obtain⟨h,rfl⟩:=h;exact qAy (T.src j Y) (m5 h) rfl J
end
section
variable {K:Ag}{mg:J8}{tp:Aj->Du}{tab:Ab (Ah × Aj × Ab Ah)}{bl:Y8}{qt tj:Ab (Ah × Af)}{cs:Y0}{exl:J9}{ua:Ab (Ah × Aq)}
def V_ (P:Ba)(w:Bu)(base:Bc)(T:zm K mg tp tab bl qt tj cs exl ua)(k j:Aj){x:Ah}{i m:Aj}{ps:Y8}{F:DF}{g:DS}{b:Prop}(Y:tab[j]? = Aa (x,i,ps))(h:Ck (xi (vN (qH (tp i))) ps (qH (tp i))&&decide ((vN (qH (tp i))).length=m)))(J:F=qM m g)(q:DfS F P w K mg base Vp (k+1) x ps.length->b)
  (U:∀ (f:Af) (Q:Ac) (A:Bp) (G:Ab Hn) (s:Ai) (H:Hp) (E:XK),fU K x Q->RoomC Vp k (A.deeper (Fw x (qH (tp i)) s.heap.objs.size f Q)) ->
   QB (jv Vp P w K mg base (vN (qH (tp i))) x (qH (tp i)) f Q A G s H E) (zJ (tp i)) g):b:=q (dq P w base k j T Y h J U)
end
def hv {a b:Prop}(f:a->b)(h:a):b:=f h
inductive yc (K:Ag)(x:Ah)(st:Du)(ps:Y8):Prop
 |mk {f:Af} {oc:Ac} {od an:Al Af} {osl:Bs (Al Ac)} {kV doc pm cdv ct:Ac} (a:Br K Bi x=Aa (Aa (.ref f)))
  (l:K.lookup f=Aa ⟨oc,od,.func (Fp x x (xZ st) (zJ st) (qH st) .none kV doc pm an cdv ct),osl⟩) (c:Js K cdv x=Vp) (k:Dd K (.ref f)=Vp):yc K x st ps
def WO (K:Ag)(tp:Aj->Du):Ab (Ah × Aj × Ab Ah)->Prop
 |[]=>Jk
 |(x,i,Q)::t=>yc K x (tp i) Q/\WO K tp t
def _a (tp:Aj->Du):Ab (Ah × Aj × Ab Ah)->Prop
 |[]=>Jk
 |(x,i,U)::t=>(∀ (kV Q G:Ac) (O:Al Af) (Y N:Ac) (J:Y0),J.length=U.length->Tt (Fp x x (xZ (tp i)) (zJ (tp i)) (qH (tp i)) .none kV Q G O Y N) ⟨J,[]⟩=pure (U.zip J))/\_a tp t
def WK (K:Ag):Ab (Ah × Af)->Prop
 |[]=>Jk
 |(x,C)::t=>Br K Bi x=Aa (Aa (.ref C))/\WK K t
def WL (K:Ag):Ab (Ah × Aq)->Prop
 |[]=>Jk
 |(x,v)::t=>(∃ k,Br K Bi x=Aa (Aa (.int v k)))/\WL K t
def qCS:Al (Al Ac)->Ar
 |some Zw=>Vp
 |_=>Yp
section
variable {K:Ag}{h:Bc}{mg:J8}{tp:Aj->Du}
theorem W5 (X:K.In h)(G:h.Ns Bi mg):∀ (tab:Ab (Ah × Aj × Ab Ah)),WO K tp tab->_a tp tab->∀ (j:Aj) {x:Ah} {i:Aj} {ps:Y8},tab[j]? = Aa (x,i,ps)->wj K mg x (tp i) ps
 |[],_,_,_,_,_,_,e=>by cases e
 |(x,i,ps)::t,H,B,0,_,_,_,e=>by
  cases e;obtain⟨a,l,c,k⟩:=H.1;exact qAW X G a l c k B.1
 |(x,i,ps)::t,H,B,j+1,_,_,_,e=>W5 X G t H.2 B.2 j e
theorem yR {β:Type}{p:Ah->β->Prop}{C:β}:∀ {l:Ab (Ah × β)},(∀ y∈l,p y.1 y.2)->l.lookup x=Aa C->p x C
 |[],_,e=>by cases e
 |(y,b)::t,H,e=>by
  rw[En] at e;cases q:x == y with
  |true =>
   rw[q] at e;cases e;rw[eq_of_beq q];exact H (y,_) (.head _)
  |false =>
   rw[q] at e;exact yR (λz Q=>H z (.tail _ Q)) e
theorem tE (X:K.In h)(G:h.Ns Bi mg):∀ {l:Ab (Ah × Af)},WK K l->∀ y∈l,mg y.1=Aa (.ref y.2)
 |(x,C)::t,H,y,hy=>by
  rcases Av.mp hy with rfl|hy
  .exact Kz X G H.1
  .exact tE X G H.2 y hy
theorem ZG (X:K.In h)(G:h.Ns Bi mg):∀ {l:Ab (Ah × Aq)},WL K l->∀ y∈l,∃ k,mg y.1=Aa (.int y.2 k)
 |(x,C)::t,H,y,hy=>by
  rcases Av.mp hy with rfl|hy
  .obtain⟨k,e⟩:=H.1;exact⟨k,Kz X G e⟩
  .exact ZG X G H.2 y hy
def qB0 {tab:Ab (Ah × Aj × Ab Ah)}{bl:Y8}{qt tj:Ab (Ah × Af)}{J:Y0}{exl:J9}{ua:Ab (Ah × Aq)}(B:_a tp tab)(hp:∀ y∈tj,y∈qt)(U:qt.lookup ("FarError" : Ah)=Aa Q)(X:K.In h)(G:h.Ns Bi mg)
  (s:WO K tp tab) (z:(bl.all λx=>qCS (Br K Bi x))=Vp) (q:WK K qt) (g:WL K ua) (e1:exl.all (nQ K)=Vp) (e2:sM K=Vp) (e3:HM K exl=Vp) (e4:qCL K J Q=Vp) (e5:qCJ K (tj.map (·.2)) Q=Vp) (e6:qCK K (qt.map (·.2))=Vp):zm K mg tp tab bl qt tj J exl ua where
 src:=W5 X G tab s B
 nb:=λ{x} N=>by
  have e:=Bg.mp z x (by simpa using Ev.mp N);refine PySem.W.mg_none_of X G ?_;revert e;cases Br K Bi x with
  |none=>intro e;cases e
  |some y=>cases y with
   |none=>intro _;rfl
   |some y=>intro e;cases e
 cl:=λh=>⟨yR (p:=λx C=>mg x=Aa (.ref C)) (tE X G q) h,yR (p:=λ_ C=>Dd K (.ref C)=Vp) (λy Y=>Bg.mp e6 y.2 (Hi Y)) h⟩
 rz:=λh=>⟨Q,yR (p:=λx C=>mg x=Aa (.ref C)) (λy Y=>tE X G q y (hp y Y)) h,yR (p:=λ_ C=>nP K C Q=Vp) (λy Y=>Bg.mp e5 y.2 (Hi Y)) h⟩
 ct:=⟨Q,yR (p:=λx C=>mg x=Aa (.ref C)) (tE X G q) U,λv hv=>Bd (Bg.mp e4 v hv)⟩
 cls:=HP e1 e2 e3
 gi:=λh=>yR (p:=λx v=>∃ k,mg x=Aa (.int v k)) (ZG X G g) h
end
section
variable {X:Cx}{aa:J0}{Y: _L.St}{H:Hp}{s:Ai}
def Inv.pinned {a:Af}{h':Bc}{U:Aj}(I:Inv X aa Y H' { s with heap:=h'.push o,toks:=U })(C:a=h'.objs.size)(hs:s.heap.objs.size<=h'.objs.size)(G:Inv X aa Y H s)(N:H' a=Zw)(O:∀ v,o.data≠.cell v)(Q:o.isFreed=false:=by rfl):Inv X ((a,o)::aa) Y H' { s with heap:=h'.push o,toks:=U }:=by
 refine I.pins_of λp hp=>?_;rcases Av.mp hp with rfl|hp
 .subst C;exact⟨Bf _ Q,N,Hl (Bq G.lt hs),G.nofs hs,O⟩
 .exact I.pin p (Cb _ hp)
end
abbrev G_:=Ab (Af × Aj × DF)
def ZFn (X:Cx)(cm:Ar)(k:Aj)(Q:G_):Prop:=∀ q∈Q,∃ x,X.mg x=Aa (.ref q.1)/\vw X.prog X.w X.K X.mg X.base cm k x q.2.1 q.2.2
def u7 (i:Aj)(J:G_)(G:DA):DE:=λQ S=>match Q[i]? with
 |some (Aa (.obj a))=>match J.lookup a with
  |some (n,F)=>(G Q S).bind λY U=>if Y.length=n then F Y U else .bad
  |none=>.bad
 |_=>.bad
section
variable {X:Cx}{cm:Ar}{k i:Aj}{x:Ah}{p ai:Ea}{e:Bl}{es:Ab Bl}{fa:DA}{Fs:G_}
theorem JD {β:Type}{b:β}:∀ {l:Ab (Af × β)},l.lookup a=Aa b->(a,b)∈l
 |[],h=>by cases h
 |(c,d)::r,h=>by
  rw[En] at h;cases q:a == c with
  |true=>rw[q] at h;cases h;rw[eq_of_beq q];exact .head _
  |false=>rw[q] at h;exact .tail _ (JD h)
set_option tactic.hygienic true in
def LZ {S:ag}{P:Hp}{Ok:D->ag->Prop}(h:qL X P J (u7 i Fs fa ac S) Ok):∃ a n F,ac[i]? = Aa (Aa (.obj a))/\(a,n,F)∈Fs/\qL X P J ((fa ac S).bind λds S1=>if ds.length=n then F ds S1 else .bad) Ok:=by
 unfold u7 at h;split at h
 .rename_i a e;split at h
  .rename_i n F q;exact⟨a,n,F,e,JD q,h⟩
  .exact Am h
 .exact Am h
def CF (T:ZFn X cm k Fs)(q:RoomC cm k X.A)(hF:Fn1 X)(o:X.N[i]? = Aa x)(hv:qi X.env.scope x)(hd:(x == ("__debug__" : Ah))=Yp)(A:(x == ("__classdict__" : Ah))=Yp)(g:PA X (e::es) (kz X fa))
  (he:Bj (e::es) X.env=(Yp,eval e X.env)::Bj es X.env:=by rfl) (L:(Fh ai (Bj es X.env)).any (·.1)=false:=by rfl):PE X (.Call (.Name x p) (e::es) [] ai) (tD X (u7 i Fs fa)):=by
 intro aa s Y H Q I h;obtain⟨P,J,ac,S,r,w,C⟩:=h;obtain⟨a,n,F,m,hm,C⟩:=LZ C;obtain⟨y,hy,f,fd,ps,hn,O,hk,hb,M,G⟩:=T _ hm;cases hy.symm.trans O;obtain⟨v,e2,U⟩:=w.2 i _ m;simp only[am] at U;obtain⟨rfl,kp⟩:=U;refine Hr (bi (dJ o hv hd A aa s Y H (λv H'=>v=.ref a/\H'=H) I ⟨_,e2,rfl,rfl⟩) λu s1 ⟨v,H1,b,E,z1,l⟩=>?_);subst z1;subst l;cases (show u=Cc a from E);refine My (h₀:=X.base) I.ok.mod.kin kp (bi (yE g b r w C ai) λus s2 ⟨vs,H2,P2,J2,ds,S2,z,E,c,j,U,d,t,N⟩=>⟨z.kIn,?_⟩) he L;obtain⟨M,B⟩:=xD N;exact pW G q hb z c E U M (qW.base d t B)
end
def _g (X:Cx)(i:Aj)(x:Ah):Ar:=decide (X.N[i]? = Aa x)&&(_k (X.env.scope.names.lookup x)&&za x)
structure ZF (X:Cx)(cm:Ar)(k:Aj)(Fs:G_):Prop where
 get:ZFn X cm k Fs
section
variable {X:Cx}{cm:Ar}{k n i:Aj}{x:Ah}{p ai:Ea}{e:Bl}{es:Ab Bl}{fA:DA}{Fs:G_}
def OF (h:Ck (_g X i x)):X.N[i]? = Aa x/\qi X.env.scope x/\(x == ("__debug__" : Ah))=Yp/\(x == ("__classdict__" : Ah))=false:=by unfold Ck _g at h;simp only[Ax,Bb] at h;exact⟨h.1,ZZ h.2.1,(pU h.2.2).1,(pU h.2.2).2.1⟩
def aFv (Y:RoomC cm k X.A)(Q:ZF X cm k Fs)(F:Fn1 X)(h:Ck (_g X i x))(J:QA X (e::es) fA)(s:St1 X e es ai):QE X (.Call (.Name x p) (e::es) [] ai) (u7 i Fs fA):=
 have h:=OF h
 ⟨CF Q.1 Y F h.1 h.2.1 h.2.2.1 h.2.2.2 J.1 s.1 s.2⟩
def qE4:ZF X cm k []:=⟨λq h=>by cases h⟩
def aFn {F:DF}(D:DfS F X.prog X.w X.K X.mg X.base cm j x n)(Y:j<=k)(hm:X.mg x=Aa (.ref f)/\Dd X.K (.ref f)=Vp)(Q:ZF X cm k Fs):ZF X cm k ((f,n,F)::Fs):=⟨λq h=>by
 rcases Av.mp h with rfl|h
 .exact⟨x,hm.1,D.1.mono Y⟩
 .exact Q.1 q h⟩
end
def jL:G2:=λa b S=>match lstM a S,lstM b S with
 |some Q,Aa Y=>if Q.length+Y.length<=bb then .ok (.loc S.length) (S++[.lst (Q++Y)]) else .bad
 |_,_=>.bad
section
variable {X:Cx}
def BP {H P:Hp}{S:ag}{Q:VK}(I:Inv X aa Y H s)(r:bf X.K H P J S)(t:qJ X.K P J xs vs)(U:qQ vs ah)(hz:xs.length<=bb)
  (ok:gy X P J Q (.loc S.length) (S++[.lst xs])):EP X aa Y Q (.ref s.heap.objs.size) { s with heap:=s.heap.push { cls:=.type "list",data:=.seq ah.toArray } }:=by
 refine⟨.ref s.heap.objs.size,_,I.laid (t':=s.toks) (o:=.lst vs) (λb G q=>Ak _ q) (Ay _) ⟨by rw[<- t.length,<- zP];exact hz,ah,0,U,Bf _ Z⟩,Z,tL r (I.hok.fresh (Ay _)) t ok⟩
def SU:il X (Et .Add) jL:=by
 intro d Y H s P J S v u p m a b Q I r y q T k U;unfold jL at U;cases G:lstM a S with
 |none=>rw[G] at U;exact Am U
 |some f =>
  cases N:lstM b S with
  |none=>rw[G,N] at U;exact Am U
  |some c =>
   rw[G,N] at U;obtain⟨L,U⟩:=xD (X:=X) U;obtain⟨a,t,l,n,rfl,z,O,A,w⟩:=rJ I r G T;obtain⟨b,g,B,o,rfl,M,C,j,E⟩:=rJ I r N k;cases y;cases q;refine Zh A j ?_ (by rw[Bk,Bk,<- w,<- E,<- zP];exact L);rw[We];exact BP I r (z.append M) (O.append C) (by rw[Az];exact L) U
def qEG:ZOp X (Et .Add) jL:=⟨SU⟩
end
noncomputable def V9:D->ag->Al (Ab D)
 |.lst Q,_=>Aa Q
 |.tup Q,_=>Aa Q
 |.loc n,S=>match S[n]? with
  |some (.lst Q)=>Aa Q
  |_=>Zw
 |_,_=>Zw
def uX (J:Ar)(f:DE):DE:=λU S=>(f U S).bind λd Q=>match (V9 d Q).bind kR with
 |some Y=>if J then .ok (.loc Q.length) (Q++[.lst Y]) else .ok (.lst Y) Q
 |none=>.bad
section
variable {X:Cx}{aa:J0}{Y: _L.St}{H P:Hp}{J: Ab Af}{S:ag}{s:Ai}
def _o {K:Type}{is:K->Ac->Prop}{hash:K->Aq}{lt':K->K->Ar}{d:K}{o:K->Prop}(kd:_S.Kind X.prog X.w is hash lt' d o s.heap)(ad:_S.wx X.prog X.w is hash s.heap)(y:X.calm=Vp)(hu:X.A.units+64<Fj)(I:Inv X aa Y H s)(r:bf X.K H P J S){a:Af}{ah:Y0}
  (t:s.heap.IsList a ah.toArray\/s.heap.IsTuple a ah.toArray) (ks:Ab K) (x:ks.length=ah.length) (g:∀ i v,ah[i]? = Aa v->is (ks.getD i d) v) (hn:(_S.mn lt' ks).length<=63) (e:∀ k∈ks,o k) (cq:K->D)
  (C:∀ k v,is k v->v∈ah->∃ q,qT q v/\am X.K P J (cq k) q) {E:J7} :
  a8 X (call (.type "set") [.ref a]) (λu n=>a8 X (call (.builtin "sorted") [u]) (sx X aa Y H P J ((_S.mn lt' ks).map cq)) E n) E s:=by
 have N:ah.toArray.size=ks.length:=by rw[Bk,x]
 have mem:∀ k,k∈_S.mn lt' ks↔k∈ks:=λk=>_S.vV kd.ord k ks;have O:∀ i,i<ks.length->ks.getD i d∈ks:=λi B=>by simp[Mg,B]
 refine _S.WY (U:=_S.mn lt' ks) ad (I.ok.hd y) li t (λi=>ks.getD i d) (λi v hv=>g i v (by simpa using hv)) li (λi B=>(mem _).mpr (O i (by rw[<- N];exact B))) λw G M l=>?_;have seen:∀ k∈_S.uO (λi=>ks.getD i d) ah.toArray.size,k∈ks:=λk Q=>by obtain⟨i,B,rfl⟩:=_S.gD.mp Q;exact O i (by rw[<- N];exact B)
 have m:Inv X aa Y H { s with heap:=w,toks:=G }:=I.kept l;refine _S.VF (s:={ s with heap:=w,toks:=G }) kd (I.ok.hd y) li l M (λk Q=>e k (seen k Q)) (U:=_S.mn lt' ks) li (λk Q=>(mem k).mpr (seen k Q)) λh2 h D c ps T f j L b A=>?_;rw[N,M3 kd.ord] at L;exact XC (s:={ s with heap:=w,toks:=G }) C m T f j L (λp z=>by simpa using b p z) A
set_option tactic.hygienic true in
def RX (I:Inv X aa Y H s)(r:bf X.K H P J S)(p:am X.K P J d v)(q:qT v Q)(h:V9 d S=Aa xs) :
  ∃ a vs ah,Q=.ref a/\qJ X.K P J xs vs/\qQ vs ah/\(s.heap.IsList a ah.toArray\/s.heap.IsTuple a ah.toArray)/\xs.length=ah.length:=by
 cases d with
 |lst O=>exact Q6 I r p q h
 |tup O=>exact Q6 I r p q h
 |loc n =>
  have N:S[n]? = Aa (.lst xs):=by
   have h:(match S[n]? with|some (.lst xs)=>Aa xs|_=>Zw)=Aa xs:=h;split at h;rename_i e;cases h;exact e;cases h
  simp only[am] at p;obtain⟨a,rfl,G⟩:=p;cases (show Q=Cc a from q);obtain⟨vs,z,t⟩:=r.at' n a _ G N;obtain⟨ah,U,p,C⟩:=I.list (kr.of z);exact⟨a,vs,ah,rfl,t,U,.inl p.isList,by rw[t.length,U.length]⟩
 |_=>cases h
end
section
variable {X:Cx}{e:Bl}{fa:DE}{p1 p2 ug uf:Ea}{mu:Ar}
set_option tactic.hygienic true in
def QR (m:X.calm=Vp)(b:X.A.units+64<Fj)(hg:Gl X "sorted")(hm:X.mg "sorted" = Zw)(T:Gl X "set")(y:X.mg "set" = Zw)(n:PE X e (tD X fa))(g:Bj [e] X.env=(Yp,eval e X.env)::Bj [] X.env:=by rfl) :
  PE X (.Call (.Name "sorted" p1) [.Call (.Name "set" p2) [e] [] uf] [] ug) (tD X (uX mu fa)):=by
 intro aa s Y H Q I h;obtain⟨P,J,ac,S,r,re,af⟩:=h;refine Hr (uZ I hg hm VY ?_);refine Ot ?_ rfl rfl;refine Hq ?_;refine Call_ (uZ I T y GU (Gw ?_ g rfl));rw[g];refine Hq (bi (zO n I r re af) λvv O ⟨v,x,P1,J1,d,S1,G1,U⟩=>Lc ?_);cases E:(V9 d S1).bind kR with
 |none=>simp only[E] at U;exact Am U
 |some ys =>
   simp only[E] at U;obtain⟨xs,hd,G⟩:=Eg.mp E;obtain⟨a,vs,ah,rfl,t1,p,L,k⟩:=RX G1.inv G1.rel G1.rep G1.val hd;have B:a8 X (call (.type "set") [.ref a]) (λu O=>a8 X (call (.builtin "sorted") [u]) (sx X aa Y x P1 J1 ys) X.xe O) X.xe O:=by
    unfold kR at G;cases o:wF xs with
    |none=>rw[o] at G;cases G
    |some ks =>
     rw[o] at G;dsimp only at G;split at G;rename_i N;cases G;rw[Ax,Bb] at N;have:=lE o;subst this;rw[Ao] at k;obtain⟨q1,i⟩:=WC G1.inv G1.rel t1 p k;exact _o (d:=[]) (_S.T6 X.prog X.w O.heap) (_S.EY O.heap) m b G1.inv G1.rel L ks k q1 N.1 (dA N.2) ml i;cases G
   refine bi B λu s2 t=>Lc (bi t λu' s3 ⟨D,zc,e,c,f,C⟩=>?_);subst e;cases mu with
   |true=>exact⟨.ref D,_,f,rfl,tL G1.rel c C λM q z A l L w j=>U M q z A l (G1.same.trans L) (G1.pre.trans w) j⟩
   |false=>exact⟨.ref D,_,f,rfl,wQ G1.rel c C λM q z A l L w j=>U M q z A l (G1.same.trans L) (G1.pre.trans w) j⟩
end
section
variable {X:Cx}{cm:Ar}{k:Aj}{e:Bl}{fa:DE}{p1 p2 ug uf:Ea}{mu:Ar}
def qAp (U:X.calm=Vp)(G:RoomC cm k X.A)(J:Gl X "sorted")(hm:X.mg "sorted" = Zw)(Q:Gl X "set")(Y:X.mg "set" = Zw)(N:QE X e fa)(O:Bj [e] X.env=(Yp,eval e X.env)::Bj [] X.env:=by rfl) :
  QE X (.Call (.Name "sorted" p1) [.Call (.Name "set" p2) [e] [] uf] [] ug) (uX mu fa):=⟨QR U G.units J hm Q Y N.1 O⟩
end
end _D
section
namespace _D
open _L
mutual
def MU:D->Ab Aq
 |.int n=>[1,n]
 |.tup Q=>2::U3 Q
 |_=>[]
def U3:Ab D->Ab Aq
 |[]=>[0]
 |x::Q=>MU x++U3 Q
end
end _D
end
namespace _D
open _L PySem.SeqAt
inductive Y9 (h:Bc):Aj->D->Ac->Prop
 |int (n:Aj) (i:Aq) (t:Mx):Y9 h n (.int i) (.int i t)
 |tup (n:Aj) (a:Af) (xs:Ab D) (its:Y0) (ht:h.IsTuple a its.toArray) (hl:xs.length=its.length) (hs:∀ (j:Aj) (x:D) (v:Ac),xs[j]? = Aa x->its[j]? = Aa v->Y9 h n x v):Y9 h (n+1) (.tup xs) (.ref a)
def wa (h:Bc)(k:Ab Aq)(v:Ac):Prop:=∃ d,Y9 h 6 d v/\MU d=k
end _D
section
end
section
end
namespace _D
open _L
def i9 (ds:Ab D):Ar:=match wF ds with
 |some Q=>decide ((_S.mn _H.lexLt Q).length<=63)&&Q.all λk=>!k.isEmpty
 |none=>Yp
end _D
section
end
namespace _D
open _L PySem.W
structure rg (K:Ag)(C B:Af):Prop where
 cd:∃ cd,clsIn K C=Aa cd/\cd.mro=.ref C::.ref B::gO/\cd.hasDict=Vp
 sa:findIn K (.ref C) "__setattr__" = Aa (Aa (.builtin "object.__setattr__"))
section
variable {prog:Ba}{w:Bu}{A:Bp}{E:J7}{s:Ai}{K:Ag}{x C B:Af}{ob:Ce}{vs:Bs Ac}{name:Ah}{v:Ac}
def ZK {Y:Mx}{R:Qr->Ai->Prop}(X:K.In s.heap)(J:rg K C B)(O:findIn K (.ref C) name=Aa Zw)(I:InstAt s.heap x ob C H)
  (h:Ap (As prog w) A.in1 (Yn (.ref x) (.ref C) (.str name Y) name v Yp)
   (λfin s'=>match fin with|.done f=>R (.ok f) s'|.again U=>U.quiet=Vp/\Gs (As prog w) A U R s') (λe s'=>R (.error e) s') s) :
  Gs (As prog w) A (.call (.builtin "object.__setattr__") ⟨[.ref x,.str name Y,v],[]⟩) R s:=by
 have Q:=PySem.F.store_object;obtain⟨T,G,N,_⟩:=J.cd;have sub:Looks (As prog w) s.heap (Wc (.ref x) (.type "object")) true:=I.type.andThen (Um X (by unfold mroIn;rw[G,On,N];rfl));refine Jp Q.slot.plain Q.entry (@check_slot (As prog w) _ _ s "object.__setattr__" "object" "__setattr__" (.ref x) [.str name Y,v] [] _ Q.kind Q.split sub (Q.args (.ref x) (.str name Y) v) ?_);have L:Looks (As prog w) s.heap (mroOf (.ref C)) T.mro:=(Zt X G).andThen .now;rw[osa_eq,refuse_eq];refine Ad (Ad (I.type.here (Ad (L.here ?_))));rw[N,refuseLoop_ref,refuseLoop_ref,PySem.F.store_ValueError.passes];exact An (Ad (I.type.here (Ad ((Nh X O).here (Ad (Ka (a:=Zw) Z h))))))
def eV {mA:J8}{ns:Y8}{Q:Nx->Ai->Prop}(X:K.In s.heap)(U:rg K C B)(hn:findIn K (.ref C) name=Aa Zw)(N:s.heap.get? x=Aa ob)(m:ob.cls=.ref C)(hd:ob.data=.fields vs)
  (hD:(ob.dict=Zw/\∀ n,mA n=Zw)\/∃ Y,ob.dict=Aa Y/\Y≠x/\s.heap.Ns1 Y mA) (hw:Nb mA ns) (hz:ns.length<=sizeLine)
  (h:∀ h' Y tk,h'.get? x=Aa { ob with dict:=Aa Y } -> Y≠x->h'.Ns1 Y (λy=>if y=name then Aa v else mA y)->(∀ b o,b≠x->b≠Y->s.heap.get? b=Aa o->h'.get? b=Aa o)->(∀ d,ob.dict=Aa d->d=Y)->(ob.dict=Zw->s.heap.get? Y=Zw)->Q () ⟨h',s.gens,s.drawn,tk,s.os⟩) :
  Ap (As prog w) A (setAttr (.ref x) name v) Q E s:=by
 obtain⟨cd,l,_,L⟩:=U.cd;obtain⟨oc,zc,zl,O⟩:=ob;dsimp only at m hd;subst m hd;rcases hD with⟨u,r⟩|⟨Y,k,i,p⟩
 .dsimp only at u;subst u;have I:InstAt s.heap x ⟨.ref C,Zw,.fields vs,O⟩ C none:=⟨N,rfl,rfl,Jw⟩;refine set_plain X I U.sa (ZK (s:={ s with toks:=s.toks+1 }) X U hn I ?_);refine Ad (An (Ad (Ad (Py N (Ad (Looks.here (s:={ s with toks:=s.toks+1 }) (Zt X l) ?_))))));rw[L];refine Ad (Zn ?_);have j:(s.heap.push { cls:=.type "dict",data:=.dict #[] }).get? x=Aa ⟨.ref C,Zw,.fields vs,O⟩:=Ak _ N;have c:x≠s.heap.objs.size:=Cm (Bh N);refine Ad (wpAny_update (o:=⟨.ref C,Zw,.fields vs,O⟩) j ?_);refine An (a:=Aa s.heap.objs.size) ?_;have g1:((s.heap.push { cls:=.type "dict",data:=.dict #[] }).update x λo=>{ o with dict:=Aa s.heap.objs.size }).get? s.heap.objs.size=Aa { cls:=.type "dict",data:=.dict #[] }:=(Cj _ _ c).trans (Yo Z Z);have g2:((s.heap.push { cls:=.type "dict",data:=.dict #[] }).update x λo=>{ o with dict:=Aa s.heap.objs.size }).Ns s.heap.objs.size (λ_=>Zw):=⟨_,#[],_,g1,Z,λe N=>absurd N aA,λ_=>rfl⟩
  refine Ad (An (Ad (Xc (s:=⟨_,s.gens,s.drawn,s.toks+1,s.os⟩) (Xt g2) λh' J G=>?_)));obtain⟨oD,t,f,M,H,T⟩:=J.count (Rc name v Sz);refine Ad (Sm M (by rw[H];exact Sn (Ca T (by rw[Aw,Cy,El];lia))) ?_);refine An (h h' _ _ ?_ c.symm ?_ (λb o n1 g q=>?_) (λd z=>nomatch z) λ_=>Hx (Ay _));exact(G.2 x c).trans (Dx _ j Z)
  .obtain⟨o',es,ep,e1,e2,e3,eu,e4⟩:=J;exact⟨o',es,ep,e1,e2,e3,eu,λy=>by rw[e4 y];by_cases hy:y=name <;> simp[hy,r]⟩
  .exact(G.2 b g).trans ((Cj _ _ (Dm n1)).trans (Ak _ q))
 .dsimp only at k;subst k;obtain⟨od,ho,_⟩:=mI p;have I:InstAt s.heap x ⟨.ref C,Aa Y,.fields vs,O⟩ C (Aa od):=⟨N,rfl,rfl,ho⟩;refine set_plain X I U.sa (ZK (s:={ s with toks:=s.toks+1 }) X U hn I ?_);refine Ad (An (Ad (Ad (Py N (Ad (Looks.here (s:={ s with toks:=s.toks+1 }) (Zt X l) ?_))))));rw[L];refine An (a:=Aa Y) (Ad (An (Ad ?_)));refine Xc (s:={ s with toks:=s.toks+1 }) p λh' J G=>?_;obtain⟨oD,t,f,M,H,T⟩:=J.count (Rc name v hw);refine Ad (Sm M (by rw[H];exact Sn (Ca T (by rw[Aw];lia))) ?_);exact An (h h' Y _ ((G.2 x i.symm).trans N) i J (λb o n1 g q=>(G.2 b g).trans q) (λd z=>(Cw z).symm) λz=>nomatch z)
end
end _D
namespace _D
open _L
variable {a:Af}{K:Ag}{P:Ba}{φ:Bc->Prop}
def qh (e C t:Af)(dd:Al Af):HO:=.ext λh=>∃ Q,h.get? e=Aa Q/\Q.cls=.ref C/\Q.dict=dd/\Q.data=.fields #[.ref t,.none,.none,.none,.bool Yp,.none]
inductive xq (H0 H:Hp)(e C t:Af)(fs:Ab (Ah × V)):Prop
 |no (h1:fs=[]) (h2:H=bz H0 e (qh e C t Zw)):xq H0 H e C t fs
 |dx (dx:Af) (h1:H0 dx=Zw) (h2:dx≠e) (h3:H=bz (bz H0 e (qh e C t (Aa dx))) dx (si dx fs)):xq H0 H e C t fs
def UM {h:Bc}(p:φ h)(t:∃ o,h.get? a=Aa o)(st:∀ Y Q:Bc,φ Y->(∀ o,Y.get? a=Aa o->Q.get? a=Aa o)->φ Q):zR P w H h a (.ext φ):=⟨p,t,st⟩
def UJ {h:Bc}{dd:Al Af}(J:h.get? e=Aa Q)(G:Q.cls=.ref C)(U:Q.dict=dd)(Y:Q.data=.fields #[.ref t,.none,.none,.none,.bool Yp,.none]):zR P w H h e (qh e C t dd):=
 UM ⟨Q,J,G,U,Y⟩ ⟨Q,J⟩ λ_ _ ⟨o,q,r⟩ k=>⟨o,k o q,r⟩
def NA {fs:Ab (Ah × V)}(x:GP a fs h):zR P w H h a (si a fs):=by have J:=x;obtain⟨_,⟨o,_,_,e,_⟩,_⟩:=J;exact UM x ⟨o,e⟩ λ_ _ ⟨m,⟨o,Q,Y,e,r⟩,q⟩ k=>⟨m,⟨o,Q,Y,k _ e,r⟩,q⟩
theorem JC {f:Ah}{v:V}:∀ {fs:Ab (Ah × V)},(∀ p∈fs,p.1≠f)->∀ y,(fs++[(f,v)]).lookup y=if y=f then Aa v else fs.lookup y
 |[],_,y=>by
  by_cases h:y=f;subst h;simp;simp[Eu,Ff.mpr h,h]
 |(g,u)::fs,Q,y=>by
  rw[Zu,En,En];have:=JC (fs:=fs) (v:=v) (λp Y=>Q p (.tail _ Y)) y;cases q:y == g with
  |true =>
   rw[AT (λz=>Q (g,u) (.head _) (by rw[<- eq_of_beq q,z]))]
  |false=>exact this
def GH {h':Bc}{f:Ah}{fs:Ab (Ah × V)}{mA:J8}(Q:∀ p∈fs,p.1≠f)(U:qT v u)(r:∀ y,uH (fs.lookup y) (mA y))(J:Nb mA (fs.map (·.1)))(n:h'.Ns1 a (λy=>if y=f then Aa u else mA y)):GP a (fs++[(f,v)]) h':=by
 refine⟨_,n,λy=>?_,λy Y=>?_⟩
 .rw[JC Q];by_cases q:y=f
  .rw[Au q,Au q];exact U
  .rw[AT q,AT q];exact r y
 .rw[Ds,Ch];by_cases q:y=f
  .exact .inr (by rw[q];simp)
  .refine .inl (J y λz=>Y ?_);show (if y=f then Aa u else mA y)=Zw;rw[AT q];exact z
section
variable {X:Cx}{aa:J0}{Y: _L.St}{H0 H:Hp}{s:Ai}{e C B t:Af}{fs:Ab (Ah × V)}{f:Ah}{v:V}{u:Ac}
def uV (I:Inv X aa Y H s)(h:H a=Aa (.ext φ)) : φ s.heap:=(I.hok a _ h).1
def none_of (I:Inv X aa Y H s)(h:s.heap.get? a=Zw):H a=none:=by
 cases q:H a with
 |none=>rfl
 |some w =>
  obtain⟨Q,z⟩:=zR.there (I.hok a _ q);rw[h] at z;cases z
def RZ {A:Bp}{E:J7}{Q:Nx->Ai->Prop}(I:Inv X aa Y H s)(h0:H0 e=Zw)(L:rg X.K C B)(hn:De X.K (.ref C) f=Aa Zw)(x:xq H0 H e C t fs)(hl:fs.length<1000)(hf:∀ p∈fs,p.1≠f)(rv:qT v u)
  (h:∀ H' s',Inv X aa Y H' s'->xq H0 H' e C t (fs++[(f,v)])->Q () s'):Ap (As X.prog X.w) A (setAttr (.ref e) f u) Q E s:=by
 cases x with
 |no h1 N =>
  subst h1 N;obtain⟨ob,y,M,U,J⟩:=uV I qX;refine eV (mA:=λ_=>Zw) (ns:=[]) I.kIn L hn y M J (.inl ⟨U,λ_=>rfl⟩) Sz aA λg dx tk j k l i _ a6=>?_;have d:s.heap.get? dx=none:=a6 U;have hx:H0 dx=none:=by have z:=none_of I d;rwa [qP k] at z
  have nH:∀ b w,bz H0 e (qh e C t Zw) b=Aa w->b≠dx:=λb w q z=>by rw[z,qP k,hx] at q;cases q
  have G:∀ b o,b≠e->s.heap.get? b=Aa o->g.get? b=Aa o:=λb o n q=>i b o n (λz=>by rw[z,d] at q;cases q) q;have O:∀ b w,bz H0 e (qh e C t Zw) b=Aa w->(∀ φ,w≠.ext φ) -> bz (bz H0 e (qh e C t (Aa dx))) dx (si dx [(f,v)]) b=Aa w:=λb w q n=>by
   rw[qP (nH b w q)];by_cases z:b=e;subst z;rw[qX] at q;cases q;exact absurd rfl (n _);rw[qP z] at q ⊢;exact q
  refine h _ _ (Inv.un (t':=tk) I (H':=bz (bz H0 e (qh e C t (Aa dx))) dx (si dx [(f,v)])) ⟨λb o q n _ _=>?_,λb o q n _ _=>⟨o.slots,?_⟩,λb o q n _=>?_,λb o q _=>?_,λb xs q=>O b _ q (λ_ z=>nomatch z),λb o w q=>O b _ q (λ_ z=>nomatch z),λb ps q=>⟨#[],by rw[O b _ q (λ_ z=>nomatch z)];simp⟩⟩ λb w q=>?_) (.dx dx hx k Z);exact G b o (λz=>by rw[z,qX] at n;cases n) q;exact G b o (λz=>by rw[z,qX] at n;cases n) q
  .have z1:b≠e:=λz=>by rw[z,qX] at n;cases n
   rw[qP z1] at n;rw[qP (λz=>by rw[z,d] at q;cases q),qP z1];exact n
  .by_cases z:b=e
   .subst z;exact⟨_,j⟩
   .exact⟨o,G b o z q⟩
  .by_cases z:b=dx
   .subst z;rw[qX] at q;cases q;exact NA (GH (fs:=[]) (mA:=λ_=>Zw) aA rv (λ_=>Jw) Sz l)
   .rw[qP z] at q;by_cases T:b=e
    .subst T;rw[qX] at q;cases q;exact UJ j M rfl J
    .rw[qP T] at q;have q':bz H0 e (qh e C t Zw) b=Aa w:=by rw[qP T];exact q
     refine(I.hok b w q').stay (λc o m r=>G c o ?_ r) (λc r=>O c _ r λ_ z=>nomatch z) λc xs r=>O c _ r λ_ z=>nomatch z;rcases m with rfl|r
     .exact T
     .rintro rfl;rw[qX] at r;cases r
 |dx dx h1 N h3 =>
  subst h3;have hE:bz (bz H0 e (qh e C t (Aa dx))) dx (si dx fs) e=Aa (qh e C t (Aa dx)):=by rw[qP (Dm N),qX]
  obtain⟨ob,y,M,U,J⟩:=uV I hE;obtain⟨mA,n,r,wi⟩:=uV I (a:=dx) qX;refine eV (mA:=mA) (ns:=fs.map (·.1)) I.kIn L hn y M J (.inr ⟨dx,U,N,n⟩) wi (by rw[Ao,El];lia) λg d2 tk j k l i a5 _=>?_;cases a5 dx U;have G:∀ b o,b≠dx->s.heap.get? b=Aa o->g.get? b=Aa o:=λb o n q=>by
   by_cases z:b=e;subst z;rw[y] at q;cases q;rw[j,<- U];exact i b o z n q
  have x':=GH hf rv r wi l;refine h _ _ (Inv.write (t':=tk) I (x:=dx) (e:=dx) (o:=si dx (fs++[(f,v)])) (by rw[qX];exact Jw) (.inl Z) G ?_ (NA x')) (.dx dx h1 N EE);obtain⟨o,_,_,q,_⟩:=l;exact⟨o,q⟩
end
inductive nq:Ab Ah->Ab Du->Prop
 |nil:nq [] []
 |cons {f:Ah} {fs:Y8} {p1 p2 p3 pos:Ea} {r:Ab Du}:nq fs r->nq (f::fs) (.Assign [.Attribute (.Name ("self" : Ah) p1) f p2] (.Name f p3) pos::r)
structure se (K:Ag)(C:Af)(f:Ah):Prop where
 at_:De K (.ref C) f=Aa Zw
 hd:(f == ("__debug__" : Ah))=Yp
 hc:(f == ("__classdict__" : Ah))=Yp
def qAb (C:Af)(i:Aj)(f:Ah):TS:=λD Y H=>∃ e t J Q v,Y[0]? = Aa (Aa (.ref e))/\Y[i]? = Aa (Aa v)/\J e=Zw/\xq J H e C t Q/\Q.length<1000/\(∀ p∈Q,p.1≠f)/\∀ U,xq J U e C t (Q++[(f,v)])->D.nx Y U
def qAc (C:Af)(i:Aj)(fs:Y8):TS:=λD Y H=>∃ e t U J Q,Y[0]? = Aa (Aa (.ref e))/\(∀ j w,J[j]? = Aa w->Y[i+j]? = Aa (Aa w))/\J.length=fs.length/\U e=Zw/\xq U H e C t Q/\Q.length+fs.length<1000/\(∀ p∈Q,p.1 ∉ fs)/\∀ G,xq U G e C t (Q++fs.zip J)->D.nx Y G
section
variable {X:Cx}{C B:Af}
def RG {w O h ai:Ea}{i:Aj}(J:rg X.K C B)(k:se X.K C f)(h0:X.N[0]? = Aa ("self" : Ah))(c:qi X.env.scope "self")(z:X.N[i]? = Aa f)(hv:qi X.env.scope f) :
  PS X (.Assign [.Attribute (.Name ("self" : Ah) w) f O] (.Name f h) ai) (qAb C i f):=by
 intro U s Y H D I ⟨e,t,H0,fs,v,g,d,n,j,E,T,L⟩;refine Oo (bi (dJ z hv k.hd k.hc U s Y H (λy Q=>y=v/\Q=H) I ⟨v,d,rfl,rfl⟩) λu p ⟨y,Q,o,ry,q,G⟩=>bi (dJ h0 c aC aC U p Y Q (λy Q=>y=.ref e/\Q=H) o ⟨.ref e,g,rfl,G⟩) λb s2 ⟨x,H2,r,l,A,M⟩=>?_);subst q G A M;obtain rfl:b=Cc e:=l;exact RZ r n J k.at_ j E T ry λN s' m x=>⟨Y,N,m,L N x⟩
def MN {fs:Ab (Ah × V)}{f:Ah}{v:V}{r:Ab (Ah × V)}:fs++(f,v)::r=(fs++[(f,v)])++r:=by simp
set_option tactic.hygienic true in
theorem hJ (J:rg X.K C B)(h0:X.N[0]? = Aa ("self" : Ah))(m:qi X.env.scope "self"):∀ (fs:Y8) (G:Ab Du) (i:Aj),nq fs G->(∀ j f,fs[j]? = Aa f->X.N[i+j]? = Aa f)->(∀ f∈fs,se X.K C f/\qi X.env.scope f)->fs.Nodup ->
  jq X G (qAc C i fs)
 |[],G,i,E,_,_,_=>by
  cases E;intro T s Y H D I ⟨e,t,O,U,Q,_,_,_,_,N,_,_,L⟩;exact XN T s Y H D I (L H (by simpa using N))
 |f::fs,G,i,E,o,b,d=>by
  cases E;rename_i p1 p2 p3 ai r hr;have k:=b f (.head _);have ih:=hJ J h0 m fs r (i+1) hr (λj g e=>by have:=o (j+1) g e;rwa [show i+1+j=i+(j+1) by fin2]) (λg hg=>b g (.tail _ hg)) (Hd.mp d).2;have nf:=(Hd.mp d).1;intro T s Y H D I ⟨e,t,O,U,Q,v,n,h,c,N,l,M,L⟩;cases U with
  |nil=>cases h
  |cons w U =>
   have q:qAd (qAb C i f) (qAc C (i+1) fs) D Y H:=⟨e,t,O,Q,w,v,n 0 w Z,c,N,by rw[Aw] at l;fin2,λp hp z=>M p hp (z▸.head _),λH' x=>?_⟩
   .exact oW (RG J k.1 h0 m (o 0 f Z) k.2) ih T s Y H D I q
   .refine⟨e,t,O,U,Q++[(f,w)],v,λj u hj=>by have:=n (j+1) u hj;rwa [show i+1+j=i+(j+1) by fin2],AaL h,c,x,by rw[Aw] at l;rw[Az,Cu];fin2,λp hp z=>?_,λA y=>L A (by rw[Kj,MN];exact y)⟩;rcases Ch.mp hp with hp|hp
    .exact M p hp (.tail _ z)
    .rw[Bz.mp hp] at z;exact nf z
end
def spI (C:Af)(fs:Y8):Sp:=λG H Q _=>∃ e t J U,G=V.ref e::U/\U.length=fs.length/\J e=Zw/\H=bz J e (qh e C t Zw)/\∀ Y,J Y=Zw->Y≠e->Q .non (bz (bz J e (qh e C t (Aa Y))) Y (si Y (fs.zip U)))
def D6 {w:Bu}{mg:J8}{base:Bc}{cm:Ar}{z:Ah}{st:Du}{fs:Y8}(F:uq K "__init__" z st T fd)(S:c_ (("self" : Ah)::fs) (("self" : Ah)::fs) (qH st))(N:rg K C B)(o:nq fs (zJ st))(q:∀ f∈fs,se K C f)(v:fs≠[])(g:fs.length<1000) :
  sd P w K mg base cm 1 T fd (("self" : Ah)::fs) (spI C fs):=by
 have Y:∀ x∈("self" : Ah)::fs,qi (qH st) x:=λx d=>(S.par x d).elim .inl λh=>.inr (.inl h);refine UP F S (λr H Q E ⟨e,t,I,U,G,J,_⟩=>by rw[G,Aw,Aw,J]) λL A l s H r Q E _ _ ⟨e,t,I,U,G,J,c,k,p⟩=>?_;refine⟨_,hJ (X:=jv cm P w K mg base (("self" : Ah)::fs) z (qH st) T L A l s H E) (C:=C) N Z (Y _ (.head _)) fs (zJ st) 1 o (λj f e=>by rw[Pl];exact e) (λf M=>⟨q f M,Y f (.tail _ M)⟩) (Hd.mp S.nd).2,e,t,I,U,[],?_,λj u y=>?_,J,c,.no Z k,by simpa using g,by simp,λi x=>?_⟩;rw[G];rfl;rw[G];show ((V.ref e::U).map Aa++_)[1+j]? = _;rw[Cn (by rw[Ao,Aw];have:=(Bw.mp y).1;fin2),Er,Pl,Nj,y];rfl
 .rw[Ji] at x;cases x with
  |no O _ =>
   exfalso;cases fs with
   |nil=>exact v rfl
   |cons f fs =>
    cases U with
    |nil=>cases J
    |cons _ _=>cases O
  |dx dx O n m=>rw[m];exact p dx O n
section
variable {prog:Ba}{w:Bu}{A:Bp}{E:J7}{s:Ai}{h:Bc}{g:Bs Tr}{d:Drawn}{t:Aj}{os:OsState}{ac:Hn}
variable {nm q:Ah}{C N:Af}{bs bm yq:Y0}{hdct:Ar}{sn:Y8}{sub:Y0}{ab:Ar}{col:Al Ar}{dd:Al Af}{k0 k1 k2 k3 k5:Al Ac}{B jg qr:Ek}{fI:Af}{oI:Ce}{mN:J8}{aw:Y0}
def VH (F:Xn B jg qr yq)(T:Wa h yq bm){Q:Fin->Ai->Prop}(J:h.get? C=Aa (Ld nm q C N bs bm hdct sn sub ab col dd k0 k1 k2 k3 k5 jg))(f:h.Ns N mN)(v:mN "__init__" = Aa (.ref fI))(I:h.get? fI=Aa oI)(j:oI.cls=.type "function")
  (l:∀ h' e,Vg h h' e (.ref C) aw->Ap (As prog w) A (call (.ref fI) (.ref e::aw)) (λr s'=>r=.none/\Q (.done (.ret (.ref e))) s') E ⟨h',g,d,t,os⟩) (Y:aw.length<=sizeLine) :
  Ap (As prog w) A (Ih.«type.__call__» ⟨.ref C::aw,[]⟩) Q E ⟨h,g,d,t,os⟩:=by
 repeat (first|with_reducible refine Li J ?_|with_reducible refine wpAny_madeBy_exc J ?_|wp_step)
 refine codeAny_call_builtin_code (Na _ F.quiet) (wpAny_check_new_subT F T J ?_);refine codeAny_exc_new_subT F T J ?_ Y;show Ap _ _ _ _ _ _;generalize k:({ cls:=.ref C,data:=.fields #[.ref h.objs.size,.none,.none,.none,.bool Yp,.none] } : Ce)=O;generalize p:({ cls:=.type "tuple",data:=.seq aw.toArray } : Ce)=U;have G:∀ b o,h.get? b=Aa o->((h.push U).push O).get? b=Aa o:=λb o e=>Ak _ (Ak _ e);have L:=G _ _ J;have H:=G _ _ I;have M:=f.keeps G;have m:=T.keeps G;have u:((h.push U).push O).get? (h.objs.size+1)=Aa O:=by subst k p;heap_get
 have y:(Cc C::bm).contains (.ref C)=true:=by simp
 have z:O.cls=.ref C:=by subst k;rfl
 unfold Wc
 repeat (first|(with_reducible refine Li u ?_;rw[z])|(with_reducible refine Wm L ?_;rw[y])|wp_step)
 show Ap _ _ (typeLookup (.ref C) _) _ _ _;refine wpAny_typeLookup_tail L M m F.mroIs F.init.lookup ?_;rw[v];refine Df (Ad ?_);unfold bindSpecial;refine Ad (Lr (T:="function") ⟨_,H,j⟩ ?_);rw[Au aC];refine An (Ad (Ga (l _ (h.objs.size+1) ⟨G,Hx (Jx _),h.objs.size,u.trans (congrArg Aa k.symm),Hx (Ay _),?_⟩) (λr s' c=>?_) λ_ _ x=>x));subst p;exact Ak _ (Yo rfl rfl);obtain⟨rfl,n⟩:=c;wp_walk;exact n
def VZ (F:Xn B jg qr yq)(T:Wa h yq bm){Q:J7}(J:h.get? C=Aa (Ld nm q C N bs bm hdct sn sub ab col dd k0 k1 k2 k3 k5 jg))(I:h.Ns N mN)(L:mN "__init__" = Aa (.ref fI))(U:h.get? fI=Aa oI)(G:oI.cls=.type "function")
  (O:∀ h' e,Vg h h' e (.ref C) aw->Ap (As prog w) (A.under (.builtin "type.__call__" ⟨.ref C::aw,[]⟩)) (call (.ref fI) (.ref e::aw)) (λr s'=>r=.none/\Q (.ref e) s') E ⟨h',g,d,t,os⟩) (Y:aw.length<=sizeLine) :
  Ap (As prog w) A (call (.ref C) aw) Q E ⟨h,g,d,t,os⟩:=by
 have M:=tc_lookup;have H:=tc_bind (.ref C);have z:(⟨h,g,d,t,os⟩:Ai).TypeIs (.ref C) "type":=⟨_,J,Z⟩;refine L2 (Pd ?_);show Ap _ _ (callAny (.ref C) _) _ _ _
 repeat (any_goals (first|assumption|with_reducible refine Li J ?_|wp_step))
 refine⟨Z,codeAny_call_builtin_at (Na _ (by decide +kernel)) entry_typeCall (wpAny_check_type_call_sub J (VH F T J I L U G (λh' e m=>?_) Y))⟩;exact O h' e m
def FP {x:Km Ac}{Q:Flow->Ai->Prop}(I:bm.contains (.type "BaseException")=Vp)(H:A.handled=Zw)
  (k:Ap (As prog w) A x (λv Y=>∃ e J t,v=.ref e/\Y.heap.get? C=Aa (Ld nm q C N bs bm hdct sn sub ab col dd k0 k1 k2 k3 k5 jg)/\Y.heap.get? e=Aa J/\J.cls=.ref C/\J.data=.fields #[.ref t,.none,.none,.none,.bool Yp,.none]/\E (.ref e) Y) E s) :
  Ap (As prog w) A (raiseStmt ac (Aa x) Zw) Q E s:=by
 have U:(Cc C::bm).contains (.type "BaseException")=true:=by rw[List.contains_cons,I,Bool.or_true]
 unfold raiseStmt;refine Ad (Ga k (λv Y z=>?_) λ_ _ x=>x);obtain⟨e,⟨l,u,j,M⟩,t,rfl,L,y,O,G,T⟩:=z;dsimp only at O G;subst O G;obtain⟨o,g,d,p,os⟩:=Y
 repeat (first|with_reducible refine Li y ?_|with_reducible refine Li L ?_|(with_reducible refine Wm L ?_;rw[U])|wp_step)
 exact wpAny_raiseNew_none H T
def V6 (F:Xn B jg qr yq){x:Ah}{j O ai:Ea}{Y:Ab Bl}{Q:Flow->Ai->Prop}(b:bm.contains (.type "BaseException")=Vp)(o:A.handled=Zw)(I:(Fh O (Bj Y ac)).any (·.1)=Yp)(l:mN "__init__" = Aa (.ref fI))(L:oI.cls=.type "function")
  (k:Ap (As prog w) A (eval (.Name x j) ac) (λf H=>f=.ref C/\Ap (As prog w) A (evalArgs (.ref C) Vp (Fh O (Bj Y ac)) [])
   (λa J=>a.kw=[]/\a.pos.length<=sizeLine/\J.heap.get? C=Aa (Ld nm q C N bs bm hdct sn sub ab col dd k0 k1 k2 k3 k5 jg)/\J.heap.Ns N mN/\Wa J.heap yq bm/\J.heap.get? fI=Aa oI /\
    ∀ h' e,Vg J.heap h' e (.ref C) a.pos->Ap (As prog w) (A.under (.builtin "type.__call__" ⟨.ref C::a.pos,[]⟩)) (call (.ref fI) (.ref e::a.pos))
     (λr s'=>r=.none/\∃ U t,s'.heap.get? C=Aa (Ld nm q C N bs bm hdct sn sub ab col dd k0 k1 k2 k3 k5 jg)/\s'.heap.get? e=Aa U/\U.cls=.ref C/\U.data=.fields #[.ref t,.none,.none,.none,.bool Yp,.none]/\E (.ref e) s') E { J with heap:=h' }) E H) E s) :
  Ap (As prog w) A (exec (.Raise (Aa (.Call (.Name x j) Y [] O)) Zw ai) ac) Q E s:=by
 rw[arm_exec_Raise];refine Ad (Ig (FP (C:=C) (nm:=nm) (q:=q) (N:=N) (bs:=bs) (bm:=bm) (hdct:=hdct) (sn:=sn) (sub:=sub) (ab:=ab) (col:=col) (dd:=dd) (k0:=k0) (k1:=k1) (k2:=k2) (k3:=k3) (k5:=k5) (jg:=jg) b o (Ad (Ga (wpAny_Call_ofName (Ga k (λf H z=>?_) λ_ _ x=>x)) (λv s3 z=>Ad (Ig (An z))) λ_ _ x=>x))));obtain⟨rfl,z⟩:=z;unfold Wv;refine Ad (Df (Ga z (λa J y=>Ad (Ig ?_)) λ_ _ x=>x));obtain⟨ap,i⟩:=a;obtain⟨u,G,M,n,T,c,y⟩:=y;obtain rfl:i=[]:=u;obtain⟨hp,g,d,tk,os⟩:=J;simp only[I];refine Ad (wpAny_keeperOf_exc M ?_);refine Ad (VZ F T M n l c L (λh' e m=>Ga (y h' e m) (λr s' ⟨p,U,t,z⟩=>⟨p,Ad (Df (wpAny_point (An ⟨e,U,t,rfl,z⟩)))⟩) λ_ _ x=>x) G)
end
set_option tactic.hygienic true in
def qBK (X:K.In h)(G:h.Ns N m)(e:Br K N n=Aa (Aa v)):m n=Aa v:=by
 obtain⟨o,O,C,J,Y,_,Q⟩:=G;unfold Br at e;split at e
 .rename_i q;cases J.symm.trans (X _ _ q);cases Y;split at e
  .rename_i U;cases e;rw[<- Q];unfold nsFind findBy;rw[<- Ww,U];rfl
  .split at e <;> cases e
 .cases e
def AY (K:Ag)(N Q:Af):Ar:=aQ K N&&(decide (Br K N "__init__" = Aa (Aa (.ref Q)))&&(match Eu Q K with|some o=>decide (o.cls=.type "function")|none=>Yp))
def i8 (K:Ag)(C A J:Af):Ar:=tR K C λU Q Y=>tR K A λ_ G _=>decide (U=.type "type")&&(decide (Q.mro=.ref C::.ref A::gO)&&(!Q.hasDel&&(AY K Q.ns J&&(jV K G.ns&&(decide (Y.toList.length=6)&&decide (Y.toList[4]? = Aa (Aa (.builtin "ValueError.__new__"))))))))
inductive I_ (h:Bc)(C fI:Af):Prop
 |mk (nm q:Ah) (N:Af) (bs bm:Y0) (hdct:Ar) (sn:Y8) (sub:Y0) (ab:Ar) (col:Al Ar) (dd:Al Af) (k0 k1 k2 k3 k5:Al Ac) (mN:J8) (hC:h.get? C=Aa (Ld nm q C N bs bm hdct sn sub ab col dd k0 k1 k2 k3 k5 "ValueError.__new__")) (hN:h.Ns N mN) (hi:mN "__init__" = Aa (.ref fI)) (T:Wa h gO bm):I_ h C fI
def LU (Q:K.In h)(z:i8 K C A J=Vp):I_ h C J/\∀ o,Eu J K=Aa o->o.cls=.type "function":=by obtain⟨f,c,O,d,e,z⟩:=bV z;obtain⟨l,v,r,g,j,z⟩:=bV z;have I:=Ct.mp z;have N:=Ct.mp I.2;have T:=Ct.mp N.2;have E:=Ct.mp T.2;have Y:=Ct.mp E.2;have L:=Ct.mp Y.2;have U:=Ct.mp E.1;have B:=Ct.mp U.2;rw[Bd I.1] at e;obtain⟨u,p,y,k,x,M,w⟩:=_Y (Bd L.1);have G:h.Ns O.ns (h.nsMap O.ns):=.of_isNs (Mz Q (QL U.1));refine⟨⟨_,_,_,_,_,_,_,_,_,_,_,u,p,y,k,M,_,(Q _ _ e).trans (congrArg Aa (K3 (Bd N.1) (Jn _▸T.1) w (Bd L.2))),G,qBK Q G (Bd B.1),.own (Q _ _ j) (.of_isNs (Mz Q (xY Y.1).1)) (Mw Q (xY Y.1).1 (xY Y.1).2) .base⟩,λo q=>?_⟩;have H:=B.2;rw[q] at H;exact Bd H
structure FcOk (K:Ag)(mg:J8)(x:Ah)(C:Af)(ns:Y8):Prop where
 hm:mg x=Aa (.ref C)
 ex:∃ B fI fd qual st,uq K "__init__" qual st fI fd/\yM K fd (("self" : Ah)::ns) [] /\ c_ (("self" : Ah)::ns) (("self" : Ah)::ns) (qH st)/\nq ns (zJ st)/\rg K C B/\i8 K C B fI=Vp
 fld:∀ f∈ns,se K C f
 ne:ns≠[]
 ln:ns.length<1000
section
variable {X:Cx}{aa:J0}{Y: _L.St}{H:Hp}{s:Ai}
def Inv.drop {H':Hp}(I:Inv X aa Y H s)(U:H e=Aa (.ext φ))(h0:H' e=Zw)(J:∀ b,b≠e->H' b=H b):Inv X aa Y H' s:=by
 have k:∀ b u,H b=Aa u->(∀ φ,u≠.ext φ) -> H' b=Aa u:=λb u q n=>by
  rw[J b λz=>?_];· exact q
  rw[z,U] at q;cases q;exact n _ rfl
 have Q:∀ b,H b=Zw->H' b=none:=λb q=>by rw[J b λz=>by rw[z,U] at q;cases q];exact q
 refine⟨I.ok,I.os,I.bare,⟨I.base.keep,I.base.slot,λb o q n N=>Q b (I.base.free b o q n N),I.base.there,λb G q=>k b _ (I.base.tups b G q) (λ_ z=>nomatch z),λb o u q=>k b _ (I.base.frzs b o u q) (λ_ z=>nomatch z),λb M q=>?_⟩,I.loc,I.cell,Q _ I.free,λx c q=>Q _ (I.freeC x c q),λp T=>?_,λb u q=>?_,I.len⟩;obtain⟨m,z⟩:=I.base.tbls b M q;exact⟨m,k b _ z (λ_ z=>nomatch z)⟩;obtain⟨B,L,A,C,O⟩:=I.pin p T;exact⟨B,Q _ L,A,C,O⟩
 .have E:b≠e:=λz=>by rw[z,h0] at q;cases q
  rw[J b E] at q;exact(I.hok b u q).stay (λ_ _ _ z=>z) (λc z=>k c _ z (λ_ z=>nomatch z)) λc G z=>k c _ z (λ_ z=>nomatch z)
def pY (c:Ac)(ns:Y8)(G:DA):DS:=λQ S=>(G Q S).toS Q λJ U=>if J.length=ns.length then .ex c (.exl c ns J) Q U else .bad
def UB {U:Bl}{j:Ab Bl}{np g ai:Ea}(hc:X.calm=Vp)(i:RoomC cm 2 X.A)(hF:Fn1 X)(hg:Gl X x)(G:FcOk X.K X.mg x C ns)(ha:PA X (U::j) (kz X fa))
  (zs:(x == ("__debug__" : Ah))=false:=by decide) (he:Bj (U::j) X.env=(Yp,eval U X.env)::Bj j X.env:=by rfl) (zo:(Fh g (Bj j X.env)).any (·.1)=false:=by rfl) :
  PS X (.Raise (Aa (.Call (.Name x np) (U::j) [] g)) Zw ai) (ir X (pY (.ref C) ns fa)):=by
 intro aa s Y H D I h;obtain⟨P,J,ac,S,r,re,af⟩:=h;obtain⟨B,fI,fd,av,st,F,m,hS,zc,d,hx⟩:=G.ex;obtain⟨⟨nm,qn,N,bs,tl,hdct,sn,sub,ab,col,dd,k0,k1,k2,k3,k5,mN,hC,hN,hi,T⟩,zn⟩:=LU I.mod.kin hx;obtain⟨oc,od,z2,lk⟩:=bS F;refine V6 (C:=C) (nm:=nm) (q:=qn) (N:=N) (bs:=bs) (bm:=tl) (hdct:=hdct) (sn:=sn) (sub:=sub) (ab:=ab) (col:=col) (dd:=dd) (k0:=k0) (k1:=k1) (k2:=k2) (k3:=k3) (k5:=k5)
  Ja (mN:=mN) (T.hasType Ja.hasBase) (I.ok.hd hc) (by rw[he];show (Yp||(Fh g (Bj j X.env)).any (·.1))=Yp;rw[zo];rfl) hi (zn _ lk) (y8 I hg G.hm ⟨rfl,?_⟩ zs)
 have run:=sQ ha I r re af g;rw[he] at run ⊢;refine Lu (bi run λM c ⟨E,O,P1,J1,ds,S1,L,rv,r1,z1,rp,e1,e2,q⟩=>?_);by_cases hz:ds.length=ns.length
 .rw[Au hz] at q;have hv:E.length=ns.length:=by rw[<- rp.length];exact hz
  have hl:M.length=ns.length:=by rw[<- rv.length];exact hv
  refine⟨Z,by rw[hl,El];have:=G.ln;fin2,L.bk _ _ hC,hN.keeps L.bk,T.keeps L.bk,L.kIn _ _ lk,λn e l=>?_⟩;obtain⟨t,zl,_,_⟩:=l.there;have n0:O e=none:=none_of L l.new;have no:¬ qm X aa O e:=λA=>by obtain⟨o1,p⟩:=qm.there L hF A;rw[l.new] at p;cases p
  have nf:e ∉ gx X.stack:=λz=>by obtain⟨_,o,p,_⟩:=L.stack.mem z;rw[l.new] at p;cases p
  have f:Inv X aa Y (bz O e (qh e C t Zw)) { c with heap:=n }:=Inv.track (L.kept (t':=c.toks) l.keeps) hF no nf λ_=>UJ zl Z Z Z;have rm:RoomC Vp 1 (X.A.under (.builtin "type.__call__" ⟨.ref C::M,[]⟩)):=.of (oi.make (k:=1) ⟨I.ok.hd hc,i.dp,i.un,i.gd⟩ C M []);have bd:=m { c with heap:=n } (.ref e::M) f.kIn (by simp[hl]);rw[Hc] at bd;refine L2 (Lq ((D6 (w:=X.w) (mg:=X.mg) (base:=X.base) (cm:=Vp) F hS d zc G.fld G.ne G.ln).run _ X.stack { c with heap:=n } _ ⟨.ref e::M,[]⟩ (.ref e::M) (.ref e::E) (λv H'=>v=.non/\∃ Q,O Q=Zw/\Q≠e/\H'=bz (bz O e (qh e C t (Aa Q))) Q (si Q (ns.zip E))) (λ_ _ _=>Fz) rm (f.env0.make C M []) bd (.cons Z rv) ⟨e,t,O,E,Z,hv,n0,Z,λQ d1 d2=>⟨Z,Q,d1,d2,Z⟩⟩) λr s' y=>?_);cases r with
  |error u =>
   obtain⟨_,_,_,_,_,_,_,_,_,_,_,_,z⟩:=(show qe X.prog X.w X.stack _ _ _ u s' from y)
   exact Am z
  |ok fl =>
   cases fl with
   |ret u =>
    obtain⟨v,H',I3,ru,rfl,Q,d1,d2,rfl⟩:=f.after y;have hE:bz (bz O e (qh e C t (Aa Q))) Q (si Q (ns.zip E)) e=Aa (qh e C t (Aa Q)):=by rw[qP (Dm d2),qX]
    obtain⟨ob,b1,b2,b3,b4⟩:=uV I3 hE;have I4:Inv X aa Y (bz O Q (si Q (ns.zip E))) s':=Inv.drop I3 hE (by rw[qP (Dm d2)];exact n0) λb m=>by
     by_cases w:b=Q;rw[w,qX,qX];rw[qP w,qP w,qP m]
    obtain⟨r4,sP⟩:=r1.pure (o:=si Q (ns.zip E)) d1;refine⟨ru,ob,t,I3.bk _ _ hC,b1,b2,b4,q _ _ ⟨e,aa,Y,_,_,J1,rfl,I4,r4,sP,Bm _,Aa Q,.new ob t b1 b2 b3 b4 (λA=>no ?_) nf,⟨rfl,Q,E,rfl,qX,hv.symm,qJ.mono sP (Bm _) _ _ rp⟩⟩⟩;rcases A with z|z|z|z
    .exact .inl z
    .exact absurd (by rw[qP (Dm d2)];exact n0) z
    .exact .inr (.inr (.inl z))
    .exact .inr (.inr (.inr z))
   |next=>exact Am y
   |brk=>exact Am y
   |cont=>exact Am y
 .rw[AT hz] at q;exact Am q
end
end _D
namespace _D
open _L PySem.W
variable {cl:J9}
section
variable {prog:Ba}{w:Bu}{A:Bp}{E:J7}{s:Ai}{K:Ag}{x C:Af}{ox:Ce}{od:Al Ce}{name:Ah}{v:Ac}
def AJ {Q:Mx}{R:Qr->Ai->Prop}(X:K.In s.heap)(Y:ol K C)(I:InstAt s.heap x ox C od)(U:findObj K C od name=Aa (.value v))(h:R (.ok (.ret v)) s) :
  Gs (As prog w) A (.call (.builtin "BaseException.__getattribute__") ⟨[.ref x,.str name Q],[]⟩) R s:=by
 have LT:=I.type (M:=As prog w);have N:=Um (M:=As prog w) X Y.mb;have O:=looks_find (M:=As prog w) X I U;have G:builtinKind "BaseException.__getattribute__" = Aa .slot:=by decide +kernel
 have J:splitId "BaseException.__getattribute__" = Aa ("BaseException","__getattribute__"):=by decide +kernel
 refine Jp Kh.ga.plain Uo (@check_slot (As prog w) _ _ s "BaseException.__getattribute__" "BaseException" "__getattribute__" (.ref x) [.str name Q] [] _ G J (LT.andThen N) (Vj (.ref x) (.str name Q)) ?_);cases s;unfold Ih.«object.__getattribute__»;refine Ad (Ka (show slotArgs "__getattribute__" 1 ⟨[.ref x,.str name Q],[]⟩=pure (.ref x,[.str name Q]) from by kernel_rfl) ?_);exact Ad (An (Ad (LT.at (Ad (O.at (An h))))))
def LS {Q:J7}(X:K.In s.heap)(Y:ol K C)(I:InstAt s.heap x ox C od)(N:findObj K C od name=Aa (.value v))(O:handedIn v=Vp)(h:Q v { s with toks:=s.toks+1 }) : Ap (As prog w) A (Yz (.ref x) name J) Q E s:=by
 have LT:=I.type (M:=As prog w);have B:=Nh (M:=As prog w) X Y.ga;have U:=Nh (M:=As prog w) X Y.hk;unfold Yz getAttrBy;cases s;refine Ad (wpAny_mkText (Df (Ad (LT.at (Ad (B.at ?_))))));dsimp only;have G:(Mf "BaseException.__getattribute__" == Mf "object.__getattribute__")=false:=by decide +kernel
 rw[G,Hu,AT Es];unfold f8 hookBefore;rw[Au (show onTheHeap (.ref C)=Vp from Z)];refine Ad (U.at (Ad (Kq (Df ?_))));unfold Zf;rw[show onTheHeap (Mf "BaseException.__getattribute__")=Yp from Z,Hu,AT Es];unfold boundAndCalled;refine Ad (Ka (Kh.ga.bind (.ref x)) ?_);refine L2 (AJ X Y I N ?_);show Ap _ _ (handedOut v) _ _ _;rw[handedOut_of O];exact An h
end
structure wt (K:Ag)(C:Af)(f:Ah):Prop where
 ex:ol K C
 hd:hasDictIn K C=Vp
 at_:findIn K (.ref C) f=Aa Zw
def bE (cl:J9)(f:Ah)(Q:DE):DE:=d1 (λd S=>match d with
 |.exl (.ref C) Y J=>if cl.contains C then (match (Y.zip J).lookup f with
   |some x=>.ok x S
   |none=>.bad) else .bad
 |_=>.bad) Q
section
variable {X:Cx}{e:Bl}{f:Ah}{ai:Ea}{fa:DE}
theorem WH {K:Ag}{P:Hp}:∀ {ns:Y8} {ds:Ab D} {vs:Ab V},qJ K P J ds vs->(ns.zip ds).lookup f=Aa x->∃ v,(ns.zip vs).lookup f=Aa v/\am K P J x v
 |[],ds,vs,_,h=>by cases ds <;> cases h
 |n::ns,[],_,_,h=>by cases h
 |n::ns,d::ds,vs,r,h=>by
  obtain⟨w,U,rfl,Y,Q⟩:=r.cons_inv;rw[Kj,En] at h ⊢;cases q:f == n with
  |true=>rw[q] at h;cases h;exact⟨w,rfl,Y⟩
  |false=>rw[q] at h;exact WH Q h
def CB (j:∀ C∈cl,wt X.K C f)(B:PE X e (tD X fa))(m:Gc e f X.env (eval e X.env)=eval e X.env:=by rfl):PE X (.Attribute e f ai) (tD X (bE cl f fa)):=by
 intro aa s Y H Q I h;obtain⟨P,J,ac,S,r,re,af⟩:=h;refine zh m (bi (zO B I r re af) λu l ⟨v,E,P1,J1,d,S1,G,q⟩=>?_);cases d with
 |exl c A w =>
  cases c with
  |ref C =>
   have q:qL X P J (if cl.contains C=Vp then (match (A.zip w).lookup f with|some x=>ax.ok x S1|none=>.bad) else .bad) (gy X P J Q):=q;by_cases U:cl.contains C=Vp
   .rw[Au U] at q;cases L:(A.zip w).lookup f with
    |none=>rw[L] at q;exact Am q
    |some x =>
     rw[L] at q;have k:=j C (Ev.mp U);have p:=G.rep;simp only[am] at p;obtain⟨a,dx,vs,rfl,p1,p2,_,rp⟩:=p;obtain rfl:u=Cc a:=G.val;obtain⟨T,B,U,t,ws,N⟩:=uV G.inv (G.rel.sub _ _ p1);obtain⟨mA,n,rl,_⟩:=uV G.inv (G.rel.sub _ _ p2);obtain⟨y,i,b⟩:=WH rp L;obtain⟨yv,e1,M⟩:=uH.some_of (v:=y) (o:=mA f) (by rw[<- i];exact rl f);obtain⟨od,z,O⟩:=mI n;have cg:InstAt l.heap a T C (Aa od):=⟨B,U,by obtain⟨_,_,g,_⟩:=T;cases N;rfl,by rw[t];exact z⟩
     refine LS G.inv.kIn k.ex cg (findObj_own k.hd k.at_ Z (by rw[O,e1])) (eZ M) ⟨y,E,G.inv.tok _,M,?_⟩;exact q y E P1 J1 G.rel G.same G.pre b
   .rw[AT U] at q;exact Am q
  |_=>exact Am q
 |_=>exact Am q
def xT (cl:J9):DF:=λQ S=>match Q with
 |.exl c _ _::Q=>vH cl (.exn c::Q) S
 |_=>vH cl Q S
def NJ (G:ut X.K cl):wR X (.builtin "isinstance") (xT cl):=by
 intro m Y H s P J S E i N Q I r A T U;cases N with
 |nil=>exact zf G m Y H s P J S E i _ Q I r A T U
 |cons d N =>
  cases d with
  |exl c ns xs =>
   replace U:qW X P J (vH cl (.exn c::N) S) Q:=U;cases IB cl (.exn c::N) S with
   |bad e=>rw[e] at U;exact Am U
   |old e =>
    rw[e] at U;cases N with
    |nil=>exact Am U
    |cons b t =>
     cases t with
     |cons _ _=>cases b <;> exact Am U
     |nil =>
      cases b with
      |ty n =>
       have U:qW X P J (if bU n then .bad else .bad) Q:=U;by_cases z:bU n=Vp;rw[Au z] at U;exact Am U;rw[AT z] at U;exact Am U
      |_=>exact Am U
   |obj C B g L h e =>
    rw[e] at U;cases g;obtain⟨v,w,u,x,rfl,rfl,p,O,q,o⟩:=gF T A;simp only[am] at p O;obtain⟨rfl,_⟩:=O;cases (show x=Cc B from o);obtain⟨a,dx,E,rfl,j,_⟩:=p;obtain rfl:u=Cc a:=q;obtain⟨M,k,l,_⟩:=uV I (r.sub _ _ j);exact DL (bQ (G.ex C L)) I.kIn ⟨M,k,l⟩ (G.one C L B h) (λz=>nomatch z) λy=>⟨.bl _,H,I.tok y,rfl,xr U r (by simp only[am])⟩
   |ve C g L e =>
    rw[e] at U;cases g;obtain⟨v,w,u,x,rfl,rfl,p,O,q,o⟩:=gF T A;simp only[am] at p O;subst O;cases (show x=Ht "ValueError" from o);obtain⟨a,dx,E,rfl,j,_⟩:=p;obtain rfl:u=Cc a:=q;obtain⟨M,k,l,_⟩:=uV I (r.sub _ _ j);exact DL (bQ (G.ex C L)) I.kIn ⟨M,k,l⟩ (G.ve C L) (λz=>nomatch z) λy=>⟨.bl _,H,I.tok y,rfl,xr U r (by simp only[am])⟩
  |_=>exact zf G m Y H s P J S E i _ Q I r A T U
end
end _D
namespace _D
open _L
variable {cl:J9}{K:Ag}{mg:J8}
def UV (s:Du):Du:=match s with
 |.ClassDef _ _ _ (b::_) _ _ _ _ _ _ _=>b
 |_=>s
def HL (K:Ag)(C B Y:Af)(ns:Y8):Ar:=i8 K C B Y&&(nQ K C&&(Lb K C&&(decide (De K (.ref C) "__setattr__" = Aa (Aa (.builtin "object.__setattr__")))&&((match Ru K C with|some Q=>decide (Q.mro=.ref C::.ref B::gO)&&Q.hasDict|none=>Yp)
 && (ns.all (λf=>decide (De K (.ref C) f=Aa Zw)&&(!(f == ("__debug__" : Ah))&&!(f == ("__classdict__" : Ah))))&&(!ns.isEmpty&&decide (ns.length<1000)))))))
inductive H_ (K:Ag)(st:Du)(C B:Af)(ns:Y8):Prop
 |mk {fI:Af} {oc:Ac} {od an:Al Af} {osl:Bs (Al Ac)} {kV doc pm cdv ct:Ac} {qual:Ah} (b:Br K Bi "FarError" = Aa (Aa (.ref B))) (i:De K (.ref C) "__init__" = Aa (Aa (.ref fI)))
  (l:K.lookup fI=Aa ⟨oc,od,.func (Fp "__init__" qual (xZ st) (zJ st) (qH st) .none kV doc pm an cdv ct),osl⟩) (c:Js K cdv qual=Vp) (k:Dd K (.ref fI)=Vp) (e:HL K C B fI ns=Vp):H_ K st C B ns
structure Z8 (st:Du)(ns:Y8):Prop where
 bd:∀ (q:Ah) (kV doc pm:Ac) (an:Al Af) (cdv ct:Ac) (us:Y0),us.length=(("self" : Ah)::ns).length->Tt (Fp "__init__" q (xZ st) (zJ st) (qH st) .none kV doc pm an cdv ct) ⟨us,[]⟩=pure ((("self" : Ah)::ns).zip us)
 sc:xi (("self" : Ah)::ns) (("self" : Ah)::ns) (qH st)=Vp
 ib:nq ns (zJ st)
structure FcK (K:Ag)(mg:J8)(x:Ah)(C:Af)(ns:Y8):Prop extends FcOk K mg x C ns where
 fk:∀ f∈ns,wt K C f
def AN {st:Du}(hm:mg x=Aa (.ref C))(g:sM K=Vp)(T:Z8 st ns)(F:H_ K st C B ns):FcK K mg x C ns:=by
 obtain⟨_,i,l,c,k,e⟩:=F;unfold HL at e;simp only[Ax,Bb] at e;obtain⟨w,G,H,A,J,o,O,L⟩:=e;have p:ol K C:=by unfold nQ at G;unfold sM at g;simp only[Ax,Bb] at G g;obtain⟨⟨⟨⟨⟨⟨j,y⟩,u⟩,M⟩,I⟩,E⟩,d⟩:=G;exact⟨j,y,u,g.1,g.2,M,I,E⟩
 have N:=lP (st:=st) l c k;have Q:∃ Q,Ru K C=Aa Q/\Q.mro=.ref C::.ref B::gO/\Q.hasDict=true:=by
  cases q:Ru K C with
  |none=>rw[q] at J;cases J
  |some Q =>
   rw[q] at J;have z:=Ct.mp J;exact⟨Q,Z,Bd z.1,z.2⟩
 have U:∀ f∈ns,De K (.ref C) f=Aa Zw/\(f == ("__debug__" : Ah))=Yp/\(f == ("__classdict__" : Ah))=false:=λf Y=>by have z:=Bg.mp o f Y;simp only[Ax,Bb,Jn] at z;exact z
 refine⟨⟨hm,⟨B,_,_,_,st,N,N.binds (T.bd _),m5 T.sc,T.ib,⟨Q,A⟩,w⟩,λf Y=>⟨(U f Y).1,(U f Y).2.1,(U f Y).2.2⟩,λz=>?_,L⟩,λf Y=>⟨p,H,(U f Y).1⟩⟩;rw[z] at O;cases O
abbrev vt (K:Ag)(mg:J8)(l:Ab (Ah × Af × Ab Ah)):Prop:=∀ e∈l,FcK K mg e.1 e.2.1 e.2.2
def LX:vt K mg []:=λ_ z=>nomatch z
def iO {st:Du}{l:Ab (Ah × Af × Ab Ah)}(T:Z8 st ns)(Q:K.In h)(G:h.Ns Bi mg)(q:Br K Bi x=Aa (Aa (.ref C)))(g:sM K=Vp)(F:H_ K st C B ns)(t:vt K mg l):vt K mg ((x,C,ns)::l):=List.forall_mem_cons.mpr ⟨AN (Kz Q G q) g T F,t⟩
section
variable {X:Cx}{e:Bl}{f:Ah}{p ai cb:Ea}{fa:DE}{fA:DA}{x:Ah}{C:Af}{aw:Ab Bl}{ns:Y8}{cm:Ar}
def qEO {l:Ab (Ah × Af × Ab Ah)}{y:Ah × Af × Ab Ah}(U:vt K mg l)(h:y∈l)(Q:Ck (y.2.2.contains f)):∀ C∈[y.2.1],wt K C f:=λC Y=>by rw[Bz.mp Y];exact(U y h).fk f (Ev.mp Q)
def qDn (Y:∀ C∈cl,wt X.K C f)(J:QE X e fa)(Q:Gc e f X.env (eval e X.env)=eval e X.env):QE X (.Attribute e f ai) (bE cl f fa):=⟨CB Y J.1 Q⟩
def qEI (h:ut X.K cl):gp X (.builtin "isinstance") (xT cl):=⟨NJ h⟩
def aRf (G:FcOk X.K X.mg x C ns)(Q:RoomC cm 2 X.A)(J:X.calm=Vp)(Y:Fn1 X)(h:Ck (oz X x))(U:QA X (e::aw) fA)(s:St1 X e aw cb):QS X (.Raise (Aa (.Call (.Name x p) (e::aw) [] cb)) Zw ai) (pY (.ref C) ns fA):=
 have h:=xH h
 ⟨UB J Q Y h.1 G U.1 h.2.1 s.1 s.2⟩
end
end _D
section
end
namespace _D
open _L _H
variable {J:J9}{E:J7}{K:Ag}{x y z:Ah}{s s':Ai}{j1 j2:Aj}{lo hi:Al Bl}{tg:Bl}{p q1 q2 cz cb:Ea}{P:Hp}{t:Km Fin}{Γ:Aac}
section
variable {X:Cx}
noncomputable def jK:DF:=λQ S=>match Q with
 |[.int i]=>if i.natAbs.log2<1920 then .ok (.str (toString i)) S else .bad
 |_=>.bad
def NM:wR X (.type "str") jK:=by
 intro O Y H s P J S L T B Q I r G N U;unfold jK at U;split at U;obtain⟨C,U⟩:=xD (X:=X) U;obtain⟨v,u,rfl,rfl,p,q⟩:=wW N G;exact i4 O s Y H _ _ Q I G ⟨_,by rw[xU p],C,xr U r (by simp only[am])⟩;exact Am U
noncomputable def bH:DF:=λQ S=>match Q with
 |[.str x]=>if x.length<=640 then match PySem.intText? x with
  |some n=>.ok (.int n) S
  |none=>.bad
  else .bad
 |_=>.bad
set_option tactic.hygienic true in
def NI:wR X (.type "int") bH:=by
 intro L Y H s P J S T A B Q I r O G U;unfold bH at U;split at U
 .obtain⟨C,U⟩:=xD (X:=X) U;split at U
  .rename_i n N;obtain⟨v,u,rfl,rfl,p,q⟩:=wW G O;simp only[am] at p;subst p;obtain⟨t,rfl⟩:=q;exact PySem.W.KIN.call_text N C ⟨.int n,H,I.tok _,⟨_,rfl⟩,xr U r (by simp only[am])⟩
  .exact Am U
 .exact Am U
def nX:D->Ab D->ag->ax D:=λa Q S=>match a,Q with
 |.str x,[.str y]=>if x.length<=bb then .ok (.str (Txt.removeprefix x y)) S else .bad
 |_,_=>.bad
def IS:sy X "str.removeprefix" nX:=by
 intro j Y H s P J S v T q o a L Q I r C p G N U;unfold nX at U;split at U;obtain⟨B,U⟩:=xD (X:=X) U;simp only[am] at p;subst p;obtain⟨t,rfl⟩:=C;obtain⟨w,u,rfl,rfl,O,q2⟩:=wW N G;simp only[am] at O;subst O;obtain⟨A,rfl⟩:=q2;exact SC.removeprefix (λM k=>⟨.str _,H,I.tok _,⟨_,rfl⟩,xr U r (by simp only[am])⟩) (by rw[<- zP];exact B);exact Am U
def iR:D->Ab D->ag->ax D:=λa Q S=>match a,Q with
 |.str x,[]=>.ok (.bl (Txt.isdecimal x)) S
 |_,_=>.bad
def IR:sy X "str.isdecimal" iR:=by
 intro L Y H s P J S v B T A a C Q I r O p G N U;unfold iR at U;split at U;simp only[am] at p;subst p;obtain⟨t,rfl⟩:=O;cases N.nil_inv;cases G;exact SC.isdecimal ⟨.bl _,H,I,rfl,xr U r (by simp only[am])⟩;exact Am U
theorem cQ:∀ l:Ab (Ah × Mx),qQ (l.map λp=>V.str p.1) (strValues l)
 |[]=>.nil
 |(x,t)::l=>.cons ⟨t,rfl⟩ (cQ l)
theorem cF:∀ l:Ab Ah,qJ K P J (l.map .str) (l.map .str)
 |[]=>.nil
 |x::l=>.cons (by simp only[am]) (cF l)
def y0:D->Ab D->ag->ax D:=λa Q S=>match a,Q with
 |.str x,[.str y]=>if x.length+2<=bb/\(y.length == 0)=Yp then .ok (.lst ((Txt.split x y).map .str)) S else .bad
 |_,_=>.bad
def KU {prog:Ba}{w:Bu}{A:Bp}{E:J7}{t u:Mx}{Q:J7}(G:(y.length == 0)=Yp)
  (h:∀ l k,l.map (·.1)=Txt.split x y->Q (.ref s.heap.objs.size) { s with heap:=s.heap.push { cls:=.type "list",data:=.seq (strValues l).toArray },toks:=k })
  (O:x.length+2<=sizeLine) :
  Ap (As prog w) A (call (.builtin "str.split") [.str x t,.str y u]) Q E s:=by
 have N:(Si x (Gu x y 0 x.length (x.length+1)) y.length).length<=sizeLine:=by have C:=StrLaws.occ_length_le x y 0 x.length (x.length+1);rw[length_partsBetween];fin2
 cases Y:(decide (x.length<y.length)||decide (Wn x<Wn y))
 .cases U:(Gu x y 0 x.length (x.length+1)).isEmpty
  .refine Jz Ta (Mb _ _ _) Rv (Qn _ _) (meets_str_split_sep x y t u Y G U om N) ?_;show wants Q E _ { s with toks:=_,heap:=s.heap.push { cls:=.type "list",data:=.seq (strsFrom s.toks (Si x (Gu x y 0 x.length (x.length+1)) y.length)).toArray } };rw[strsFrom_eq];exact h (numbered s.toks _) _ ((numbered_texts _ _).trans ((AT (Pu Y)).trans (AT (Pu U))).symm)
  .exact Jz Ta (Mb _ _ _) Rv (Qn _ _) (meets_str_split_not_found x y t u Y G U)
    (h [(x,t)] s.toks ((AT (Pu Y)).trans (Au U)).symm)
 .exact Jz Ta (Mb _ _ _) Rv (Qn _ _) (meets_str_split_cannot_occur x y t u Y)
   (h [(x,t)] s.toks (Au Y).symm)
set_option tactic.hygienic true in
def F2:sy X "str.split" y0:=by
 intro c Y H s P J S v j d m a M Q I r T p G N U;unfold y0 at U;split at U
 .rename_i x y;obtain⟨⟨B,C⟩,U⟩:=xD (X:=X) U;simp only[am] at p;subst p;obtain⟨t,rfl⟩:=T;obtain⟨w,u,rfl,rfl,O,q2⟩:=wW N G;simp only[am] at O;subst O;obtain⟨g,rfl⟩:=q2;rw[zP] at B;have f:=split_weight x y (by have:=C;simp at this;fin2);refine KU C (λl k e=>?_) B;have t':qJ X.K P J ((Txt.split x y).map .str) (l.map λp=>V.str p.1):=by
   rw[<- e,Dl];have:=cF (K:=X.K) (P:=P) (J:=J) (l.map (·.1));rw[Dl,Dl] at this;exact this
  refine⟨.ref s.heap.objs.size,_,I.laid (t':=k) (o:=.lst (l.map λp=>V.str p.1)) (λb A q=>Ak _ q) (Ay _) ⟨?_,strValues l,0,cQ l,Bf _ Z⟩,Z,wQ r (I.hok.fresh (Ay _)) t' U⟩;have L:=congrArg Gm e;rw[Ao] at L ⊢;fin2
 .exact Am U
noncomputable def gI:Ab D->Al (Ab Ah)
 |[]=>Aa []
 |.str x::Q=>(gI Q).map (x::·)
 |_=>Zw
theorem sC:∀ {ds:Ab D} {ys:Y8},gI ds=Aa ys->ds=ys.map .str
 |[],ys,h=>by cases h;rfl
 |.str x::ds,ys,h=>by
  simp only[gI,Eo] at h;obtain⟨Y,Q,rfl⟩:=h;rw[Ej,<- sC Q]
 |.non::_,_,h|.bl _::_,_,h|.int _::_,_,h|.ty _::_,_,h|.obj _::_,_,h|.tup _::_,_,h|.lst _::_,_,h|.dct0::_,_,h|.loc _::_,_,h|.exn _::_,_,h|.fd _ _::_,_,h|.clo _ _ _::_,_,h|.exl _ _ _::_,_,h=>by cases h
def KZ (ys:Y8):gI (ys.map .str)=Aa ys:=by
 induction ys with
 |nil=>rfl
 |cons y ys Q=>rw[Ej,gI,Q];rfl
theorem cN:∀ {ys:Y8} {vs:Ab V} {us:Y0},qJ K P J (ys.map .str) vs->qQ vs us->StrsAre us ys
 |[],vs,us,r,q=>by cases r.nil_inv;cases q;exact .nil
 |y::ys,vs,us,r,q=>by
  obtain⟨w,Y,rfl,p,t⟩:=r.cons_inv;simp only[am] at p;subst p;cases q with
  |cons q1 q2 =>
   obtain⟨Q,rfl⟩:=q1;exact .cons y Q (cN t q2)
def jM:D->Ab D->ag->ax D:=λa Y S=>match a,Y with
 |.str x,[d]=>match (lstM d S).bind gI with
  |some Q=>if (Q.map (·.length)).sum+Q.length*x.length<=bb then .ok (.str (Txt.join x Q)) S else .bad
  |none=>.bad
 |_,_=>.bad
set_option tactic.hygienic true in
def SA:sy X "str.join" jM:=by
 intro i Y H s P J S v g h us a l Q I r q p G N U;unfold jM at U;split at U
 .rename_i x d;cases O:(lstM d S).bind gI with
  |none=>rw[O] at U;exact Am U
  |some ys =>
   rw[O] at U;obtain⟨hl,U⟩:=xD (X:=X) U;obtain⟨e,o,L⟩:=Eg.mp O;have T:=sC L;subst T;simp only[am] at p;subst p;obtain⟨t,rfl⟩:=q;obtain⟨w,u,rfl,rfl,B,q2⟩:=wW N G;obtain⟨b,f,A,n,rfl,M,C,j,c⟩:=rJ I r o B;cases q2;exact PyProof.Rows.join_list (D:=b) (items:=A.toArray) (ys:=ys) ⟨_,j,rfl,n,rfl⟩ (by simpa using cN M C) (by have:=zP;unfold PySem.sizeLine at this;fin2)
    λm k=>⟨.str _,H,I.tok _,⟨_,Z⟩,xr U r (by simp only[am])⟩
 .exact Am U
def m9:G2:=λa b S=>match a,b with
 |.str x,.int k=>if x.length<=bb then match jm x.cps.toList k with
  |some c=>.ok (.str ⟨#[c]⟩) S
  |none=>.bad
  else .bad
 |_,_=>.bad
set_option tactic.hygienic true in
def qBE:Z6 X m9:=by
 intro T G L Y H s P J S v u C j a b Q I r A w N M U k;unfold m9 at U;split at U
 .obtain⟨B,U⟩:=xD (X:=X) U;split at U
  .rename_i c O;simp only[am] at N;subst N;exact IC T G L s Y H _ u C j Q I A w ⟨_,_,c,rfl,xU M,by rw[<- zP];exact B,O,xr U r (by simp only[am])⟩ k
  .exact Am U
 .exact Am U
noncomputable def xz (x y:Ah):Ar:=!(Gu y x 0 y.length 1).isEmpty
def nW (Q:Ar):G2:=λa b S=>match a,b with
 |.str x,.str y=>.ok (.bl (if Q then !xz x y else xz x y)) S
 |_,_=>.bad
def K5:il X (Cs .NotIn) (nW Vp):=il.of oP λH P J S x y a b Q r G U Y=>by
 unfold nW at Y;split at Y
 .simp only[am] at G U;exact⟨_,_,G,U,xr Y r (by simp only[am] <;> rfl)⟩
 .exact Am Y
def mB (d:D)(lo hi:Al Aq)(S:ag):ax D:=match d with
 |.str x=>if x.length<=bb then .ok (.str (Txt.slice x lo hi)) S else .bad
 |_=>.bad
def qC2 (X:Cx):V->Al Aq->Al Aq->Hp->VK->Prop:=λx lo hi H Q=>∃ P J S d,bf X.K H P J S/\am X.K P J d x/\qW X P J (mB d lo hi S) Q
def XM {lo:Al Aq}(p:Pk v lo):∃ l:Al (Aq × Mx),v=partValue l/\l.map (·.1)=lo:=by
 cases p with
 |none=>exact⟨Zw,rfl,rfl⟩
 |int i t=>exact⟨Aa (i,t),rfl,rfl⟩
def qBt:zt X (qC2 X):=by
 intro w s Y H x v j A lo hi q Q I C T pl L h;obtain⟨P,J,S,d,r,p,U⟩:=h;cases d with
 |str z =>
  obtain⟨O,U⟩:=xD (X:=X) U;simp only[am] at p;subst p;obtain⟨t,rfl⟩:=C;obtain⟨l,rfl,rfl⟩:=XM pl;obtain⟨u,rfl,rfl⟩:=XM L;obtain⟨o,N,G,B⟩:=T;refine⟨"str",_,F.slot_str_getitem.lookup,Mb _ _ _,Tl (l:=l) (u:=u) (st:=Zw) ⟨o,N,G,B⟩ rfl
   (post_val_or_str ⟨Ca (Txt.slice_le z _ _) (by rw[<- zP];exact O),λM k=>⟨.str _,H,I.tok _,⟨_,Z⟩,xr U r (by simp only[am];rfl)⟩⟩)⟩
 |_=>exact Am U
def yP (fe:DE)(N G:DO):DE:=λQ S=>(fe Q S).bind λd Y=>(N Q Y).bind λlo O=>(G Q O).bind λhi U=>mB d lo hi U
def UA (he:PE X e (tD X fe))(hl:PO X lo (xt X I))(hu:PO X hi (xt X L)):PE X (.Subscript e (.Slice lo hi Zw h) ai) (tD X (yP fe I L)):=
 rh (oS qBt he hl hu) λY H Q ⟨P,J,O,S,r,f,af⟩=>by
  refine⟨P,J,O,S,r,f,?_⟩;have N:qL X P J ((fe O S).bind λd T=>(I O T).bind λlo B=>(L O B).bind λhi C=>mB d lo hi C) (gy X P J Q):=af;cases q:fe O S with
  |bad=>rw[q] at N;exact N
  |ex c x b=>rw[q] at N;exact N
  |ok d T =>
   rw[q] at N;intro v H1 o n r1 k m rp;refine⟨o,n,O,T,r1,f.mono k m,?_⟩;have U:qL X o n ((I O T).bind λlo B=>(L O B).bind λhi C=>mB d lo hi C) (gy X o n Q):=qW.base k m N;cases q2:I O T with
   |bad=>rw[q2] at U;exact U
   |ex c x b=>rw[q2] at U;exact U
   |ok l B =>
    rw[q2] at U;intro H2 M A r2 w j;refine⟨M,A,O,B,r2,(f.mono k m).mono w j,?_⟩;have G:qL X M A ((L O B).bind λhi C=>mB d l hi C) (gy X M A Q):=qW.base w j U;cases g:L O B with
    |bad=>rw[g] at G;exact G
    |ex c x b=>rw[g] at G;exact G
    |ok u C =>
     rw[g] at G;intro H3 P3 J3 r3 i a;exact⟨P3,J3,C,d,r3,am.mono (w.trans i) (j.trans a) _ _ rp,qW.base i a G⟩
def Its (x:Ah):It:=⟨λi _=>i<x.cps.size,λi H v Q=>Q=H/\∃ c,x.cps[i]? = Aa c/\v=.str ⟨#[c]⟩,λi _=>x.cps.size<=i⟩
theorem ME {P:Ba}(it:Af)(x:Ah)(t:Mx):oh P w K tg (Its x) [it] it (λi h=>h.IsStrIter it "str_ascii_iterator" x t i) where
 mem:=by simp
 obj:=λi h st b Q=>by
  have e:b=it:=by simpa using Q
  subst e;obtain⟨o,e,c,d⟩:=st;exact⟨o,e,λv z=>by rw[d] at z;cases z⟩
 keep:=λi h N st k=>let ⟨o,e,r⟩:=st;⟨o,k it aA o e,r⟩
 item:=by intro X j M C O i f s Y H E I G st l;subst j M C;obtain⟨q,B,f2,A,T,L⟩:=G it aA;have W:=Walks.strAscii (prog:=X.prog) (w:=X.w) (I.ok.hd O) it x t;refine W.item i s _ _ l st λv N g hv U m=>?_;obtain⟨c,u,hx,rfl⟩:=hv;have I1:Inv X f Y H { s with heap:=N,toks:=g }:=I.turned (λb o Q e=>m b o (by simpa using Q) e) q B A T L;obtain⟨o,e,a,d⟩:=id U;exact⟨_,rfl,a9 (s:={ s with heap:=N,toks:=g }) (n:="str_ascii_iterator") e a d aC ⟨.str ⟨#[c]⟩,H,I1,⟨u,rfl⟩,⟨rfl,c,hx,rfl⟩,U,λb Q=>(G b Q).1⟩⟩
 done:=by intro X j M C O i f s Y H E I G st l;subst j M C;obtain⟨q,B,f2,A,T,L⟩:=G it aA;exact wpAny_pyNext_ascii_end (I.ok.hd O) st (Kx l) λN eb=>⟨Z,I.turned (t':=s.toks) (λb o Q e=>eb b o Q e) q B A T L⟩
 self:=λ_ _ _ _ _ st h=>wpAny_pyIter_striter_ascii st h
def y9 (x:Ah):Ab D:=x.cps.toList.map λc=>.str ⟨#[c]⟩
def DD:wq K (Its x) P J (y9 x) where
 go:=λi H Q Y S hi r e _=>by show i<x.cps.size;simpa [y9] using hi
 yld:=λi H v N Q Y S hi r e G y=>by obtain⟨rfl,c,U,rfl⟩:=y;exact⟨Q,.str ⟨#[c]⟩,by simp only[y9,Er,By,U];rfl,r,qO.refl _,by simp only[am]⟩
 stop:=λi H Q Y S hi r e _=>by show x.cps.size<=i;simpa [y9] using hi
def KN:D->Al (Ab D)
 |.str x=>if x.cps.all (· < 128) then Aa (y9 x) else Zw
 |_=>Zw
def kH (f:DE):DI:=λY S=>(f Y S).bind λd Q=>vO (KN d) Q
set_option tactic.hygienic true in
def PV (G:PE X e (tD X O)):PI X tg e (vy X (kH O)):=by
 intro l s Y H R I h;obtain⟨P,J,j,S,r,T,C⟩:=h;refine bi (zO G I r T C) λk U ⟨v,B,L,M,d,w,G1,N⟩=>?_;obtain⟨u,Q,q⟩:=vT N;have q:=q.base G1.same G1.pre;cases d with
 |str x =>
  simp only[KN] at Q;split at Q
  .rename_i G;cases Q;have p:=G1.rep;simp only[am] at p;subst p;obtain⟨t,rfl⟩:=G1.val;have I:=G1.inv;refine Xb G ?_;refine⟨U.heap.objs.size,[U.heap.objs.size],_,_,B,rfl,I.kept (t':=U.toks) λb o e=>Ak _ e,ME _ x t,⟨_,Bf _ rfl,rfl,rfl⟩,λb A=>?_,q _ _ L M G1.rel (qO.refl _) (Bm _) DD⟩;have e:b=U.heap.objs.size:=by simpa using A
   subst e;exact I.fpOk (Ay _) (I.hok.fresh (Ay _))
  .cases Q
 |_=>cases Q
end
section
variable {M:Nq}
def cH {fs:Ab Frame}(h:Runs M Γ p t fs s e s'):s.toks<=s'.toks:=by
 induction h with
 |done=>exact Ay _
 |raise=>exact Ay _
 |yield=>exact Ay _
 |fresh _ Y=>exact Nat.le_of_succ_le Y
 |call _ _ Q i2=>exact Ca Q i2
 |resumeFresh _ _ _ _ Q i2=>exact Ca Q i2
 |resumeSuspended _ _ _ _ Q i2=>exact Ca Q i2
 |segRet _ _ Q i2=>exact Ca Q i2
 |segGen _ _ Q i2=>exact Ca Q i2
 |segSuspGen _ _ _ _ Q i2=>exact Ca Q i2
 |_=>assumption
def dR {fs:Ab Frame}{x y:Tr}(h:Runs M Γ p t fs (s.setGen g x) e s'):s.toks<=(s'.setGen Q y).toks:=cH (s:=s.setGen g x) (s':=s') h
def VO (h:Wakes M Γ p g r s G s'):s.toks<=s'.toks:=by
 unfold Wakes at h;split at h;exact h.elim
 .split at h
  .obtain⟨Y,Q,U,_,_,rfl⟩:=h;exact dR U
  .obtain⟨_,rfl⟩:=h;exact Ay _
  .obtain⟨_,rfl⟩:=h;exact Ay _
 .obtain⟨Y,Q,U,_,_,rfl⟩:=h;exact dR U
 .obtain⟨_,rfl⟩:=h;exact Ay _
 .obtain⟨_,rfl⟩:=h;exact Ay _
def WG {J:Type}{n:Aj}:∀ (t:Km J) {Q:J->Ea->Ai->Prop} {E:Ac->Ea->Ai->Prop} {p:Ea} {s:Ai},n<=s.toks->Sem.wp M Γ t Q E p s->Sem.wp M Γ t (λa L s'=>Q a L s'/\n<=s'.toks) E p s:=by
 intro t
 induction t with
 |pure a=>intro Q E p s Y h;exact⟨h,Y⟩
 |raise e=>intro Q E p s Y h;exact h
 |unsupported w=>intro Q E p s Y h;exact h
 |finish e=>intro Q E p s Y h;exact h
 |rule I k U=>intro Q E p s Y h;exact U () Y h
 |«at» q k U=>intro Q E p s Y h;exact U () Y h
 |load a C k U=>intro Q E p s Y h;obtain⟨o,G,N⟩:=h;exact⟨o,G,U o Y N⟩
 |update a C f k U=>intro Q E p s Y h;exact⟨h.1,U () Y h.2⟩
 |alloc o k U=>intro Q E p s Y h;exact U _ Y h
 |loadIfAlive a k U=>intro Q E p s Y h;exact U _ Y h
 |point l k U=>intro Q E p s Y h;exact U _ Y h
 |register a k U=>intro Q E p s Y h;exact h
 |fresh k U=>intro Q E p s Y h;exact U _ (Nat.le_succ_of_le Y) h
 |ask k U=>intro Q E p s Y h;exact U _ Y h
 |choose T m k U=>intro Q E p s Y h;exact⟨h.1,U _ Y h.2⟩
 |os q l k U=>intro Q E p s Y h;exact U _ Y h
 |call c H g l k U=>intro Q E p s Y h;obtain⟨r,s',G,N⟩:=h;exact⟨r,s',G,U r (Ca Y (cH G)) N⟩
 |handled B k U=>intro Q E p s Y h;exact U _ Y h
 |newGen c k U=>intro Q E p s Y h;exact U _ Y h
 |genState g k U=>intro Q E p s Y h;obtain⟨st,G,N⟩:=h;exact⟨st,G,U _ Y N⟩
 |resume g r l k U=>intro Q E p s Y h;obtain⟨O,s',G,N⟩:=h;exact⟨O,s',G,U O (Ca Y (VO G)) N⟩
 |yield v g l k U=>intro Q E p s Y h;exact h
 |stack k U=>intro Q E p s Y h;exact U _ Y h
 |fork c k U=>intro Q E p s Y h;exact h
 |thread k U=>intro Q E p s Y h;exact U _ Y h
 |_=>intro Q E p s Y h;exact h
def VR {J:Type}{t:Km J}{Q:J->Ai->Prop}{n:Aj}(U:n<=s.toks)(h:Ap M A t Q E s):Ap M A t (λa s'=>Q a s'/\n<=s'.toks) E s:=λΓ p Y=>WG t U (h Γ p Y)
end
section
variable {X:Cx}{b e:Bl}{ai p1:Ea}{fa:DE}{g:DA}
def ER (X:Cx)(e:Bl):Prop:=∀ (A:Bp) (Q:J7) (E:J7) (s:Ai),Ap (As X.prog X.w) A (eval e X.env) Q E s->Ap (As X.prog X.w) A (eval e X.env) (λu s'=>Q u s'/\1<=s'.toks) E s
def GV {op:dL}:ER X (.BinOp (.Constant (.str x) j p1) op b ai):=by intro A Q E s h Γ p Y;have U:=h Γ p Y;rw[arm_eval_BinOp,Sem.wp_bind'] at U ⊢;exact WG (n:=1) _ (s:={ s with toks:=s.toks+1 }) (Nat.le_add_left 1 _) U
def fZ (y z:Ah)(U:DE):DE:=λY S=>(U Y S).bind λd Q=>match d with
 |.str x=>if x.length+(x.length+1)*z.length<=bb then .ok (.str (Txt.replace x y z)) Q else .bad
 |_=>.bad
def CL (A:PE X o (tD X T))(C:(y == z)=Yp)
  (G:Gc o "replace" X.env (eval o X.env)=eval o X.env) (N:(cz.endLine == cb.line)=Vp)
  {aa:J0} {s:Ai} {Y : _L.St} {H:Hp} {Q:VK} (j:1<=s.toks) (I:Inv X aa Y H s) (h:tD X (fZ y z T) Y H Q) :
  a8 X (eval (.Call (.Attribute o "replace" cz) [.Constant (.str y) j1 q1,.Constant (.str z) j2 q2] [] cb) X.env) (EP X aa Y Q) X.xe s:=by
 obtain⟨P,J,c,S,r,q,M⟩:=h;refine TW G rfl N rfl (bi (VR j (zO A I r q M)) λf B ⟨⟨v,w,m,i,d,l,G1,U⟩,O⟩=>?_);cases d with
 |str x =>
  obtain⟨L,U⟩:=xD (X:=X) U;have p:=G1.rep;simp only[am] at p;subst p;obtain⟨t,rfl⟩:=G1.val;refine⟨"str",_,F.plainAttrs_str,F.slot_str_replace,F.type_str_replace,Mb _ _ _,(λ_ e=>nomatch e),?_⟩;refine NE rfl (Lu ?_);show Ap _ _ (spliced [(Yp,eval (.Constant (.str y) j1 q1) X.env),(Yp,eval (.Constant (.str z) j2 q2) X.env)]) _ _ _;refine Hq (Qj (Hq (Qj (Lc ?_))));exact SC.replace (u:=B.toks) (v:=B.toks+1) (Hl O) (Nat.succ_ne_zero _) (Cm (Fv _)) C (by have:=zP;unfold bb at L;exact L) λn k=>⟨.str _,w,G1.inv.tok _,⟨_,rfl⟩,xr (qW.base G1.same G1.pre U) G1.rel (by simp only[am])⟩
 |_=>exact Am U
def HS {γ:Type}{f:DE}{g:D->ag->ax γ}{Ok:γ->ag->Prop}{aa:J0}{Y:_L.St}{H:Hp}{ac:qF}{S:ag}{m:Km Ac}
  (n:∀ Q:VK,tD X f Y H Q->a8 X m (EP X aa Y Q) X.xe s) (r:bf X.K H P J S) (I:zK X.K P J Y ac) (U:qL X P J ((f ac S).bind g) Ok) :
  a8 X m (λu L=>yj X aa Y ac P J u L g Ok) X.xe s:=by
 refine bi (n (λv C=>∃ G N d O,bf X.K C G N O/\zK X.K G N Y ac/\am X.K G N d v/\qO P G/\J<+:N/\qL X P J (g d O) Ok) ⟨P,J,ac,S,r,I,?_⟩) λu L ⟨v,C,w,i,G,N,d,O,q1,q2,l,M,q5,j⟩=>⟨v,C,G,N,d,O,⟨w,i,q1,q2,l,M,q5⟩,j⟩;cases q:f ac S with
 |bad=>rw[q] at U;exact U
 |ex c x T=>rw[q] at U;exact U
 |ok d T =>
  rw[q] at U;exact λv H' h o r' B A k=>⟨h,o,d,T,r',I.mono B A,k,B,A,U⟩
def HW (hb:ER X e)(f:PE X e (tD X fa))(k:PE X o (tD X B))(j:(y == z)=Yp)
  (G:Gc o "replace" X.env (eval o X.env)=eval o X.env) (N:(cz.endLine == cb.line)=Vp)
  (hs:Bj [e,.Call (.Attribute o "replace" cz) [.Constant (.str y) j1 q1,.Constant (.str z) j2 q2] [] cb] X.env=(Yp,eval e X.env)::Bj [.Call (.Attribute o "replace" cz) [.Constant (.str y) j1 q1,.Constant (.str z) j2 q2] [] cb] X.env:=by rfl) :
  PA X [e,.Call (.Attribute o "replace" cz) [.Constant (.str y) j1 q1,.Constant (.str z) j2 q2] [] cb] (kz X (qA fa (qA (fZ y z B) qC))):=by
 intro ai aa s Y H Q I h;obtain⟨P,J,A,S,r,n,l⟩:=h;rw[hs];show Ap _ _ (spliced ((Yp,eval e X.env)::(Yp,eval _ X.env)::[])) _ _ s;refine Hq (bi (hb _ _ _ _ (zO f I r n l)) λu s1 ⟨⟨x,H1,L,T,d,O,G1,U⟩,m⟩=>?_);have U:qL X L T (((fZ y z B A O).bind λx O=>ax.ok [x] O).bind λi C=>.ok (d::i) C) (Z4 X L T Q):=gT.base G1.same G1.pre U;have M:qL X L T ((fZ y z B A O).bind λx C=>ax.ok [d,x] C) (Z4 X L T Q):=by
  cases q:fZ y z B A O with
  |bad=>rw[q] at U;exact U
  |ex c x S'=>rw[q] at U;exact U
  |ok d' C=>rw[q] at U;exact U
 refine Hq (bi (HS (λQ' q=>CL k j G N m G1.inv q) G1.rel G1.env M) λu2 s2 ⟨v,H2,P2,J2,d2,C,G2,w⟩=>Lc ?_);exact⟨[x,v],H2,G2.inv,.cons G1.val (.cons G2.val .nil),w _ _ _ _ G2.rel G2.same G2.pre (.cons (am.mono G2.same G2.pre _ _ G1.rep) (.cons G2.rep .nil))⟩
end
def lR:G2:=λd k S=>match d,k with
 |.str x,.int k=>if k≠0/\x.length<=bb then .ok (.str (Txt.sliceBy x Zw Zw (k,0))) S else .bad
 |_,_=>.bad
def pH (fe Q:DE):DE:=d2 lR fe Q
section
variable {X:Cx}{b e ek o:Bl}{fa fe fk fo:DE}{p2 ai p1:Ea}
def PQ (f:PE X e (tD X fe))(j:PE X ek (tD X fk)):PE X (.Subscript e (.Slice Zw Zw (Aa ek) p2) ai) (tD X (pH fe fk)):=by
 intro m s Y H Q I h;obtain⟨P,J,A,S,r,i,g⟩:=h;have B:qL X P J ((fe A S).bind λd L=>(fk A L).bind λk M=>lR d k M) (gy X P J Q):=g;refine Vx (bi (zO f I r i B) λv s1 ⟨x,H1,P1,J1,d,L,G1,C⟩=>?_);refine wpAny_Slice ?_;rw[Vw];refine An (An ?_);rw[evalPart_some];refine bi (zO j G1.inv G1.rel G1.env (qW.base G1.same G1.pre C)) λvk N ⟨y,w,P2,J2,k,M,G2,U⟩=>?_;have U:=qW.base G2.same G2.pre U;cases d with
 |str x =>
  cases k with
  |int k =>
   obtain⟨G,U⟩:=xD (X:=X) U;have p:=G1.rep;simp only[am] at p;subst p;obtain⟨t,rfl⟩:=G1.val;have T:=G2.rep;simp only[am] at T;subst T;obtain⟨O,rfl⟩:=G2.val;have n:Inv X m Y w { N with heap:=N.heap.push { cls:=.type "slice",data:=.fields #[.none,.none,.int k O] } }:=G2.inv.kept (t':=N.toks) λb ob q=>Ak _ q;refine tail_any (ops:=[.ref N.heap.objs.size,.str x t]) (s:={ N with heap:=N.heap.push { cls:=.type "slice",data:=.fields #[.none,.none,.int k O] } }) (Mb _ _ _) PySem.F.slot_str_getitem.lookup ?_ (by with_unfolding_all rfl);exact Tl (l:=Zw) (u:=Zw) (st:=Aa (k,O)) ⟨_,Bf _ Z,Z,Z⟩ (by simpa using G.1)
    (post_val_or_str ⟨Ca (Txt.sliceBy_le x Zw Zw (k,O) G.1) (by rw[<- zP];exact G.2),λt' c=>⟨.str _,w,n.tok _,⟨_,Z⟩,xr U G2.rel (by simp only[am];rfl)⟩⟩)
  |_=>exact Am U
 |_=>exact Am U
def qEN:gp X (.type "str") jK:=⟨NM⟩
def qEH:gp X (.type "int") bH:=⟨NI⟩
def qE0:ub X "str.removeprefix" nX:=⟨IS⟩
def qEp:ub X "str.isdecimal" iR:=⟨IR⟩
def qDV:ub X "str.split" y0:=⟨F2⟩
def qEJ:ub X "str.join" jM:=⟨SA⟩
def qEt:_r X m9:=⟨qBE⟩
def qDB:ZOp X (Cs .NotIn) (nW Vp):=⟨K5⟩
def qB5 (N:QE X e fe)(G:QO X lo Q)(U:QO X hi Y):QE X (.Subscript e (.Slice lo hi Zw p2) ai) (yP fe Q Y):=⟨UA N.1 G.1 U.1⟩
def qCo (Y:QE X e fe)(Q:QE X ek fk):QE X (.Subscript e (.Slice Zw Zw (Aa ek) p2) ai) (pH fe fk):=⟨PQ Y.1 Q.1⟩
def qCr (Q:QE X e fa):QI X tg e (kH fa):=⟨PV Q.1⟩
def qDh {j j1 j2:Aj}{op:dL}{q1 q2:Ea}(N:QE X (.BinOp (.Constant (.str x) j p1) op b ai) fa)(G:QE X o fo)(U:(y == z)=Yp)
  (Q:Gc o "replace" X.env (eval o X.env)=eval o X.env:=by rfl) (Y:(cz.endLine == cb.line)=true:=by rfl)
  (hs:Bj [.BinOp (.Constant (.str x) j p1) op b ai,.Call (.Attribute o "replace" cz) [.Constant (.str y) j1 q1,.Constant (.str z) j2 q2] [] cb] X.env=(Yp,eval (.BinOp (.Constant (.str x) j p1) op b ai) X.env)::Bj [.Call (.Attribute o "replace" cz) [.Constant (.str y) j1 q1,.Constant (.str z) j2 q2] [] cb] X.env:=by rfl) :
  QA X [.BinOp (.Constant (.str x) j p1) op b ai,.Call (.Attribute o "replace" cz) [.Constant (.str y) j1 q1,.Constant (.str z) j2 q2] [] cb] (qA fa (qA (fZ y z fo) qC)):=
 ⟨HW GV N.1 G.1 U Q Y hs⟩
end
end _D
namespace _D
open _L
variable {x:Ah}{d:D}{t:Mx}
noncomputable def yZ (d:D)(S:ag):Al (Af × Ab (Ah × D)):=match d with
 |.loc i=>match S[i]? with
  |some (.ins C Q)=>Aa (C,Q)
  |_=>Zw
 |_=>Zw
noncomputable def tS (f:Ah)(d:D):Ab (Ah × D)->Ab (Ah × D)
 |[]=>[(f,d)]
 |(g,x)::r=>if g=f then (g,d)::r else (g,x)::tS f d r
section
variable {K:Ag}{H P:Hp}{J: Ab Af}{S:ag}
def pO {C:Af}{fs:Ab (Ah × D)}(r:bf K H P J S)(p:am K P J d v)(h:yZ d S=Aa (C,fs)):∃ i a Q vs,d=.loc i/\v=.ref a/\J[i]? = Aa a/\S[i]? = Aa (.ins C fs)/\H a=Aa (.ins C Q vs)/\u_ K P J fs vs:=by
 cases d with
 |loc i =>
  simp only[yZ] at h;cases q:S[i]? with
  |none=>rw[q] at h;cases h
  |some m =>
   rw[q] at h;cases m with
   |ins G U =>
    cases h;simp only[am] at p;obtain⟨a,rfl,Y⟩:=p;obtain⟨Q,vs,e,t⟩:=r.at' i a _ Y q;exact⟨i,a,Q,vs,rfl,rfl,Y,q,e,t⟩
   |_=>cases h
 |_=>cases h
set_option tactic.hygienic true in
theorem iX {x:D}:∀ {fs:Ab (Ah × D)} {vs:Ab (Ah × V)},u_ K P J fs vs->fs.lookup f=Aa x->∃ v,vs.lookup f=Aa v/\am K P J x v
 |[],_,_,h=>by cases h
 |(g,y)::fs,vs,t,h=>by
  cases t with
  |cons O N =>
   rename_i q G;obtain⟨C,w⟩:=q;obtain⟨Q,Y⟩:=O;simp only at Q Y;subst Q;rw[En] at h ⊢;cases U:f == g with
   |true=>rw[U] at h;cases h;exact⟨w,rfl,Y⟩
   |false=>rw[U] at h;exact iX N h
set_option tactic.hygienic true in
theorem l7:∀ {fs:Ab (Ah × D)} {vs:Ab (Ah × V)},u_ K P J fs vs->fs.lookup f=Zw->vs.lookup f=Zw
 |[],vs,t,_=>by cases t;rfl
 |(g,y)::fs,vs,t,h=>by
  cases t with
  |cons O G =>
   rename_i q U;obtain⟨C,w⟩:=q;obtain⟨Q,N⟩:=O;simp only at Q N;subst Q;rw[En] at h ⊢;cases Y:f == g with
   |true=>rw[Y] at h;cases h
   |false=>rw[Y] at h;exact l7 G h
end
def yJ (C:Af)(f:Ah):D->ag->ax D:=λd S=>match yZ d S with
 |some (Y,Q)=>if Y=C then match Q.lookup f with
  |some x=>.ok x S
  |none=>.bad
  else .bad
 |none=>.bad
def D2 {X:Cx}{S:ag}{P:Hp}(h:qW X P J (yJ C f d S) Q):∃ fs x,yZ d S=Aa (C,fs)/\fs.lookup f=Aa x/\gy X P J Q x S:=by
 unfold yJ at h;cases q:yZ d S with
 |none=>rw[q] at h;exact Am h
 |some p =>
  obtain⟨G,fs⟩:=p;rw[q] at h;obtain⟨e,Y⟩:=xD (X:=X) h;subst e;clear h;cases U:fs.lookup f with
  |none=>rw[U] at Y;exact Am Y
  |some x=>rw[U] at Y;exact⟨fs,x,rfl,U,Y⟩
section
variable {X:Cx}{e o:Bl}{fe fo:DE}{fa:DA}{C:Af}{f m:Ah}{ai cz:Ea}{es:Ab Bl}{F:DF}{cm:Ar}{k n:Aj}
def CC (c:ue X.K C)(nf:vX X.K C f)(T:PE X e (tD X fe))(z:Gc e f X.env (eval e X.env)=eval e X.env):PE X (.Attribute e f ai) (tD X (d1 (yJ C f) fe)):=by intro aa s Y H Q I h;obtain⟨P,J,g,S,r,A,B⟩:=h;refine zh z (bi (zO T I r A B) λu b ⟨v,L,P1,J1,d,p,G1,G⟩=>?_);obtain⟨l,x,y,O,q⟩:=D2 (qW.base G1.same G1.pre G);obtain⟨i,a,dx,vs,rfl,rfl,qa,_,E,t⟩:=pO G1.rel G1.rep y;obtain⟨w,N,U⟩:=iX t O;obtain rfl:u=Cc a:=G1.val;exact _s G1.inv E c nf N λu' s2 M j=>⟨w,L,M,j,xr q G1.rel U⟩
def WN (P:Ba)(w:Bu)(K:Ag)(mg:J8)(base:Bc)(cm:Ar)(k:Aj)(C:Af)(m:Ah)(n:Aj)(F:DF):Prop:=
 ∃ g Y Q,Q.length=n/\yh K C m g/\yM K Y Q [] /\ sd P w K mg base cm k g Y Q (wz K n F)
def xJ (C:Af)(m:Ah)(n:Aj)(F:DF)(fo:DE)(fa:DA):DE:=λY S=>(fo Y S).bind λd Q=>match yZ d Q with
 |some (G,U)=>if G=C/\U.lookup m=Zw then (fa Y Q).bind λJ N=>if (d::J).length=n then F (d::J) N else .bad else .bad
 |none=>.bad
def iH {γ:Type}{S:ag}{r:ax γ}{P:Hp}{Ok:γ->ag->Prop}(h:qL X P J (match yZ d S with|some (Q,fs)=>(if Q=C/\fs.lookup m=Zw then r else .bad)|none=>.bad) Ok):∃ fs,yZ d S=Aa (C,fs)/\fs.lookup m=Zw/\qL X P J r Ok:=by
 cases q:yZ d S with
 |none=>rw[q] at h;exact Am h
 |some p =>
  obtain⟨Q,fs⟩:=p;rw[q] at h;by_cases z:Q=C/\fs.lookup m=Zw;obtain⟨rfl,Y⟩:=z;have h:qL X P J (if Q=Q/\fs.lookup m=Zw then r else .bad) Ok:=h;rw[Au ⟨Z,Y⟩] at h;exact⟨fs,Z,Y,h⟩;have h:qL X P J (if Q=C/\fs.lookup m=Zw then r else .bad) Ok:=h;rw[AT z] at h;exact Am h
def L0 {pl:Km Ar}(c:ue X.K C)(M:WN X.prog X.w X.K X.mg X.base cm k C m n F)(l:RoomC cm k X.A)(hF:Fn1 X)(ho:PE X o (tD X fo))(ha:PA X (e::es) (kz X fa))
  (T:Bj (e::es) X.env=(Yp,eval e X.env)::Bj es X.env:=by rfl) (A:(Fh ai (Bj es X.env)).any (·.1)=false:=by rfl)
  (ht:eval (.Call (.Attribute o m cz) (e::es) [] ai) X.env=(do
   let ov <- eval o X.env
   Mc cz.atName
   let (f,first) <- holding [ov] (Ra ov m pl)
   Wv ai f first (Fh ai (Bj (e::es) X.env)) (TD ai (Om [] X.env))):=by rfl) :
  PE X (.Call (.Attribute o m cz) (e::es) [] ai) (tD X (xJ C m n F fo fa)):=by
 obtain⟨g,fd,ps,hn,q,hb,G⟩:=M;intro aa s Y H Q I h;obtain⟨P,J,ac,S,r,re,af⟩:=h;refine Uy (pl:=pl) (bi (zO ho I r re af) λu s1 ⟨v,H1,P1,J1,d,S1,G1,E⟩=>?_) ht;obtain⟨fs,h1,b,B⟩:=iH (qW.base G1.same G1.pre E);have rd:=G1.rep;obtain⟨i,a,dx,vs,rfl,rfl,qa,_,ea,t⟩:=pO G1.rel rd h1;obtain rfl:u=Cc a:=G1.val;refine lS G1.inv ea c q (l7 t b) ?_;refine My (first:=[.ref a]) (h₀:=X.base) G1.inv.ok.mod.kin q.kp (bi (yE ha G1.inv G1.rel G1.env B ai) λus s2 ⟨N,H2,P2,J2,ds,S2,j,rv,r2,p,O,z,y,L⟩=>⟨j.kIn,?_⟩) T A;have U:=qW.base z y L;by_cases w:(D.loc i::ds).length=n;rw[Au w] at U;exact pW G l hb (us:=.ref a::us) (vs:=.ref a::N) j r2 (.cons Z rv) (.cons (am.mono z y _ _ rd) O) w U;rw[AT w] at U;exact Am U
def PN {pl:Km Ar}(c:ue X.K C)(M:WN X.prog X.w X.K X.mg X.base cm k C m n F)(q:RoomC cm k X.A)(hF:Fn1 X)(w:PE X o (tD X fo))
  (b:eval (.Call (.Attribute o m cz) [] [] ai) X.env=(do
   let ov <- eval o X.env
   Mc cz.atName
   let (f,first) <- holding [ov] (Ra ov m pl)
   Wv ai f first (Fh ai (Bj [] X.env)) (TD ai (Om [] X.env))):=by rfl) :
  PE X (.Call (.Attribute o m cz) [] [] ai) (tD X (xJ C m n F fo qC)):=by
 obtain⟨g,fd,ps,hn,E,j,G⟩:=M;intro aa s Y H Q I h;obtain⟨P,J,ac,S,r,l,p⟩:=h;refine Uy (pl:=pl) (bi (zO w I r l p) λu s1 ⟨v,H1,L,T,d,y,G1,B⟩=>?_) b;obtain⟨fs,h1,A,N⟩:=iH (qW.base G1.same G1.pre B);have rd:=G1.rep;obtain⟨i,a,dx,vs,rfl,rfl,qa,_,z,t⟩:=pO G1.rel rd h1;obtain rfl:u=Cc a:=G1.val;refine lS G1.inv z c E (l7 t A) ?_;have U:qL X L T (if ([D.loc i]).length=n then F [.loc i] y else .bad) (gy X L T Q):=N;by_cases O:([D.loc i]).length=n
 .rw[Au O] at U;exact Wp (first:=[.ref a]) G1.inv.kIn E.kp (pW G q j (us:=[.ref a]) (vs:=[.ref a]) G1.inv G1.rel (.cons Z .nil) (.cons rd .nil) O U)
 .rw[AT O] at U;exact Am U
noncomputable def bF (C:Af)(F:DF):DE:=λ_ S=>match F [.loc S.length] (S++[.ins C []]) with
 |.ok .non Q=>.ok (.loc S.length) Q
 |_=>.bad
def PY {S:ag}{P:Hp}(h:qW X P J (bF C F ac S) Q):∃ S1,F [.loc S.length] (S++[.ins C []]) = .ok .non S1/\gy X P J Q (.loc S.length) S1:=by
 unfold bF at h;cases q:F [.loc S.length] (S++[.ins C []]) with
 |bad=>rw[q] at h;exact Am h
 |ex c x Y=>rw[q] at h;exact Am h
 |ok d S1 =>
  rw[q] at h;cases d with
  |non=>exact⟨S1,rfl,h⟩
  |_=>exact Am h
def GN (P:Ba)(w:Bu)(K:Ag)(mg:J8)(base:Bc)(k:Aj)(C:Af)(F:DF):Prop:=
 ∃ g Y Q,Q.length=1/\Mk K C g/\yM K Y Q [] /\ sd P w K mg base Vp k g Y Q (wz K 1 F)
def PM {p:Ea}(M:GN X.prog X.w X.K X.mg X.base k C F)(N:RoomC Vp (k+1) X.A)(hg:Gl X x)(hm:X.mg x=Aa (.ref C))(L:(x == ("__debug__" : Ah))=false:=by decide) :
  PE X (.Call (.Name x p) [] [] ai) (tD X (bF C F)):=by
 obtain⟨g,fd,ps,hn,mk,y,G⟩:=M;intro aa s Y H Q I h;obtain⟨P,J,ac,S,r,re,b⟩:=h;obtain⟨S1,e,ok⟩:=PY b;refine Hr (y8 I hg hm ?_ L);refine Wp I.kIn mk.kp (FU (us:=[]) (vs:=[]) (U_:=[]) (ds:=[]) (E:=λ_ _ _=>Fz) mk G.ok ⟨N.hd rfl,N.dp,N.un,N.gd⟩ y .nil ?_ I .nil λx B c O z=>?_);intro aa Y H s u s' _ q;obtain⟨_,_,_,_,_,_,_,_,_,_,_,_,q⟩:=q;exact Am q
 .have a:=r.grow (f9 (o:=.own x) O);have w:bf X.K (bz (bz H B (.own x)) x (.ins C B [])) P (J ++ [x]) (S++[.ins C []]):=a.new (by rw[qP (Dm z)];exact c) ⟨B,[],qX,.nil⟩;have U:(J++[x])[S.length]? = Aa x:=by rw[<- r.len];simp
  refine⟨Z,P,J++[x],[.loc S.length],S++[.ins C []],w,.cons (by simp only[am];exact⟨x,Z,U⟩) .nil,?_⟩;rw[e];intro v H' l j r' i T A;simp only[am] at A;exact⟨A,ok _ H' l j r' i ((Iu _ _).trans T) (by simp only[am];exact⟨x,rfl,pV T U⟩)⟩
set_option tactic.hygienic true in
theorem iW {K:Ag}{P:Hp}(p:am K P J d v):∀ {fs:Ab (Ah × D)} {vs:Ab (Ah × V)},u_ K P J fs vs->u_ K P J (tS f d fs) (yK f v vs)
 |[],vs,t=>by cases t;exact .cons ⟨rfl,p⟩ .nil
 |(g,y)::fs,vs,t=>by
  cases t with
  |cons O G =>
   rename_i q N;obtain⟨B,w⟩:=q;obtain⟨U,Y⟩:=O;simp only at U Y;subst U;unfold tS yK;by_cases Q:g=f;rw[Au Q,Au Q];exact .cons ⟨Z,p⟩ G;rw[AT Q,AT Q];exact .cons ⟨Z,Y⟩ (iW p G)
def dS (C:Af)(f:Ah)(fo U:DE):DS:=λQ S=>(U Q S).toS Q λd G=>(fo Q G).toS Q λo J=>match o with
 |.loc i=>match J[i]? with
  |some (.ins N Y)=>if N=C/\Y.length<1000 then .nx Q (J.set i (.ins C (tS f d Y))) else .bad
  |_=>.bad
 |_=>.bad
def CZ (c:ue X.K C)(nf:vX X.K C f)(j:PE X o (tD X fo))(hv:PE X N (tD X O))(hs:Md N (Aa (.Attribute o f E)) ai.line X.env=pure false:=by rfl):PS X (.Assign [.Attribute o f E] N ai) (ir X (dS C f fo O)):=by
 intro aa s Y H D I h;obtain⟨P,J,ac,S,r,re,af⟩:=h;refine Oo (bi (pI hv I r re af) λu s1 ⟨y,H1,P1,J1,d,S1,G1,q1⟩=>bi (pI j G1.inv G1.rel G1.env q1) λg s2 ⟨x,H2,P2,w,b,S2,G2,Q⟩=>?_) hs;cases b with
 |loc i =>
  cases U:S2[i]? with
  |none=>simp only[U] at Q;exact Am Q
  |some m =>
   cases m with
   |ins L G =>
    simp only[U] at Q;by_cases z:L=C/\G.length<1000
    .obtain⟨rfl,T⟩:=z;rw[Au ⟨rfl,T⟩] at Q;have A:=G2.rep;simp only[am] at A;obtain⟨a,rfl,B⟩:=A;obtain⟨p,M,l,t⟩:=G2.rel.at' i a _ B U;obtain rfl:g=Cc a:=G2.val;have q:M.length=G.length:=(Paired.length t).symm;refine VB G2.inv l c nf (by rw[q];exact T) G1.val λs3 v=>⟨Y,_,v,?_⟩
     exact Q _ _ P2 w (G2.rel.put (m':=.ins L (tS f d G)) B U (by intro z;cases z) ⟨p,yK f y M,qX,iW (am.mono G2.same G2.pre _ _ G1.rep) t⟩) G2.env (qO.refl _) (Bm _)
    .rw[AT z] at Q;exact Am Q
   |_=>simp only[U] at Q;exact Am Q
 |_=>exact Am Q
end
def GO (K:Ag)(C:Af)(m Y:Ah)(st:Du)(ps:Y8):Prop:=∃ g Q,yh K C m g/\uq K m Y st g Q/\yM K Q ps []
def GM (K:Ag)(C:Af)(Y:Ah)(st:Du)(ps:Y8):Prop:=∃ g Q,Mk K C g/\uq K "__init__" Y st g Q/\yM K Q ps []
section
variable {P:Ba}{w:Bu}{K:Ag}{mg:J8}{base:Bc}{cm:Ar}{C:Af}
def SD {st:Du}{k:Aj}{g:DS}(h:GO K C m U st ps)(S:c_ N ps (qH st))
  (Y:∀ (f:Af) (Q:Ac) (A:Bp) (J:Ab Hn) (s:Ai) (H:Hp) (E:XK),RoomC cm k (A.deeper (Fw U (qH st) s.heap.objs.size f Q)) ->
   jq (jv cm P w K mg base N U (qH st) f Q A J s H E) (zJ st) (ir (jv cm P w K mg base N U (qH st) f Q A J s H E) g)):WN P w K mg base cm (k+1) C m ps.length (qM N.length g):=by
 obtain⟨f,O,L,F,B⟩:=h;exact⟨f,O,ps,rfl,L,B,fnX F S λQ A J s H E T G=>Y f Q A J s H E G⟩
def SE {st:Du}{k:Aj}{g:DS}(h:GM K C U st [x])(S:c_ N [x] (qH st))
  (Y:∀ (f:Af) (Q:Ac) (A:Bp) (J:Ab Hn) (s:Ai) (H:Hp) (E:XK),RoomC Vp k (A.deeper (Fw U (qH st) s.heap.objs.size f Q)) ->
   jq (jv Vp P w K mg base N U (qH st) f Q A J s H E) (zJ st) (ir (jv Vp P w K mg base N U (qH st) f Q A J s H E) g)):GN P w K mg base (k+1) C (qM N.length g):=by
 obtain⟨f,O,L,F,B⟩:=h;exact⟨f,O,[x],rfl,L,B,fnX F S λQ A J s H E T G=>Y f Q A J s H E G⟩
end
abbrev vq (h:Bc)(it:Af)(x:Ah)(t:Mx)(k:Aj):Prop:=h.IsStrIter it "str_ascii_iterator" x t k
def vq.keep {h h':Bc}{it:Af}(y:vq h it x t k)(q:∀ o,h.get? it=Aa o->h'.get? it=Aa o):vq h' it x t k:=by obtain⟨o,e,r⟩:=y;exact⟨o,q o e,r⟩
def vq.there {it:Af}(y:vq h it x t k):∃ o,h.get? it=Aa o/\∀ v,o.data≠.cell v:=by obtain⟨o,e,_,d⟩:=y;exact⟨o,e,λv z=>by rw[d] at z;cases z⟩
section
variable {prog:Ba}{w:Bu}{A:Bp}{E:J7}{s:Ai}
theorem F6 {it:Af}{Q:J7}(Y:vq s.heap it x t i)(G:x.cps[i]? = Aa c)
  (O:∀ h',vq h' it x t (i+1)->Ew it s.heap h'->Q (.str ⟨#[c]⟩ s.toks) { s with heap:=h',toks:=s.toks+1 }) : Ap (As prog w) A (Co (.ref it)) Q E s:=by
 obtain⟨o,U,N,J⟩:=id Y;unfold Co;refine Ad (Dv (name:=Fb "__next__") Y.typeIs Hw
  (Dw Hw Y.typeIs Op ?_ (Ob _)))
 show Ap _ _ (field (.ref it) 0 >>= _) _ _ s;refine Ad (Dt U J (x:=.str x t) Z ?_);show Ap _ _ (field (.ref it) 1 >>= _) _ _ s;refine Ad (Dt U J (x:=.int i 0) Z ?_);simp only[Fk,G];refine Ad (Gj U J aA (Ad (wpAny_mkStr (An ⟨_,Z,An (O _ ?_ (Hg ..))⟩) (by show 1<=sizeLine;decide))));exact⟨_,Dx _ U (IN (Hs J _)),(Rk ..).trans N,by
  rw[Hs J];simp[Ju]⟩
theorem oE {it:Af}{Q:J7}(G:A.handled=Zw)(Y:vq s.heap it x t i)(O:x.cps[i]? = Zw)
  (N:∀ h' e,Ur it s.heap h'->(∃ o,h'.get? e=Aa o/\o.cls=.type "StopIteration")->E (.ref e) { s with heap:=h' }) : Ap (As prog w) A (Co (.ref it)) Q E s:=by
 obtain⟨o,U,C,J⟩:=id Y;unfold Co;refine Ad (Dv (name:=Fb "__next__") Y.typeIs Hw
  (Dw Hw Y.typeIs Op ?_ (Ob _)))
 show Ap _ _ (field (.ref it) 0 >>= _) _ _ s;refine Ad (Dt U J (x:=.str x t) Z ?_);show Ap _ _ (field (.ref it) 1 >>= _) _ _ s;refine Ad (Dt U J (x:=.int i 0) Z ?_);simp only[Fk,O];refine Ad (KT (Ad (Gj U J aA (Ad (Ut ?_)))));show Ap _ _ (Zi (.type "StopIteration") [] >>= _) _ _ _;refine Ad ?_;simp only[Zi,newTuple];refine Ad (Dj ?_ (by size_fits));refine Ad (m:=Lo _ _) (Ka (a:=Ei) (by first|rfl|(simp only[Lo];rfl)) (Dj ?_ (by size_fits)));simp only[sB];refine Ad (Wh ?_)
 first|rw[show A.in1.handled=Zw from G]|rw[G]
 exact Ad (An (Us (N _ _ (((Hg ..).extBut.push _).push _) ⟨_,Bf _ Z,Z⟩)))
def HB (i:Af)(x:Ah)(t:Mx):J_ prog w i 1 (λk=>x.cps[k]?.map λc U=>.str ⟨#[c]⟩ U) (λh k=>vq h i x t k) λ_=>Jk:=
 ⟨λJ _ Q Y=>by
  obtain⟨c,e,rfl⟩:=Eo.mp Q;exact F6 J e Y,λG J _ Q Y=>oE G J (Ku.mp Q) Y⟩
def qCA (x:Ah)(f:Aj->Al V)(_:Hp):Prop:=f=λk=>x.cps[k]?.map λc=>.str ⟨#[c]⟩
def GR {K:Ag}(i z:Af)(x:Ah)(t:Mx):wv prog w K i z (λh k=>vq h i x t k) (qCA x) where
 kp:=λ_ _ _ y q=>y.keep q
 there:=λy=>y.there
 inj:=λ_ _ e J=>e.trans J.symm
 arm:=λ{X G Y s H f} U Q _ _ _ e=>by
  subst U Q e;refine⟨1,_,_,HB i x t,λ_ _=>trivial,λk v hv=>?_,λk hv=>?_⟩;obtain⟨c,e,rfl⟩:=Eo.mp hv;exact⟨_,by rw[e];rfl,λt=>⟨t,Z⟩⟩;rw[Ku.mp hv];rfl
noncomputable abbrev qBB (x:Ah)(t:Mx):Ce:={ cls:=.type "str_ascii_iterator",data:=.fields #[.str x t,.int 0 0] }
set_option maxHeartbeats 4000000 in
def ML (x:Ah)(t:Mx)(b:Af)(ys:Bs Ac)(Y:x.cps.all (· < 128)=Vp):lJ (.str x t) (qBB x t) Yp b λh=>h.IsList b ys:=
 .of_wp λprog w A R s h=>by obtain⟨J,g,d,N,os⟩:=s;obtain⟨U,h⟩:=h;have Q:=sub_zip;have G:Zk (Qu ⟨J.push { cls:=.type "str_ascii_iterator",data:=.fields #[.str x t,.int 0 0] },g,d,N,os⟩) b ys:=yV.keep (tp:=Yp) U λo e=>Ak _ e;wp_walk using Xb Y,Gz G;exact⟨_,Z,h⟩
end
def VS (ds:Ab D):Al (Ab D):=match ds with
 |[.str x,.lst Q]=>if x.cps.all (· < 128)=Vp then Aa (yL (y9 x) Q) else Zw
 |_=>Zw
def lM (f:DA):DI:=λY S=>(f Y S).bind λJ Q=>vO (VS J) Q
section
variable {X:Cx}{e1 e2:Bl}{n_:Ab Bl}{x1:Aj}{nw:Ea}{f:DA}{p ai:Ea}
set_option tactic.hygienic true in
def LA (a:Gl X "zip")(hm:X.mg "zip" = Zw)(T:PA X [e1,e2] (kz X f))(hs:Bj [e1,e2] X.env=(Yp,eval e1 X.env)::Bj [e2] X.env:=by rfl)(N:(Fh ai (Bj [e2] X.env)).any (·.1)=false:=by rfl) :
  PI X (.Tuple n_ x1 nw) (.Call (.Name "zip" p) [e1,e2] [] ai) (vy X (lM f)):=by
 intro aa s Y H R I h;obtain⟨P,J,ac,S,r,c,o⟩:=h;refine Call_ (uZ I a hm boot_zip (Gw (bi (yE T I r c o ai) λus s1 ⟨vs,H1,g,J1,ds,S1,B,m,L,z,l,e1,e2,G⟩=>?_) hs N));obtain⟨ah,Q,q⟩:=vT G;have q:=q.base e1 e2;unfold VS at Q;split at Q
 .rename_i x ys;split at Q
  .rename_i j;cases Q;obtain⟨v,w,u,y,rfl,rfl,C,O,k,E⟩:=gF l m;simp only[am] at C O;subst C;obtain⟨t,rfl⟩:=k;obtain⟨b,n,rfl,U,A⟩:=O;cases (show y=Cc b from E);have U:Sq Yp X.K g b n:=U.l;obtain⟨ib,rb,M⟩:=(U.mono L.sub).at B;refine GJ B L (ML x t b _ j) rfl M (GR _ _ x t) (λ_ e=>⟨_,e,rfl,rfl⟩) (X1 (λ_ _=>rfl) (λi h=>?_) (λi h=>?_) U A) q
   .have h:i<x.cps.size:=by simpa [y9] using h
    exact⟨.str ⟨#[x.cps[i]]⟩,by rw[Dk h];rfl,by simp[y9,am]⟩
   .rw[Kx (by simpa [y9] using h)];rfl
  .cases Q
 .cases Q
def qDL (Y:Gl X "zip")(hm:X.mg "zip" = Zw)(J:QA X [e1,e2] f)(hs:Bj [e1,e2] X.env=(Yp,eval e1 X.env)::Bj [e2] X.env:=by rfl)(Q:(Fh ai (Bj [e2] X.env)).any (·.1)=false:=by rfl):QI X (.Tuple n_ x1 nw) (.Call (.Name "zip" p) [e1,e2] [] ai) (lM f):=⟨LA Y hm J.1 hs Q⟩
end
end _D
namespace _D
open _L _H
variable {J:J9}{K:Ag}
section
variable {X:Cx}
noncomputable def pM:D->Ab D->ag->ax D:=λa Q S=>match a,Q with
 |.str x,[.str y]=>.ok (.bl (Txt.startswith x y)) S
 |_,_=>.bad
def JJ:sy X "str.startswith" pM:=by
 intro A Y H s P J S v T M z a L Q I r B p G N U;unfold pM at U;split at U;simp only[am] at p;subst p;obtain⟨t,rfl⟩:=B;obtain⟨w,u,rfl,rfl,O,C⟩:=wW N G;simp only[am] at O;subst O;obtain⟨E,rfl⟩:=C;exact SC.startswith ⟨.bl _,H,I,rfl,xr U r (by simp only[am])⟩;exact Am U
noncomputable def lQ:D->Ab D->ag->ax D:=λa Y S=>match a,Y with
 |.loc i,[]=>match S[i]? with
  |some (.lst Q)=>match Q[Q.length-1]? with
   |some d=>.ok d (S.set i (.lst Q.dropLast))
   |none=>.bad
  |_=>.bad
 |_,_=>.bad
theorem cE {P:Hp}:∀ {ds:Ab D} {vs:Ab V},qJ K P J ds vs->qJ K P J ds.dropLast vs.dropLast
 |[],vs,r=>by rw[r.nil_inv];exact .nil
 |[d],vs,r=>by
  obtain⟨w,Y,rfl,_,Q⟩:=r.cons_inv;rw[Q.nil_inv];exact .nil
 |d::e::ds,vs,r=>by obtain⟨w,Y,rfl,N,Q⟩:=r.cons_inv;have G:=cE Q;obtain⟨O,U,rfl,_,_⟩:=Q.cons_inv;exact .cons N G
def SB:sy X "list.pop" lQ:=by
 intro A Y H s P J S v E k u a T Q I r M p O C U;cases a with
 |loc i =>
  cases T with
  |cons _ _=>exact Am U
  |nil =>
   have U:qW X P J (match S[i]? with|some (.lst G)=>(match G[G.length-1]? with|some d=>ax.ok d (S.set i (.lst G.dropLast))|none=>.bad)|_=>.bad) Q:=U;cases N:S[i]? with
   |none=>rw[N] at U;exact Am U
   |some m =>
    rw[N] at U;cases m with
    |lst G =>
     cases B:G[G.length-1]? with
     |none=>simp only[B] at U;exact Am U
     |some d =>
      simp only[B] at U;cases C.nil_inv;cases O;simp only[am] at p;obtain⟨l,rfl,q⟩:=p;obtain⟨L,z,t⟩:=r.at' i l _ q N;obtain⟨y,w,j⟩:=t.get B;refine IU A s Y H (.ref l) [] E [] Q I M .nil ⟨l,L,y,rfl,rfl,z,by rw[<- t.length];exact w,?_⟩;exact U _ _ _ _ (r.put (m':=.lst G.dropLast) q N (by intro z;cases z) ⟨L.dropLast,qX,cE t⟩) (qO.refl _) (Bm _) j
    |_=>exact Am U
 |_=>exact Am U
def qDD:ub X "str.startswith" pM:=⟨JJ⟩
def qEM:ub X "list.pop" lQ:=⟨SB⟩
end
open PySem.Builtin PyProof.Rows.KTD
def lH (K:Ag)(d:_D.D)(v:Ac):Prop:=(∃ x t,d=.str x/\v=.str x t)\/∃ f,d=.obj f/\v=.ref f/\Dd K (.ref f)=Vp
def vZ (K:Ag)(a:Af)(D:Ab (Ah × _D.D)):Prop:=
 (a == Ly)=Yp/\∃ o Q Y,K.lookup a=Aa o/\o.ExactDict/\o.data=.dict Q Y/\Rows (lH K) Q.toList D
def vZ.at {D:Ab (Ah × _D.D)}(T:vZ K a D)(k:K.In h):TabOf (lH K) h a D:=by obtain⟨e,o,Q,Y,U,r⟩:=T;exact⟨e,o,Q,Y,k _ _ U,r⟩
section
variable {prog:Ba}{w:Bu}{A:Bp}{E:J7}{s:Ai}{a:Af}{δ: Type}{R:δ->Ac->Prop}{D:Ab (Ah × δ)}{k:Ah}{tk:Mx}
def kU (T:TabOf R s.heap a D):s.TypeIs (.ref a) "dict":=let ⟨_,o,_,_,Q,Y,_⟩:=T;⟨o,Q,Y.1⟩
def WA {Q:Al Ac->Ai->Prop}(T:TabOf R s.heap a D)(M:∀ d v,datumAt k D=Aa d->R d v->Q (Aa v) { s with toks:=s.toks+1 })(I:datumAt k D=Zw->Q Zw { s with toks:=s.toks+1 }) :
  Ap (As prog w) A (dictGet a (.str k tk)) Q E s:=by
 obtain⟨_,o,U,j,C,z,L,N⟩:=T;unfold dictGet
 try with_reducible refine Df ?_
 refine Ad (Yt (Ad (kt_dictFind_strs (s:={ s with toks:=s.toks+1 }) C L (by obtain⟨l⟩:=U;simpa using N.exact) ?_)));have G:Q (findBy (λk v=>v.isStr k) U k) { s with toks:=s.toks+1 }:=by
  have H:findBy (λk v=>v.isStr k) U k=(U.toList.find? λe=>e.key.isStr k).map (·.val):=by obtain⟨l⟩:=U;simp[findBy]
  rw[H];cases Y:datumAt k D with
  |some d=>obtain⟨v,hv,O⟩:=N.find_some Y;rw[hv];exact M d v Y O
  |none=>rw[N.find_none Y];exact I Y
 rw[findBy_of_findIdx?] at G;cases B:U.findIdx? λe=>e.key.isStr k with
 |none=>rw[B] at G;exact An G
 |some i=>rw[B] at G;exact Ad (wpAny_dictEntries (s:={ s with toks:=s.toks+1 }) C L (An G))
def eC {Q:Ar->Ai->Prop}(T:TabOf R s.heap a D)(h:Q (inKeys k D) { s with toks:=s.toks+1 }) : Ap (As prog w) A (contains (.ref a) (.str k tk)) Q E s:=by
 unfold contains
 try with_reducible refine Df ?_
 refine Ad (Ud (kU T) Qo.lookup ?_);show Ap _ _ (if (Aa (Mf "dict.__contains__") == Aa Ei)=Vp then _ else _) _ E s;rw[AT (by rw[beq_builtin_none];exact Es)];refine Ad (wpAny_callSpecialUnlessNone?_slot (name:=Fb "__contains__") (kU T) Qo
  (Dw Qo (kU T) entry_dict_contains ?_ (args_dict_contains _ _)))
 show Ap _ _ (dictGet a (.str k tk) >>= _) _ _ s;refine Ad (WA T (λd v G _=>?_) λU=>?_)
 .have Y:inKeys k D=true:=by rw[<- isSome_datumAt,G];rfl
  rw[Y] at h;show Ap _ _ (ret (.bool Vp)) _ _ _;exact An ⟨_,Z,Nr h⟩
 .have Y:inKeys k D=false:=by rw[<- isSome_datumAt,U];rfl
  rw[Y] at h;show Ap _ _ (Builtin.Dict.pendingKey? a (.str k tk) >>= _) _ _ _;exact Ad (wpAny_pendingKey_other T.1 (An ⟨_,Z,Nr h⟩))
def M5 {N Y:Bl}{Q:J7}(T:TabOf R s.heap a D)(U:datumAt k D=Aa d)(h:∀ v,R d v->Q v { s with toks:=s.toks+1 })
  (hs:subscripted Y Yp (.ref a) (.str k tk)=operate [.ref a,.str k tk] (Og (.ref a) (.str k tk))) (C:∀ r,letTemporaryGo N (.ref a) r=pure ()) :
  Ap (As prog w) A (Rg N Y (.ref a) (.str k tk)) Q E s:=by
 refine subscriptTail_builtin (kU T) Rw.lookup ?_ hs C;unfold Og
 try with_reducible refine Df ?_
 refine Ad (Rf (kU T) aC ?_);refine Ad (Dv (name:=Fb "__getitem__") (kU T) Rw
  (Dw Rw (kU T) entry_dict_getitem ?_ (args_dict_getitem _ _)))
 show Ap _ _ (dictGet a (.str k tk) >>= _) _ _ s;exact Ad (WA T (λB v O hv=>An ⟨v,rfl,An (h v (by rw[U] at O;cases O;exact hv))⟩) λG=>by rw[U] at G;cases G)
end
noncomputable def yQ (Q:Ar)(T:Ab (Ah × _D.D)):_D.D->ag->ax _D.D:=λd S=>match d with
 |.str k=>.ok (.bl (if Q then !inKeys k T else inKeys k T)) S
 |_=>.bad
def vB (T:Ab (Ah × _D.D)):_D.D->ag->ax _D.D:=λd S=>match d with
 |.str k=>match datumAt k T with
  |some x=>.ok x S
  |none=>.bad
 |_=>.bad
section
variable {X:Cx}{e:Bl}{fe:DE}{x:Ah}{p ai:Ea}{a:Af}{T:Ab (Ah × _D.D)}
def CN (t:vZ X.K a T)(C:Gl X x)(hm:X.mg x=Aa (.ref a))(M:PE X e (tD X fe))(G:(x == ("__debug__" : Ah))=false:=by decide):PE X (.Compare e [.In] [.Name x p] ai) (tD X (d1 (yQ Yp T) fe)):=by
 intro w s Y H Q I h;obtain⟨P,J,y,S,r,O,L⟩:=h;refine wpAny_Compare1 (bi (zO M I r O L) λu E ⟨v,A,j,q,d,z,G1,U⟩=>y8 G1.inv C hm ?_ G) (by with_unfolding_all rfl);cases d with
 |str k =>
  have N:=G1.rep;simp only[am] at N;subst N;obtain⟨B,rfl⟩:=G1.val;show Ap _ _ (do return Fa (<- contains (.ref a) (.str k B))) _ _ E;exact Ad (eC (t.at G1.inv.kIn) (An ⟨.bl (inKeys k T),A,G1.inv.tok _,Z,xr (qW.base G1.same G1.pre U) G1.rel (by simp only[am];rfl)⟩))
 |_=>exact Am U
def CO (t:vZ X.K a T)(u:Gl X x)(hm:X.mg x=Aa (.ref a))(B:PE X e (tD X fe))(hs:gV e:=by intro _ _;rfl)(N:(x == ("__debug__" : Ah))=false:=by decide):PE X (.Subscript (.Name x p) e ai) (tD X (d1 (vB T) fe)):=by
 intro c s Y H Q I h;obtain⟨P,J,g,S,r,j,A⟩:=h;refine Vx (y8 I u hm (bi (zO B I r j A) λq l ⟨v,O,M,y,d,E,G1,U⟩=>?_) N);cases d with
 |str k =>
  have U:=qW.base G1.same G1.pre U;have C:=G1.rep;simp only[am] at C;subst C;obtain⟨o,rfl⟩:=G1.val;have U:qW X M y (match datumAt k T with|some x=>ax.ok x E|none=>.bad) Q:=U;cases G:datumAt k T with
  |none=>rw[G] at U;exact Am U
  |some d =>
   rw[G] at U;refine M5 (t.at G1.inv.kIn) G (λv hv=>?_) (hs _ _) (by intro _;with_unfolding_all rfl);rcases hv with⟨z,w,rfl,rfl⟩|⟨f,rfl,rfl,L⟩
   .exact⟨.str z,O,G1.inv.tok _,⟨w,Z⟩,xr U G1.rel (by simp only[am])⟩
   .exact⟨.ref f,O,G1.inv.tok _,Z,xr U G1.rel (by simp only[am];exact⟨trivial,L⟩)⟩
 |_=>exact Am U
def NW (Q:Gl X x)(hm:∃ t,X.mg x=Aa (.str z t))(Y:(x == ("__debug__" : Ah))=false:=by decide):PE X (.Name x ai) (tD X (dC (.str z))):=
 let ⟨t,h⟩:=hm
 tH Q h (v:=.str z) ⟨t,Z⟩ (λP J => by simp only[am]) Y
end
def ES (K:Ag)(a:Af)(ah:Y0):Prop:=∃ (o:Ce) (n:Aj),K.lookup a=Aa o/\o.cls=.type "tuple" /\ o.data=.seq ah.toArray n/\ah.length<=1000
def Q1 {P:Hp}(h:ES K a ah)(U:qQ vs ah)(N:qJ K P J ds vs):am K P J (.tup ds) (.ref a):=by obtain⟨o,n,G,Y,Q,O⟩:=h;simp only[am];exact⟨a,vs,rfl,.inr ⟨o,ah.toArray,n,G,Y,Q,by rw[Bk];have:=El;fin2,by simpa using U⟩,N⟩
end _D
namespace _D
open _L
variable {ps:Y8}{av:Ah}
def xc (s:Du)(j:Aj):Du:=match s with
 |.ClassDef _ _ _ b _ _ _ _ _ _ _=>b.getD j s
 |_=>s
noncomputable def HK (K:Ag)(C:Af):Ar:=Lw K C Pa&&(Lb K C&&(Rb K C&&(decide (De K (.ref C) "__setattr__" = Aa (Aa (.builtin "object.__setattr__")))&&(Oy K C&&Dd K (.ref C)))))
structure ym (K:Ag)(C:Af)(fs:Y8):Prop where
 cls:ue K C
 mks:Oy K C=Vp
 kp:Dd K (.ref C)=Vp
 fld:∀ f∈fs,vX K C f
def qA0 {K:Ag}{fs:Y8}(h:HK K C=Vp)(k:(fs.all λf=>decide (De K (.ref C) f=Aa Zw))=Vp):ym K C fs:=by unfold HK at h;simp only[Ax,Bb] at h;obtain⟨a,b,c,d,e,f⟩:=h;exact⟨⟨a,b,c,d⟩,e,f,λf Q=>show De K (.ref C) f=Aa Zw from Bd (Bg.mp k f Q)⟩
inductive ul (K:Ag)(C:Af)(m qual:Ah)(st:Du):Prop
 |mk {f:Af} {oc:Ac} {od an:Al Af} {osl:Bs (Al Ac)} {kV doc pm cdv ct:Ac} (a:De K (.ref C) m=Aa (Aa (.ref f)))
  (l:K.lookup f=Aa ⟨oc,od,.func (Fp m qual (xZ st) (zJ st) (qH st) .none kV doc pm an cdv ct),osl⟩) (c:Js K cdv qual=Vp) (n:Td K (.ref f)=Vp) (k:Dd K (.ref f)=Vp):ul K C m qual st
def yt (m:Ah)(st:Du)(ps:Y8):Prop:=∀ (q:Ah) (kV Q U:Ac) (N:Al Af) (Y G:Ac) (J:Y0),J.length=ps.length->Tt (Fp m q (xZ st) (zJ st) (qH st) .none kV Q U N Y G) ⟨J,[]⟩=pure (ps.zip J)
def rM {K:Ag}{st:Du}(h:ul K C m av st)(B:yt m st ps):GO K C m av st ps:=by obtain⟨a,l,c,n,k⟩:=h;have F:=lP (st:=st) l c k;exact⟨_,_,⟨a,n,k⟩,F,F.binds (B _)⟩
def DB {K:Ag}{st:Du}{fs:Y8}(h:ul K C "__init__" av st)(D:ym K C fs)(B:yt "__init__" st ps):GM K C av st ps:=by obtain⟨a,l,c,n,k⟩:=h;have F:=lP (st:=st) l c k;exact⟨_,_,⟨D.mks,a,n,D.kp⟩,F,F.binds (B _)⟩
structure MDfS (F:DF)(P:Ba)(w:Bu)(K:Ag)(mg:J8)(base:Bc)(cm:Ar)(k:Aj)(C:Af)(m:Ah)(n:Aj):Prop where
 get:WN P w K mg base cm k C m n F
structure MIfS (F:DF)(P:Ba)(w:Bu)(K:Ag)(mg:J8)(base:Bc)(k:Aj)(C:Af):Prop where
 get:GN P w K mg base k C F
structure DkK (K:Ag)(C:Af):Prop where
 get:ue K C
section
variable {P:Ba}{w:Bu}{K:Ag}{mg:J8}{base:Bc}{cm:Ar}{C:Af}
def mq {st:Du}{i:Aj}{F:DF}(k:Aj)(h:GO K C M av st ps)(Y:Ck (xi (vN (qH st)) ps (qH st)&&decide ((vN (qH st)).length=i)))(G:F=qM i g)
  (N:∀ (f:Af) (Q:Ac) (A:Bp) (J:Ab Hn) (s:Ai) (H:Hp) (E:XK),RoomC cm k (A.deeper (Fw av (qH st) s.heap.objs.size f Q)) ->
   QB (jv cm P w K mg base (vN (qH st)) av (qH st) f Q A J s H E) (zJ st) g):MDfS F P w K mg base cm (k+1) C M ps.length:=by
 unfold Ck at Y;simp only[Ax,Bb] at Y;obtain⟨Y,rfl⟩:=Y;exact⟨G▸SD h (m5 Y) λf Q A J s H E U=>(N f Q A J s H E U).1⟩
def iq {st:Du}{x:Ah}{i:Aj}{F:DF}(k:Aj)(h:GM K C av st [x])(Y:Ck (xi (vN (qH st)) [x] (qH st)&&decide ((vN (qH st)).length=i)))(G:F=qM i g)
  (N:∀ (f:Af) (Q:Ac) (A:Bp) (J:Ab Hn) (s:Ai) (H:Hp) (E:XK),RoomC Vp k (A.deeper (Fw av (qH st) s.heap.objs.size f Q)) ->
   QB (jv Vp P w K mg base (vN (qH st)) av (qH st) f Q A J s H E) (zJ st) g):MIfS F P w K mg base (k+1) C:=by
 unfold Ck at Y;simp only[Ax,Bb] at Y;obtain⟨Y,rfl⟩:=Y;exact⟨G▸SE h (m5 Y) λf Q A J s H E U=>(N f Q A J s H E U).1⟩
end
section
variable {X:Cx}{e o cp:Bl}{es:Ab Bl}{fe fo fv:DE}{fA:DA}{C a:Af}{f m x:Ah}{p ai jr cz:Ea}{F:DF}{cm:Ar}{k n:Aj}{T:Ab (Ah × D)}{z:Ah}
def qDo (c:DkK X.K C)(nf:vX X.K C f)(Y:QE X e fe)(Q:Gc e f X.env (eval e X.env)=eval e X.env):QE X (.Attribute e f ai) (d1 (yJ C f) fe):=⟨CC c.1 nf Y.1 Q⟩
def qD5 (c:DkK X.K C)(nf:vX X.K C f)(Q:QE X o fo)(hv:QE X cp fv)(hs:Md cp (Aa (.Attribute o f jr)) ai.line X.env=pure Yp):QS X (.Assign [.Attribute o f jr] cp ai) (dS C f fo fv):=⟨CZ c.1 nf Q.1 hv.1 hs⟩
def iMt {pl:Km Ar}(c:DkK X.K C)(M:MDfS F X.prog X.w X.K X.mg X.base cm k C m n)(Q:RoomC cm k X.A)(Y:Fn1 X)(G:QE X o fo)(U:QA X (e::es) fA)(s:St1 X e es ai)
  (J:eval (.Call (.Attribute o m cz) (e::es) [] ai) X.env=(do
   let ov <- eval o X.env
   Mc cz.atName
   let (f,first) <- holding [ov] (Ra ov m pl)
   Wv ai f first (Fh ai (Bj (e::es) X.env)) (TD ai (Om [] X.env)))):QE X (.Call (.Attribute o m cz) (e::es) [] ai) (xJ C m n F fo fA):=⟨L0 c.1 M.1 Q Y G.1 U.1 s.1 s.2 J⟩
def qE6 {pl:Km Ar}(c:DkK X.K C)(M:MDfS F X.prog X.w X.K X.mg X.base cm k C m n)(J:RoomC cm k X.A)(Q:Fn1 X)(Y:QE X o fo)
  (U:eval (.Call (.Attribute o m cz) [] [] ai) X.env=(do
   let ov <- eval o X.env
   Mc cz.atName
   let (f,first) <- holding [ov] (Ra ov m pl)
   Wv ai f first (Fh ai (Bj [] X.env)) (TD ai (Om [] X.env)))):QE X (.Call (.Attribute o m cz) [] [] ai) (xJ C m n F fo qC):=⟨PN c.1 M.1 J Q Y.1 U⟩
def iMk (M:MIfS F X.prog X.w X.K X.mg X.base k C)(Q:RoomC Vp (k+1) X.A)(h:Ck (oz X x))(hm:X.mg x=Aa (.ref C)/\Dd X.K (.ref C)=Vp):QE X (.Call (.Name x p) [] [] ai) (bF C F):=
 have h:=xH h
 ⟨PM M.1 Q h.1 hm.1 h.2.1⟩
def iTi (h:Ck (oz X x))(t:∃ a,X.mg x=Aa (.ref a)/\vZ X.K a T)(Q:QE X e fe):QE X (.Compare e [.In] [.Name x p] ai) (d1 (yQ Yp T) fe):=
 have h:=xH h;let ⟨_,t⟩:=t
 ⟨CN t.2 h.1 t.1 Q.1 h.2.1⟩
def iTx (h:Ck (oz X x))(t:∃ a,X.mg x=Aa (.ref a)/\vZ X.K a T)(Q:QE X e fe)(hs:gV e):QE X (.Subscript (.Name x p) e ai) (d1 (vB T) fe):=
 have h:=xH h;let ⟨_,t⟩:=t
 ⟨CO t.2 h.1 t.1 Q.1 hs h.2.1⟩
def iGs (h:Ck (oz X x))(t:∃ t,X.mg x=Aa (.str z t)):QE X (.Name x p) (dC (.str z)):=
 have h:=xH h
 ⟨NW h.1 t h.2.1⟩
def iGt (h:Ck (oz X x))(t:∃ a,X.mg x=Aa (.ref a)/\∀ P J,am X.K P J (.tup ds) (.ref a)):QE X (.Name x p) (dC (.tup ds)):=
 have h:=xH h;let ⟨a,t⟩:=t
 ⟨tH h.1 t.1 (v:=.ref a) Z t.2 h.2.1⟩
end
end _D
namespace _D
open _L _H
open PySem.Builtin PyProof.Rows.KTD
section
variable {X:Cx}{e:Bl}{fe:DE}{x:Ah}{p ai:Ea}{a:Af}{T:Ab (Ah × _D.D)}
def AE (t:vZ X.K a T)(w:Gl X x)(hm:X.mg x=Aa (.ref a))(o:PE X e (tD X fe))(B:(x == ("__debug__" : Ah))=false:=by decide):PT X (.Compare e [.In] [.Name x p] ai) (ny X (bg (d1 (yQ Yp T) fe))):=by
 intro l s Y H Q I h;obtain⟨P,J,O,S,r,E,j⟩:=h;have C:qL X P J ((fe O S).bind λd U=>(yQ Yp T d U).bind λd U=>uD (xS d U) U) (xn X P J Q):=by have G:qL X P J (((fe O S).bind λd U=>yQ Yp T d U).bind λd U=>uD (xS d U) U) (xn X P J Q):=j;cases q:fe O S <;> rw[q] at G <;> exact G
 refine Oh (bi (zO o I r E C) λg y ⟨v,u,A,M,d,U,G1,N⟩=>y8 G1.inv w hm ?_ B) (by with_unfolding_all rfl);cases d with
 |str k =>
  have L:=G1.rep;simp only[am] at L;subst L;obtain⟨z,rfl⟩:=G1.val;show Ap _ _ (do return Fa (<- contains (.ref a) (.str k z))) _ _ y;exact Ad (eC (t.at G1.inv.kIn) (An (aP (d:=.bl (inKeys k T)) (v:=.bl (inKeys k T)) (G1.inv.tok _) G1.rel Z (by simp only[am]) Z (N u A M G1.rel G1.same G1.pre))))
 |_=>exact Am N
def LI (t:vZ X.K a T)(w:Gl X x)(hm:X.mg x=Aa (.ref a))(o:PE X e (tD X fe))(B:(x == ("__debug__" : Ah))=false:=by decide):PT X (.Compare e [.NotIn] [.Name x p] ai) (ny X (bg (d1 (yQ Vp T) fe))):=by
 intro l s Y H Q I h;obtain⟨P,J,O,S,r,E,j⟩:=h;have C:qL X P J ((fe O S).bind λd U=>(yQ Vp T d U).bind λd U=>uD (xS d U) U) (xn X P J Q):=by have G:qL X P J (((fe O S).bind λd U=>yQ Vp T d U).bind λd U=>uD (xS d U) U) (xn X P J Q):=j;cases q:fe O S <;> rw[q] at G <;> exact G
 refine Oh (bi (zO o I r E C) λg y ⟨v,u,A,M,d,U,G1,N⟩=>y8 G1.inv w hm ?_ B) (by with_unfolding_all rfl);cases d with
 |str k =>
  have L:=G1.rep;simp only[am] at L;subst L;obtain⟨z,rfl⟩:=G1.val;show Ap _ _ (do return Fa (!(<- contains (.ref a) (.str k z)))) _ _ y;exact Ad (eC (t.at G1.inv.kIn) (An (aP (d:=.bl (!inKeys k T)) (v:=.bl (!inKeys k T)) (G1.inv.tok _) G1.rel Z (by simp only[am]) Z (N u A M G1.rel G1.same G1.pre))))
 |_=>exact Am N
end
section
variable {X:Cx}{e:Bl}{fe:DE}{x:Ah}{p ai:Ea}{T:Ab (Ah × _D.D)}
def jTi (h:Ck (oz X x))(t:∃ a,X.mg x=Aa (.ref a)/\vZ X.K a T)(Q:QE X e fe):QT X (.Compare e [.In] [.Name x p] ai) (bg (d1 (yQ Yp T) fe)):=
 have h:=xH h;let ⟨_,t⟩:=t
 ⟨AE t.2 h.1 t.1 Q.1 h.2.1⟩
def jTn (h:Ck (oz X x))(t:∃ a,X.mg x=Aa (.ref a)/\vZ X.K a T)(Q:QE X e fe):QT X (.Compare e [.NotIn] [.Name x p] ai) (bg (d1 (yQ Vp T) fe)):=
 have h:=xH h;let ⟨_,t⟩:=t
 ⟨LI t.2 h.1 t.1 Q.1 h.2.1⟩
end
end _D
namespace _D
open _L _H
open PySem.Builtin PyProof.Rows.KTD
variable {K:Ag}{x:Ah}{mg:J8}{h:Bc}
noncomputable def P7 (K:Ag):_D.D->Ac->Ar
 |.str z,.str y _=>decide (y=z)
 |.obj f,.ref g=>decide (g=f)&&Dd K (.ref f)
 |_,_=>Yp
noncomputable def tB (K:Ag):Ab Ym->Ab (Ah × _D.D)->Ar
 |[],[]=>Vp
 |e::Q,(x,d)::T=>(match e.key with|.str y _=>decide (y=x)|_=>Yp)&&(P7 K d e.val&&tB K Q T)
 |_,_=>Yp
def NP (h:P7 K d v=Vp):lH K d v:=by
 unfold P7 at h;split at h;exact .inl ⟨_,_,Z,by rw[Bd h]⟩;rw[Ax] at h;have e:=Bd h.1;exact .inr ⟨_,Z,by rw[e],h.2⟩;cases h
theorem lL:∀ (es:Ab Ym) (T:Ab (Ah × _D.D)),tB K es T=Vp->Rows (lH K) es T
 |[],[],_=>.nil
 |e::es,(x,d)::T,h=>by
  unfold tB at h;rw[Ax,Ax] at h;obtain⟨Q,U,J⟩:=h;cases Y:e.key with
  |str y t =>
   rw[Y] at Q;have G:=Bd Q;exact .cons (t:=t) (by rw[Y,G]) (NP U) (lL es T J)
  |_=>rw[Y] at Q;cases Q
 |[],_::_,h=>by cases h
 |_::_,[],h=>by cases h
def BF {a:Af}{es:Bs Ym}{Q:Aj}{T:Ab (Ah × _D.D)}(Y:K.In h)(G:h.Ns Bi mg)
  (q:Br K Bi x=Aa (Aa (.ref a))) (l:K.lookup a=Aa ⟨.type "dict",Zw,.dict es Q,#[]⟩) (n:(a == Ly)=Yp) (r:tB K es.toList T=Vp):∃ a,mg x=Aa (.ref a)/\vZ K a T:=
 ⟨a,Kz Y G q,n,_,_,_,l,⟨Z,Z,Z⟩,Z,lL _ _ r⟩
def qCP (Q:K.In h)(G:h.Ns Bi mg)(q:Br K Bi x=Aa (Aa (.str z t))):∃ t,mg x=Aa (.str z t):=⟨t,Kz Q G q⟩
def qCQ {a b:Af}{i j:Aq}{s t:Mx}{B Y:Al Af}{n N:Aj}{U Q:Bs (Al Ac)}(O:K.In h)(G:h.Ns Bi mg)
  (q:Br K Bi x=Aa (Aa (.ref a))) (l:K.lookup a=Aa ⟨.type "tuple",B,.seq #[.ref b] n,U⟩) (C:K.lookup b=Aa ⟨.type "tuple",Y,.seq #[.int i s,.int j t] N,Q⟩) :
  ∃ a,mg x=Aa (.ref a)/\∀ P J,am K P J (.tup [.tup [.int i,.int j]]) (.ref a):=
 ⟨a,Kz O G q,λP J => by
  refine Q1 (ah:=[.ref b]) (vs:=[.ref b]) ⟨_,_,l,Z,Z,(by show 1<=1000;fin2)⟩ (.cons Z .nil) ?_;have r:am K P J (.tup [.int i,.int j]) (.ref b):=Q1 (ah:=[.int i s,.int j t]) (vs:=[.int i,.int j]) ⟨_,_,C,Z,Z,(by show 2<=1000;fin2)⟩ (.cons ⟨_,Z⟩ (.cons ⟨_,Z⟩ .nil)) ⟨_,_,Z,(by simp only[am]),_,_,Z,(by simp only[am]),Z⟩;exact⟨_,_,Z,r,Z⟩⟩
end _D
namespace _D
open _L
variable {J:J9}{aq:Ab D}{c u:Ac}{E:J7}{s:Ai}{o o':Al (Aj × MO)}{H P:Hp}{R RR:ax (qF × Ab D)}{S:ag}{ac:qF}
def iu (o:Al (Aj × MO))(g:DG)(t:DT)(k:DK):Ab D->DK
 |[],ac,S,aq=>if lD o S then .ok (ac,aq) S else .bad
 |d::Y,ac,S,aq=>if lD o S then (match g d ac S with
   |.ok Q G=>(match t Q G with
    |.ok b U=>if b then (k Q U aq).bind λp N=>iu o g t k Y p.1 N p.2 else iu o g t k Y Q U aq
    |_=>.bad)
   |_=>.bad) else .bad
inductive Z7 (o:Al (Aj × MO))(g:DG)(t:DT)(k:DK)(d:D)(ds acc:Ab D)(env:qF)(S:ag)(R:ax (qF × Ab D)):Prop
 |no (env1:qF) (S1 S2:ag) (z:oy o S) (q1:g d env S=.ok env1 S1) (q2:t env1 S1=.ok Yp S2) (r:iu o g t k ds env1 S2 acc=R):Z7 o g t k d ds acc env S R
 |yes (env1:qF) (S1 S2:ag) (env5:qF) (ds5:Ab D) (S5:ag) (z:oy o S) (q1:g d env S=.ok env1 S1) (q2:t env1 S1=.ok Vp S2) (q3:k env1 S2 acc=.ok (env5,ds5) S5) (r:iu o g t k ds env5 S5 ds5=R):Z7 o g t k d ds acc env S R
 |fl (env1:qF) (S1 S2:ag) (c:Ac) (x:D) (S5:ag) (z:oy o S) (q1:g d env S=.ok env1 S1) (q2:t env1 S1=.ok Vp S2) (q3:k env1 S2 acc=.ex c x S5) (r:R=.ex c x S5):Z7 o g t k d ds acc env S R
set_option tactic.hygienic true in
def BE {d:D}{ds:Ab D}(Y:R≠.bad)(h:iu o g t k (d::ds) ac S aq=R):Z7 o g t k d ds aq ac S R:=by
 simp only[iu] at h;split at h
 .rename_i z;have z:=yT.mp z;cases U:g d ac S with
  |bad=>rw[U] at h;exact absurd h.symm Y
  |ex c x L=>rw[U] at h;exact absurd h.symm Y
  |ok Q C =>
   rw[U] at h;dsimp only at h;cases G:t Q C with
   |bad=>rw[G] at h;exact absurd h.symm Y
   |ex c x L=>rw[G] at h;exact absurd h.symm Y
   |ok b B =>
    rw[G] at h;cases b with
    |false=>exact .no Q C B z U G h
    |true =>
     dsimp only at h;rw[Au rfl] at h;cases O:k Q B aq with
     |bad=>rw[O] at h;exact absurd h.symm Y
     |ex c x L=>rw[O] at h;exact .fl Q C B c x L z U G O h.symm
     |ok p I =>
      obtain⟨N,T⟩:=p;rw[O] at h;exact .yes Q C B N T I z U G O h
 .exact absurd h.symm Y
set_option tactic.hygienic true in
def D3 (Q:R≠.bad)(h:iu o g t k [] ac S aq=R):oy o S/\R=.ok (ac,aq) S:=by
 simp only[iu] at h;split at h;rename_i z;exact⟨yT.mp z,h.symm⟩;exact absurd h.symm Q
def yb (ay:Cx)(P1:Hp)(J1:J9){β : Type}(R:ax β) : Prop:=∀ c x S,R=.ex c x S->∀ u Q,p_ ay P1 J1 c x S u Q->ay.xe u Q
def ye (B:Acc)(ay:Cx)(step:Ac->Km Nx)(k:DK):Prop:=
 ∀ (N:J0) (G:Hp) (O:J9) (aq:Af) (ac:qF) (S:ag) (U:Ab D) (s:Ai),(∀ H:Hp,H aq=Zw->xO ay N H aq)->MQ B ay N G O aq ac S U s->k ac S U≠.bad->yb ay G O (k ac S U) ->
  Ap (As ay.prog ay.w) ay.A (step (.ref aq)) (λ_ L=>∃ Q Y C,k ac S U=.ok (Q,Y) C/\MQ B ay N G O aq Q C Y L) ay.xe s
inductive _E (B:Acc)(Yww:Cx)(pins:J0)(P1:Hp)(J1:J9)(fp:J9)(acc:Af)(tn:Aj->Bc->Prop)(G:Ab D->DK)(items:Ab D)(R:ax (qF × Ab D))(n:Aj)(s:Ai):Prop
 |mk (i:Aj) (Y : _L.St) (H P:Hp) (J : Ab Af) (o:Ce) (env:qF) (S:ag) (ds:Ab D) (hn:n=items.length-i) (hi:i<=items.length) (st:gf B Yww pins P1 J1 fp acc env S ds s Y H P J o) (st1:tn i s.heap) (run:G (items.drop i) env S ds=R):_E B Yww pins P1 J1 fp acc tn G items R n s
section
variable {B:Acc}{ay:Cx}{dw tg iter:Bl}{fj:Ab Bl}{bp:Ab Dy}{ae:Ey}{ai:Ea}{k:Aj}{g:DG}{t:DT}{fe:DE}{it aq:Af}{fp:J9}{cg:It}{tn:Aj->Bc->Prop}{items:Ab D}{P1:Hp}{J1:J9}{aa:J0}
def _x {kk:DK}{Qa Qd:Ai->Prop}{Y:_L.St}{ds:Ab D}{o:Ce}{i:Aj}(hc:ay.calm=Vp)(hb:RR≠.bad)(hx:yb ay P1 J1 RR)
  (T:oh ay.prog ay.w ay.K tg cg fp it tn) (zc:pf ay.K cg P1 J1 o' items) (hg:PG ay tg (so ay g)) (ht:uz ay fj t) (he:ye B ay (λaq=>wD B.m dw bp ae ai k aq ay.env) kk) (n:∀ H:Hp,H aq=Zw->xO ay aa H aq) (yv:∀ H:Hp,(∀ b∈fp,H b=Zw)->∀ b∈fp,xO ay aa H b) (zs:aq ∉ fp)
  (hi:i<=items.length) (st:gf B ay aa P1 J1 fp aq ac S ds s Y H P J o) (z4:tn i s.heap) (run:iu o' g t kk (items.drop i) ac S ds=RR)
  (hA:∀ s' Y' H' P' J' o1 Q S' z3,i<items.length->gf B ay aa P1 J1 fp aq Q S' z3 s' Y' H' P' J' o1->tn (i+1) s'.heap->iu o' g t kk (items.drop (i+1)) Q S' z3=RR->Qa s')
  (hD:∀ s' Y' H' P' J' o' e z5 SF,RR=.ok (e,z5) SF->gf B ay aa P1 J1 fp aq e SF z5 s' Y' H' P' J' o'->Qd s') :
  Ap (As ay.prog ay.w) ay.A (Pi (.ref it)) (λr s1=>(r=Zw->Qd s1)/\∀ v,r=Aa v->Ap (As ay.prog ay.w) ay.A (Kn tg (.ref it) v) (λ_ s2=>Ap (As ay.prog ay.w) ay.A (assign tg ay.env v) (λ_ s3=>Ap (As ay.prog ay.w) ay.A (kW fj ay.env) (λb s4=>(b=Yp->Qa s4)/\(b=Vp->Ap (As ay.prog ay.w) ay.A (wD B.m dw bp ae ai k (.ref aq) ay.env) (λ_ j=>Qa j) ay.xe s4)) ay.xe s3) ay.xe s2) ay.xe s1) ay.xe s:=by
 have I1:=_D.Inv.pin1 st.inv (n H st.acn) st.at' (B.cell st.acc);have zn:=D0 yv zs o;by_cases A:i<items.length
 .have z8:items.drop i=items[i]::items.drop (i+1):=Rj A;rw[z8] at run;have run:=BE hb run;have z1:oy o' S:=by cases run with|no _ _ _ z=>exact z|yes _ _ _ _ _ _ z=>exact z|fl _ _ _ _ _ _ z=>exact z
  refine MB (T.item ay rfl rfl rfl hc i _ s Y H (λ_ _=>Fz) I1 (zn H st.fpn) z4 (zc.go i H P J S A st.rel z1 st.same st.pre)) λr s1 ⟨u,hr,h1⟩=>⟨λz=>(by rw[hr] at z;cases z),λv hv=>?_⟩
  obtain rfl:v=u:=Cw (hv.symm.trans hr);refine MB h1 λ_ s2 ⟨x,H2,I2,rx,y,w,yr⟩=>?_;obtain⟨P2,d,hd,r2,e2,rp⟩:=zc.yld i H x H2 P J S A st.rel z1 st.same st.pre y;cases (Be A).symm.trans hd;have pl:=T.obj _ _ w;have ys:=I2.pinned (zn _ yr) pl;have zl:∀ Q m b G,g items[i] ac S=.ok Q m->t Q m=.ok b G->(∀ s4 C O L I (M:Inv ay (aa++vG fp s2.heap) C O s4),gf B ay aa P1 J1 fp aq Q G ds s4 C O L I o->tn (i+1) s4.heap->(b=Yp->Qa s4)/\(b=Vp->Ap (As ay.prog ay.w) ay.A (wD B.m dw bp ae ai k (.ref aq) ay.env) (λ_ j=>Qa j) ay.xe s4))->Ap (As ay.prog ay.w) ay.A (assign tg ay.env v) (λ_ s3=>Ap (As ay.prog ay.w) ay.A (kW fj ay.env) (λb s4=>(b=Yp->Qa s4)/\(b=Vp->Ap (As ay.prog ay.w) ay.A (wD B.m dw bp ae ai k (.ref aq) ay.env) (λ_ j=>Qa j) ay.xe s4)) ay.xe s3) ay.xe s2:=by intro Q m b G q1 h next;refine bi (qCi hg ys r2 (st.env.mono e2 (Bm _)) rx rp q1) λ_ s3 ⟨C,H3,P3,J3,I3,r3,yq,e3,z2⟩=>?_;refine bi (qBm ht I3 r3 yq h) λb' s4 ⟨hb,O,L,I,M,r4,z7,e4,z6⟩=>?_;have f:Inv ay (aa++vG fp s2.heap) C O s4:=M.pins_of λp hp=>M.pin p (Cb _ ((Ch.mp hp).elim (λz=>Dh _ (Dh _ z)) λz=>Cb _ z));have a4:=M.pin (aq,o) (Cb _ (Dh _ (Cb _ (Bz.mpr rfl))));rw[hb];exact next s4 C O L I f ⟨f.unpinned,r4,z7,((st.same.trans e2).trans e3).trans e4,(st.pre.trans z2).trans z6,(gK T w pl f).2,a4.2.1,a4.1,B.mono ((e2.trans e3).trans e4) (z2.trans z6) st.acc⟩ (gK T w pl f).1
  have step:∀ Q G s4 C O L I (M:Inv ay (aa++vG fp s2.heap) C O s4),gf B ay aa P1 J1 fp aq Q G ds s4 C O L I o->kk Q G ds≠.bad->yb ay P1 J1 (kk Q G ds)->(∀ N q S5,kk Q G ds=.ok (N,q) S5->iu o' g t kk (items.drop (i+1)) N S5 q=RR)->Ap (As ay.prog ay.w) ay.A (wD B.m dw bp ae ai k (.ref aq) ay.env) (λ_ j=>Qa j) ay.xe s4:=by intro Q G s4 C O L I M U n1 n2 n3;refine bi (he (aa++vG fp s2.heap) P1 J1 aq Q G ds s4 (λH hn=>UR (n H hn) zs) ⟨C,O,L,I,o,M,U.rel,U.env,U.same,U.pre,λb hb=>(by cases hb),U.acn,U.at',U.acc⟩ n1 n2) λ_ j ⟨N,q,S5,q5,Y5,H5,P5,J5,o5,l⟩=>?_;exact hA j Y5 H5 P5 J5 o5 N S5 q A ⟨l.inv.unpinned,l.rel,l.env,l.same,l.pre,(gK T w pl l.inv).2,l.acn,l.at',l.acc⟩ (gK T w pl l.inv).1 (n3 _ _ _ q5)
  cases run with
  |no Q m G _ q1 h run=>exact zl Q m Yp G q1 h λs4 C O L I M U zo=>⟨λ_=>hA s4 C O L I o Q G ds A U zo run,λz=>(by cases z)⟩
  |yes Q m G N q S5 _ q1 h q3 run =>
   refine zl Q m Vp G q1 h λs4 C O L I M U zo=>⟨λz=>(by cases z),λ_=>step Q G s4 C O L I M U (by rw[q3];intro z;cases z) (λc x S z=>by rw[q3] at z;cases z) λe5 d5 j z=>?_⟩
   rw[q3] at z;cases z;exact run
  |fl Q m G c x S5 _ q1 h q3 run =>
   refine zl Q m Vp G q1 h λs4 C O L I M U zo=>⟨λz=>(by cases z),λ_=>step Q G s4 C O L I M U (by rw[q3];intro z;cases z) (by rw[q3,<- run];exact hx) λe5 d5 j z=>?_⟩
   rw[q3] at z;cases z
 .rw[Tx li] at run;obtain⟨z,hR⟩:=D3 hb run;refine MB (T.done ay rfl rfl rfl hc i _ s Y H (λ_ _=>Fz) I1 (zn H st.fpn) z4 (zc.stop i H P J _ li st.rel z st.same st.pre)) λr s1 ⟨hr,I2⟩=>⟨λ_=>?_,λv hv=>(by rw[hr] at hv;cases hv)⟩
  have a:=_D.Inv.pinned1 I2;exact hD s1 Y H P J o _ _ _ hR ⟨I2.unpinned,st.rel,st.env,st.same,st.pre,st.fpn,a.2,a.1,st.acc⟩
def WZ {kk:DK}{R:Qr->Ai->Prop}{Y:_L.St}{G:Ab D}{o:Ce}(hc:ay.calm=Vp)(hb:RR≠.bad)(hx:yb ay P1 J1 RR)(w:bp[k]? = Aa ⟨tg,iter,fj,0⟩)(has:∀ g',bp[k+1]? = Aa g'->g'.is_async=0)
  (T:oh ay.prog ay.w ay.K tg cg fp it tn) (y:pf ay.K cg P1 J1 o' items) (hg:PG ay tg (so ay g)) (ht:uz ay fj t) (he:ye B ay (λaq=>wD B.m dw bp ae ai k aq ay.env) kk) (C:∀ H:Hp,H aq=Zw->xO ay aa H aq) (v:∀ H:Hp,(∀ b∈fp,H b=Zw)->∀ b∈fp,xO ay aa H b) (d:aq ∉ fp)
  (st:gf B ay aa P1 J1 fp aq ac S G s Y H P J o) (z:tn 0 s.heap) (run:iu o' g t kk items ac S G=RR)
  (hR:∀ s' p H' f l o' Q O e,RR=.ok (Q,O) e->gf B ay aa P1 J1 fp aq Q e O s' p H' f l o'->R (.ok .next) s')
  (a:∀ u s',ay.xe u s'->Ap (As ay.prog ay.w) ay.A (Kf u ay.env) (λ_ U=>R (.error u) U) (λx U=>R (.error x) U) s') :
  Gs (As ay.prog ay.w) ay.A (.compLoop (wM B.m dw bp ae ai) k (.ref it) (.ref aq) ay.env) R s:=by
 refine codeAny_loop rfl (_E B ay aa P1 J1 fp aq tn (iu o' g t kk) items RR) (λn s hI=>?_) items.length ⟨0,Y,H,P,J,o,ac,S,G,rfl,EQ _,st,z,run⟩;obtain⟨i,Y,H,P,J,o,ac,S,ds,hn,hi,st,M,run⟩:=hI;subst hn;rw[BW,BX];refine wpAny_noted (Ga (ED (m:=B.m) (E:=ay.xe) w has (Qa:=λs'=>∃ m,m<items.length-i/\_E B ay aa P1 J1 fp aq tn (iu o' g t kk) items RR m s') (Qd:=R (.ok .next)) (λ_ h=>⟨rfl,h⟩) (λ_ h=>h) ?_) (λ_ _ q=>q) λu s' q=>a u s' q);exact _x hc hb hx T y hg ht he C v d hi st M run (λs' p H' f l o1 N S' r L A j I=>⟨_,Nat.sub_succ_lt_self _ _ L,i+1,p,H',f,l,o1,N,S',r,rfl,L,A,j,I⟩) hR
def FF (I:bp[k+1]? = Zw)(he:PE ay dw (tD ay fe)):ye og ay (λaq=>wD Yp dw bp ae ai k aq ay.env) (z9 fe):=by
 intro aa P1 J1 aq ac S Q s L ⟨Y,H,P,J,o,st⟩ A hx;show Ap _ _ (wD Yp dw bp ae ai k (.ref aq) ay.env) _ _ s;unfold wD;rw[I];dsimp only[_m];have fA:=L H st.acn;have I1:=_D.Inv.pin1 st.inv fA st.at' (og.cell st.acc);have af:qL ay P J ((fe ac S).bind λx w=>if Q.length<bb then ax.ok (ac,Q++[x]) w else .bad) λp G=>z9 fe ac S Q=.ok p G:=by
  have l:∀ c x G,z9 fe ac S Q=.ex c x G->∀ u m,p_ ay P J c x G u m->ay.xe u m:=λc x G z u m q=>hx c x G z u m (q.base st.same st.pre);unfold z9 at A l ⊢;cases q:(fe ac S).bind λx w=>if Q.length<bb then ax.ok (ac,Q++[x]) w else .bad with
  |bad=>exact absurd q A
  |ex c x G=>exact l c x G q
  |ok p G=>rfl
 refine Ad (bi (zO (g:=λx w=>if Q.length<bb then ax.ok (ac,Q++[x]) w else .bad) (Ok:=λp G=>z9 fe ac S Q=.ok p G) he I1 st.rel st.env af) λf r ⟨v5,a,P5,J5,d5,S5,O,M⟩=>?_);by_cases T:Q.length<bb
 .rw[Au T] at M;have M:z9 fe ac S Q=.ok (ac,Q++[d5]) S5:=M;have cg:=_D.Inv.pinned1 O.inv;have v:=O.inv.unpinned;obtain⟨N,U⟩:=cg;obtain⟨i,n5,h,ho,j,y,hz⟩:=st.acc;subst ho;have n:h.length=Q.length:=y.length.symm;have zc:=j.length;refine Ad (Jz Wz ⟨_,N,rfl⟩ Vy (Vi _ _) (Xx aq i.toArray n5 f (by rw[Bk];rw[<- zP];lia)) ⟨N,?_⟩);have q:=Zd N (·.push f);have C:=L a U;have d:∀ b o,b≠aq->r.heap.get? b=Aa o->(r.heap.update aq (Ex (·.push f))).get? b=Aa o:=λb o A e=>(Cj r.heap _ (Dm A)).trans e;have I6:=v.turned (t':=r.toks) d U C.2.1 C.2.2.2.1 C.2.2.2.2.1 C.2.2.2.2.2;refine An ⟨_,_,_,M,Y,a,P5,J5,_,I6,O.rel,O.env,st.same.trans O.same,st.pre.trans O.pre,λb A=>(by simp at A),U,q,?_⟩;refine⟨i++[f],_,h++[v5],by simp <;> rfl,j.append (.cons O.val .nil),?_,by simp;lia⟩;exact(qJ.mono O.same O.pre _ _ y).append (.cons O.rep .nil)
 .rw[AT T] at M;exact Am M
end
abbrev zT (X:Cx)(N:Y8)(ae:Ey)(U:Ab (Ah × Af))(C:Af)(G:J9)(Y:Ai)(Q:Hp)(E:J7):Cx:={ vE X N ae U C G Y Q with xe:=E }
def Inv.xeTo {X:Cx}{E:J7}(I:Inv X aa Y H s):Inv { X with xe:=E } aa Y H s:=Inv.re I X.A X.calm E I.ok.frames I.ok.hd
def Inv.xeOf {X:Cx}{E:J7}{aa:J0}{H:Hp}{s:Ai}(I:Inv { X with xe:=E } aa Y H s):Inv X aa Y H s:=Inv.unre (A:=X.A) (cm:=X.calm) (E:=E) I I.ok.frames I.ok.hd
theorem p_.xeOf {X:Cx}{E:J7}{P:Hp}{J:J9}{c:Ac}{S:ag}{u:Ac}{s:Ai}(h:p_ { X with xe:=E } P J c x S u s):p_ X P J c x S u s:=by
 obtain⟨e,j,Y,H,k,M,A,I,r,L,T,N,U,p⟩:=h;refine⟨e,j,Y,H,k,M,A,Inv.xeOf I,r,L,T,N,?_,p⟩;cases U with
 |new G t w C Q y O q=>exact .new G t w C Q y O q
 |fly B v U z=>exact .fly B v U z
theorem JS {en Q:Hn}(h:Q.frame=en.frame):Kf e Q=Kf e en:=by unfold Kf PySem.frameOf;rw[h]
section
variable {X:Cx}{ae:Ey}{N':Y8}{aa:J0}{Y: _L.St}{H2 P1:Hp}{J1:J9}{s2:Ai}{fp:J9}{C:Af}{cl:Ab (Ah × Af)}
def R0 (T:Inv X aa Y H2 s2)(F:Fn1 X)(L:∀ b∈fp,xO X aa H2 b)(h:p_ (vE X N' ae cl C fp s2 H2) P1 J1 c x d u s') :
  ∃ e H' N G dd,u=.ref e/\Inv X aa Y H' s'/\bf X.K H' N G d/\qO P1 N/\J1<+:G/\kx X aa H' c dd e s'.heap/\yi X.K N G c x dd/\H' C=Zw/\∃ m,s'.heap.Ns C m:=by
 obtain⟨e,Q,Y',H',N,G,rfl,I,r,q1,q2,dd,w,ln⟩:=h;have un:Un (gx X.stack) fp H2 H' s2.heap s'.heap:=I.base;have cg:Inv X aa Y H' s':=T.call' (ch:=fp) I.os un I.hok I.bare λb hb=>by obtain⟨_,h1,h2,h3,j,k⟩:=L b hb;exact⟨h3,h1,j,k⟩
 have O:∀ b,qm X aa H' b->qm (vE X N' ae cl C fp s2 H2) Q H' b:=λb o=>by
  rcases o with⟨o,z,g⟩|z|⟨p,f,rfl⟩|⟨y,z⟩
  .have l:b ∉ fp:=λU=>by
    obtain⟨_,_,_,h3,_⟩:=L b U;rcases h3 with h3|h3
    .exact g h3
    .exact absurd (Bh z) (Me.mpr h3)
   obtain⟨o',z'⟩:=T.base.there b o z g;exact .inl ⟨o',z',l⟩
  .exact .inr (.inl z)
  .refine .inl ⟨_,(T.pin p f).1,λU=>?_⟩;obtain⟨_,_,_,_,_,k⟩:=L _ U;exact k p f rfl
  .obtain⟨v,A,a,_⟩:=T.cell y b z;refine .inl ⟨A,a,λU=>?_⟩;obtain⟨_,_,_,_,j,_⟩:=L _ U;exact j y b z rfl
 obtain⟨m,U,_⟩:=I.loc;refine⟨e,H',N,G,dd,rfl,cg,r,q1,q2,?_,ln,I.free,m,U⟩;cases w with
 |new A t he hc M hd i l=>exact .new A t he hc M hd (λz=>i (O e z)) l
 |fly B v w cv=>exact .fly B v w λb o z q n=>cv b o z (O b q) n
def D4 {en:Hn}(I2:Inv X aa Y H2 s2)(F:Fn1 X)(hf:∀ b∈fp,xO X aa H2 b)(hC:s2.heap.objs.size<=C)(he:en.frame=X.env.frame)(h:p_ (vE X N' ae cl C fp s2 H2) P1 J1 c x SF u s')
  (hX:∀ u s,p_ X P1 J1 c x SF u s->X.xe u s) {E:J7} :
  a8 X (Kf u en) (λ_ N=>∃ m,N.heap.Ns C m/\∀ h',Ew C N.heap h'->∀ Q:Hn,Q.locals=C->a8 X (Xo "comprehension.variables-let-go" u Q:Km Ac) (λ_ _=>Fz) X.xe { N with heap:=h' }) E s':=by
 obtain⟨e,H',P',J',dd,rfl,I,r,q1,q2,fl,ln,A,m,hm⟩:=R0 I2 F hf h;rw[JS he];have t:=I2.fpOk hC A;refine YV I F I.ok.frames fl λh1 B k cv up=>?_;obtain⟨I1,j⟩:=Inv.fly I F cv k.1 up;refine⟨m,up.ns hm,λh' sb Q _=>?_⟩;have I3:Inv X aa Y H' { s' with heap:=h' }:=I1.turned (t':=s'.toks) (λb o hb z=>(sb.2 b hb).trans z) A t.2.1 t.2.2.2.1 t.2.2.2.2.1 t.2.2.2.2.2;obtain⟨no,nf,_⟩:=sY I1 k j;obtain⟨k1,k2,k3,oe,vs,T,i,ts,O,z1,L,p,zl,nT,ne,d,G,h3⟩:=k;have nC:∀ b o ws,h1.get? b=Aa o->o.data=.fields ws->b≠C:=λb o ws z hd w=>by subst w;obtain⟨o',es,ep,zo,U,_⟩:=up.ns hm;rw[z] at zo;cases zo;rw[hd] at U;cases U
 have z3:h'.get? e=Aa oe:=(sb.2 e (nC e oe vs O p)).trans O;have z5:h'.get? T=Aa i:=(sb.2 T (nC T i ts d G)).trans d;have zn:¬ qm X aa H' T:=λo=>by
  have zs:T ∉ gx X.stack:=λz=>by obtain⟨_,o,ho,hn⟩:=I1.stack.mem z;rw[d] at ho;cases ho;exact hn ts G
  have:=j T i d o zs;rw[nT] at this;cases this
 have b1:=Tz (as:=e::T::gx X.stack) I3.stack λac he a ha=>Bn _ (Bn _ (Ir.mpr ⟨ac,he,ha⟩));have b2:Cv X aa H' (Gk h' (e::T::gx X.stack)) h':=λb o q M n=>Pm _ q λw=>(Av.mp w).elim (λw=>no (w▸M)) λw=>(Av.mp w).elim (λw=>zn (w▸M)) n;have b3:(Gk h' (e::T::gx X.stack)).get? e=none:=Ls _ Cr;have b4:(Gk h' (e::T::gx X.stack)).StaysIn h':=λb o q=>Qi _ q;have b5:(Gk h' (e::T::gx X.stack)).get? T=none:=Ls _ (Bn _ Cr);generalize Gk h' (e::T::gx X.stack)=B' at b1 b2 b3 b4 b5;have K:ud B' X.stack e c dd (Ju X.env.locals) h':=⟨b4,b3,b1,.mk oe vs T i ts z3 z1 L p zl b5 ne z5 G h3⟩;obtain⟨z7,z8,T',yq,yr,y,_,_,U,g,z6,l,zc,K',z2⟩:=iQ (v:=Q.frame.elim .none λf=>Ju f) K;obtain⟨I4,z4⟩:=Inv.fly I3 F b2 K'.1 z2;unfold Xo;refine Ad (Dt y U g ?_);rw[AT (show ¬((Cc T' == Ei)=Vp) from by simp)];unfold Rl;refine Ad (Ad (Dt y U g ?_));rw[Au (show (Cc T' != Ei)=Vp from by simp)];refine Gj z6 l (Cq.mp zc).1 ?_;exact Us (hX _ _ ⟨e,aa,Y,H',P',J',Z,I4,r,q1,q2,dd,.fly B' _ K' z4,ln⟩)
end
noncomputable def xw (m:Ar)(r:ax (qF × Ab D)):ax D:=match r with
 |.ok p Q=>if m then .ok (.loc Q.length) (Q++[.lst p.2]) else .ok (.lst p.2) Q
 |.ex c x S=>.ex c x S
 |.bad=>.bad
def zC (m:Ar)(cr:Ab (Al Aj))(fi:qo)(g:DG)(t:DT)(k:DK):DE:=λac S=>(fi ac S).bind λp Q=>xw m (iu p.1 g t k p.2 (xB cr ac) Q [])
section
variable {X:Cx}{dw tg iter:Bl}{fj:Ab Bl}{ae:Ey}{ai:Ea}{N':Y8}{cr:Ab (Al Aj)}{fi:qo}{g:DG}{t:DT}{kk:DK}{aw:Ab Dy}{mm:Ar}
def tZ {B:Acc}{o0:Ce}{aa:J0}{Y:_L.St}{l P1:Hp}{J1:J9}{Q:Ai}{S1:ag}{RV:ax (qF × Ab D)}{items:Ab D}{it:Af}{fp:J9}{tn:Aj->Bc->Prop}{cg:It}{RR:Ac->Af->Qr->Ai->Prop}
  (hc:X.calm=Vp) (F:Fn1 X) (A:RV≠.bad) (hX:yb X P1 J1 RV) (S:gk X.env.scope X.N ae N' cr) (has:∀ g',(⟨tg,iter,fj,0⟩::aw:Ab Dy)[0+1]? = Aa g'->g'.is_async=0)
  (hg:∀ y C ex U G E,PG (zT X N' ae y C ex U G E) tg (so (zT X N' ae y C ex U G E) g))
  (ht:∀ y C ex U G E,uz (zT X N' ae y C ex U G E) fj t) (he:∀ y C ex U G E,ye B (zT X N' ae y C ex U G E) (λaq=>wD B.m dw (⟨tg,iter,fj,0⟩::aw) ae ai 0 aq (zT X N' ae y C ex U G E).env) kk)
  (n:Inv X aa Y l Q) (r:bf X.K l P1 J1 S1) (re:zK X.K P1 J1 Y ac) (T:oh X.prog X.w X.K tg cg fp it tn) (zc:tn 0 Q.heap) (hf:∀ b∈fp,xO X aa l b) (z3:pf X.K cg P1 J1 o' items) (run:iu o' g t kk items (xB cr ac) S1 [] = RV)
  (h0:B.O X.K P1 J1 [] o0) (z6:o0.isFreed=Yp) (z7:∀ aq C s',Q.heap.objs.size<=aq->(∃ m,s'.heap.Ns C m)->Q.heap.objs.size<=C->aq≠C->(∃ y Y' H' P' J' o' j ds SF,RV=.ok (j,ds) SF/\gf B (vE X N' ae y C fp Q l) [] P1 J1 fp aq j SF ds s' Y' H' P' J' o')->RR (.ref aq) C (.ok .next) s')
  (z4:∀ aq C u M,(∃ m,M.heap.Ns C m/\∀ h',Ew C M.heap h'->∀ O:Hn,O.locals=C->a8 X (Xo "comprehension.variables-let-go" u O:Km Ac) (λ_ _=>Fz) X.xe { M with heap:=h' }) -> RR aq C (.error u) M) :
  a8 X (Vd ae X.env.globals (u4 X.env.cells ae.names []) [] X.env.qual Zw .none (Aa X.env)) (λO z1 =>
   Gs (As X.prog X.w) X.A (.compStart (wM B.m dw (⟨tg,iter,fj,0⟩::aw) ae ai) 0 (.ref it) (.ref Q.heap.objs.size) { O with scope:=relabel ae X.env }) (RR (.ref Q.heap.objs.size) O.locals) z1) E { Q with heap:=Q.heap.push o0 }:=by
 have f:∀ b∈fp,b<Q.heap.objs.size:=λb A=>by obtain⟨o,e,_⟩:=T.obj 0 _ zc b A;exact Bh e
 refine UF ?_;dsimp only;generalize zl:Q.heap.push o0=N;have zn:N.objs.size=Q.heap.objs.size+1:=by rw[<- zl,Ep]
 have hC:Q.heap.objs.size<=N.objs.size:=by rw[zn];exact Jx _
 have zo:Q.heap.objs.size≠N.objs.size:=by rw[zn];exact Cm (Fv _)
 have kp:∀ b o,N.get? b=Aa o->(Ya (N.push { cls:=.type "dict",data:=.dict #[] }) ae.names).get? b=Aa o:=λb o e=>pushCells_keeps _ _ b o (Ak _ e);have I:(Ya (N.push { cls:=.type "dict",data:=.dict #[] }) ae.names).Ns N.objs.size (λ_=>Zw):=(Heap.Ns.new N (.type "dict")).keeps (pushCells_keeps _ _);have co:=cellsFrom_ok ae.names (N.push { cls:=.type "dict",data:=.dict #[] }) (N.objs.size+1) [] ⟨λ_ _ d=>(nomatch d),Nt⟩ (by rw[Ep];exact Ay _);rw[Ep] at co;generalize z5:Ya (N.push { cls:=.type "dict",data:=.dict #[] }) ae.names=L at kp I co ⊢;have w:∀ b o,Q.heap.get? b=Aa o->L.get? b=Aa o:=λb o e=>kp b o (zl▸Ak _ e);have z2:L.get? Q.heap.objs.size=Aa o0:=kp _ _ (zl▸Bf _ z6);have I4:∀ a,Inv (vE X N' ae (kE X ae N.objs.size) N.objs.size fp Q l) [] (uE cr Y) l { Q with heap:=L,toks:=a }:=λa =>
  P8 (s4:={ Q with heap:=L,toks:=a }) S n hf f hC I Z Z w co
 have i:∀ a,Gs (As X.prog X.w) X.A (.compLoop (wM B.m dw (⟨tg,iter,fj,0⟩::aw) ae ai) 0 (.ref it) (.ref Q.heap.objs.size) (compEnvC ae (kE X ae N.objs.size) N.objs.size X.env)) (RR (.ref Q.heap.objs.size) N.objs.size) { Q with heap:=L,toks:=a }:=λa=>by
  refine WZ (B:=B) (kk:=kk) (o':=o') (RR:=RV) (ay:=zT X N' ae (kE X ae N.objs.size) N.objs.size fp Q l (λu s'=>∃ c x S,RV=.ex c x S/\p_ (vE X N' ae (kE X ae N.objs.size) N.objs.size fp Q l) P1 J1 c x S u s')) (aa:=[]) (fp:=fp) (aq:=Q.heap.objs.size) (P1:=P1) (J1:=J1) (Y:=uE cr Y) (H:=l) (P:=P1) (J:=J1) (o:=o0) hc A (λc x S z u s' q=>⟨c,x,S,z,p_.xeOf q⟩) Z has T z3
   (hg _ _ _ _ _ _) (ht _ _ _ _ _ _) (he _ _ _ _ _ _) (λH hn=>?_) (λH hn b A=>?_) (λd=>Fg _ (f _ d)) ⟨Inv.xeTo (I4 a),r,KE re cr,qO.refl _,Bm _,λb A=>(hf b A).1,n.hok.fresh (Ay _),z2,h0⟩ (T.keep _ _ _ zc λb A o e=>w b o e) run (λs' Y' H' P' J' o' j ds SF hR st=>?_) λu s' ⟨c,x,S',hR,q⟩=>Ga (D4 n F hf hC (en:=compEnvC ae (kE X ae N.objs.size) N.objs.size X.env) Z q (hX c x S' hR)) (λ_ M q=>z4 _ _ _ _ q) λ_ _ q=>q
  .refine⟨hn,zo,λd=>?_,.inr (Ay _),λx c h z=>?_,λp hp=>absurd (show p∈([]:J0) from hp) aA⟩
   .obtain⟨_,o,ho,_⟩:=n.stack.mem d;exact Fg _ (Bh ho)
   .rcases xX S n.ok h with⟨m,_⟩|⟨m,_⟩
    .exact Fg _ (Ql hC (z▸(co.empty x c m).2))
    .obtain⟨v,ob,zs,_⟩:=n.cell x c m;rw[z] at zs;exact Fg _ (Bh zs)
  .obtain⟨_,h1,h2,h3,h4,h5⟩:=hf b A;refine⟨hn b A,Cm (Bq (f b A) hC),λd=>?_,.inl A,λx c h=>(by
    rcases xX S n.ok h with⟨m,_⟩|⟨m,_⟩
    .exact Dm (Cm (Ng (Bq (f b A) hC) (co.empty x c m).2))
    .exact h4 x c m),λp hp=>absurd (show p∈([]:J0) from hp) aA⟩
   rcases Av.mp (n.stkSub b d) with z|z
   .exact h1 z
   .exact h2 z
  .obtain⟨m,d,_⟩:=st.inv.loc;exact z7 _ _ s' (Ay _) ⟨m,d⟩ hC zo ⟨_,_,_,_,_,_,_,_,_,hR,⟨Inv.xeOf st.inv,st.rel,st.env,st.same,st.pre,st.fpn,st.acn,st.at',st.acc⟩⟩
 exact iB (k:=0) Z Z (i _) (T.self X.A 0 _ _ _ (T.keep _ _ _ zc λb A o e=>w b o e) (i _))
def PL (hc:X.calm=Vp)(F:Fn1 X)(S:gk X.env.scope X.N ae N' cr)(hi:PI X tg iter (sk X fi))
  (hg:∀ A C ex G U E,PG (zT X N' ae A C ex G U E) tg (so (zT X N' ae A C ex G U E) g))
  (ht:∀ A C ex G U E,uz (zT X N' ae A C ex G U E) fj t) (has:∀ g',(⟨tg,iter,fj,0⟩::aw:Ab Dy)[0+1]? = Aa g'->g'.is_async=0) (he:∀ A C ex G U E,ye og (zT X N' ae A C ex G U E) (λaq=>wD Yp dw (⟨tg,iter,fj,0⟩::aw) ae ai 0 aq (zT X N' ae A C ex G U E).env) kk)
  (hs:∀ x,Gy iter X.env x=pure x:=by intro _;rfl):PE X (.ListComp dw (⟨tg,iter,fj,0⟩::aw) ae ai) (tD X (zC mm cr fi g t kk)):=by
 intro aa s Y H Q I h;obtain⟨P,J,ac,S0,r,re,af⟩:=h;rw[eval_ListComp];have N:qL X P J ((fi ac S0).bind λp L=>xw mm (iu p.1 g t kk p.2 (xB cr ac) L [])) (gy X P J Q):=af;refine Sj (use:=Zw) rfl hs (ZE S I.ok) S.kind S.names ?_;refine bi (hi aa s Y H (λcg H1=>∃ (M:Hp) (w:J9) (p:Al (Aj × MO) × Ab _D.D) (L:ag),bf X.K H1 M w L/\qO P M/\J<+:w/\pf X.K cg M w p.1 p.2/\qL X P J (xw mm (iu p.1 g t kk p.2 (xB cr ac) L [])) (gy X P J Q)) I ⟨P,J,ac,S0,r,re,?_⟩) λxv s1 h1=>bi h1 λzs s2 h2=>?_
 .cases q:fi ac S0 with
  |bad=>rw[q] at N;exact N
  |ex c x S'=>rw[q] at N;exact N
  |ok p L=>rw[q] at N;exact λcg H1 M w r1 y j it=>⟨M,w,p,L,r1,y,j,it,N⟩
 obtain⟨it,fp,tn,cg,H2,rfl,I2,T,f,hf,M,w,p,L,r1,y,j,i,O⟩:=h2;generalize run:iu p.1 g t kk p.2 (xB cr ac) L [] = RV at O;have hb:RV≠.bad:=λz=>by subst z;exact O
 have hX:yb X M w RV:=λc x S z=>by subst z;exact λu d q=>O u d (q.base y j)
 refine Dj (tZ (RV:=RV) (B:=og) (o0:={ cls:=.type "list",dict:=Zw,data:=.seq ([] : Ab Ac).toArray }) (RR:=λaq C=>compPost (As X.prog X.w) X.A X.xe Zw (EP X aa Y Q) aq C) hc F hb hX S has hg ht he I2 r1 (re.mono y j) T f hf i run ⟨[],0,[],rfl,.nil,.nil,EQ _⟩ rfl ?_ λaq C u zo q=>q);intro aq C d hA ⟨m,hm⟩ hC b ⟨A,Yf,Hf,Pf,Jf,of,zn,ds,l,hR,zc⟩;subst hR;have ok:if mm then gy X P J Q (.loc l.length) (l++[.lst ds]) else gy X P J Q (.lst ds) l:=by cases mm <;> exact O
 have zl:∀ k,Ew C d.heap k->gU X aa Y M w ds l aq C { d with heap:=k }:=λk sb=>iC I2 hf Z hC hA b zc sb;refine⟨m,hm,λk sb=>B5 (mm:=mm) (zl k sb) ?_⟩;cases mm with
 |false=>exact λv a P3 J3 r3 q1 n e=>ok v a P3 J3 r3 (y.trans q1) (j.trans n) e
 |true=>exact λv a P3 J3 r3 q1 n e=>ok v a P3 J3 r3 (y.trans q1) (j.trans n) e
def B0 {i:Aj}{y:Ah}{py M:Ea}(hc:X.calm=Vp)(F:Fn1 X)(hN:X.N.Nodup)(S:gk X.env.scope X.N ae N' cr)(hi:PI X tg iter (sk X fi))
  (hg:∀ j C ex U G E,PG (zT X N' ae j C ex U G E) tg (so (zT X N' ae j C ex U G E) g))
  (ht:∀ j C ex U G E,uz (zT X N' ae j C ex U G E) fj t) (has:∀ g',(⟨tg,iter,fj,0⟩::aw:Ab Dy)[0+1]? = Aa g'->g'.is_async=0) (he:∀ j C ex U G E,ye og (zT X N' ae j C ex U G E) (λaq=>wD Yp dw (⟨tg,iter,fj,0⟩::aw) ae ai 0 aq (zT X N' ae j C ex U G E).env) kk)
  (hy:X.N[i]? = Aa y:=by rfl) (z4:Loc X.env.scope y:=by first|exact Aa8 rfl|exact Ze rfl) (hf:X.fn y=Vp\/X.env.scope.names.lookup y=Aa .local:=by first|exact .inl rfl|exact .inr rfl|assumption)
  (hsw:Md (.ListComp dw (⟨tg,iter,fj,0⟩::aw) ae ai) (Aa (.Name y py)) M.line X.env=pure true:=by rfl)
  (hs:∀ x,Gy iter X.env x=pure x:=by intro _;rfl):PS X (.Assign [.Name y py] (.ListComp dw (⟨tg,iter,fj,0⟩::aw) ae ai) M) (ir X (qV (zC mm cr fi g t kk) (bc i))):=by
 intro aa s Y H D I h;obtain⟨P,J,ac,S0,r,re,af⟩:=h;have z7:=yA af;have N:qL X P J ((fi ac S0).bind λp f=>xw mm (iu p.1 g t kk p.2 (xB cr ac) f [])) (λd S=>zI X P J (.nx (ac.set i (Aa d)) S) D):=z7;rw[exec_Assign_Name_used _ _ _ _ hsw];refine Ad (Ig (Ad ?_));show Ap _ X.A (do let _ <- comprehension (.ListComp dw (⟨tg,iter,fj,0⟩::aw) ae ai) ae X.env _ (newList []) Yp (eval iter X.env) (Aa (assign (.Name y py) X.env))) _ _ s;refine Ad (Ga (Sj (use:=Aa (assign (.Name y py) X.env)) (Q:=λ_ A=>SP X aa D .next A) Z hs (ZE S I.ok) S.kind S.names ?_) (λ_ A hq=>An (An hq)) λ_ _ e=>e);refine bi (hi aa s Y H (λcg H1=>∃ (n:Hp) (l:J9) (p:Al (Aj × MO) × Ab _D.D) (f:ag),bf X.K H1 n l f/\qO P n/\J<+:l/\pf X.K cg n l p.1 p.2/\qL X P J (xw mm (iu p.1 g t kk p.2 (xB cr ac) f [])) (λd S=>zI X P J (.nx (ac.set i (Aa d)) S) D)) I ⟨P,J,ac,S0,r,re,?_⟩) λxv s1 h1=>bi h1 λyr s2 h2=>?_
 .cases q:fi ac S0 with
  |bad=>rw[q] at N;exact N
  |ex c x S'=>rw[q] at N;exact N
  |ok p f=>rw[q] at N;exact λcg H1 n l r1 k v it=>⟨n,l,p,f,r1,k,v,it,N⟩
 obtain⟨it,fp,tn,cg,H2,rfl,I2,T,z3,zn,n,l,p,f,r1,k,v,zo,L⟩:=h2;generalize run:iu p.1 g t kk p.2 (xB cr ac) f [] = RV at L;have hb:RV≠.bad:=λz=>by subst z;exact L
 have hX:yb X n l RV:=λc x S z=>by subst z;exact λu A q=>L u A (q.base k v)
 refine Dj (tZ (RV:=RV) (B:=og) (o0:={ cls:=.type "list",dict:=Zw,data:=.seq ([] : Ab Ac).toArray }) (RR:=λaq C=>compPost (As X.prog X.w) X.A X.xe (Aa (assign (.Name y py) X.env)) (λ_ A=>SP X aa D .next A) aq C) hc F hb hX S has hg ht he I2 r1 (re.mono k v) T z3 zn zo run ⟨[],0,[],rfl,.nil,.nil,EQ _⟩ rfl ?_ λaq C u yq q=>q);intro aq C A hA ⟨m,hm⟩ hC zl ⟨j,_,Hf,Pf,Jf,of,z8,ds,SF,hR,z1⟩;subst hR;have z2:∀ h',Ew C A.heap h'->gU X aa Y n l ds SF aq C { A with heap:=h' }:=λh' sb=>iC I2 zn rfl hC hA zl z1 sb;show Ap _ X.A (assign (.Name y py) X.env (.ref aq)) _ _ A;obtain⟨H3,P3,J3,vs,I3,r3,zc,q1,q2,rp,z6⟩:=z2 A.heap (Yf _ _);obtain⟨r4,e4⟩:=r3.pure (o:=.lst vs) zc;have w:(bz H3 aq (.lst vs)) C=none:=by rw[qP (Dm zl)];exact z6
 have fC:=I2.fpOk hC w;refine Xq (cM I3 hN hy z4 (show qT (V.ref aq) (Cc aq) from Z) (λs5 I5 ⟨a,sb,ha⟩=>?_) hf);have z5:C≠a:=by
  rcases ha with rfl|ha
  .exact fC.2.1
  .exact λz=>fC.2.2.2.2.1 _ _ ha z.symm
 refine⟨m,hm.sameBut sb z5,λh' zs=>?_⟩;have I6:Inv X aa (Y.set i (Aa (V.ref aq))) (bz H3 aq (.lst vs)) { s5 with heap:=h' }:=I5.turned (t':=s5.toks) (λb o hb e=>(zs.2 b hb).trans e) w fC.2.1 fC.2.2.2.1 fC.2.2.2.2.1 fC.2.2.2.2.2;cases mm with
 |false =>
  have ok:zI X P J (.nx (ac.set i (Aa (.lst ds))) SF) D:=L;refine⟨_,_,I6,ok _ _ (bz P3 aq (.lst vs)) J3 r4 ?_ ((k.trans q1).trans e4) (v.trans q2)⟩;exact((re.mono k v).mono (q1.trans e4) q2).set i (rV (.inl (.inl qX)) (qJ.mono e4 (Bm _) _ _ rp))
 |true =>
  have O:J3<+:J3++[aq]:=Iu _ _;have r5:=r3.new (o:=.lst vs) (m:=.lst ds) zc ⟨vs,qX,qJ.mono (qO.refl _) O _ _ rp⟩;have ok:zI X P J (.nx (ac.set i (Aa (.loc SF.length))) (SF++[.lst ds])) D:=L;refine⟨_,_,I6,ok _ _ P3 (J3++[aq]) r5 ?_ (k.trans q1) ((v.trans q2).trans O)⟩;refine((re.mono k v).mono q1 (q2.trans O)).set i ?_;simp only[am];exact⟨aq,Z,by rw[<- r3.len];simp⟩
end
def kh (F:DF):DF:=F
structure _B (B:Acc)(Yww:Cx)(step:Ac->Km Nx)(k:DK):Prop where
 get:ye B Yww step k
section
variable {X ay:Cx}{e dw tg iter:Bl}{es fj:Ab Bl}{fe:DE}{fA:DA}{f2:qo}{g:DG}{t:DT}{kk:DK}{x:Ah}{p ai:Ea}{F:DF}{cm mm:Ar}{k n:Aj}{bp jt:Ab Dy}{ae:Ey}{cr:Ab (Al Aj)}
def qCk (G:DfS F X.prog X.w X.K X.mg X.base cm k x n)(M:RoomC cm k X.A)(h:Ck (oz X x))(C:QA X (e::es) fA)(s:St1 X e es ai):QE X (.Call (.Name x p) (e::es) [] ai) (qI n (kh F) fA):=by have h:=xH h;obtain⟨f,fd,ps,q,i,A,L,hl,G⟩:=G.1;refine⟨λaa s0 Y H Q I w=>?_⟩;obtain⟨P,J,ac,S,r,v,j⟩:=w;refine Hr (y8 I h.1 i ?_ h.2.1);refine My (h₀:=X.base) I.ok.mod.kin A (bi (yE C.1 I r v j ai) λus b ⟨vs,a,P1,J1,ds,S1,O,m,l,T,y,z,B,N⟩=>⟨O.kIn,?_⟩) s.1 s.2;obtain⟨d,U⟩:=eS (ac:=ac) (S:=S) N;exact pW G M L O l m y d (qW.base z B U)
def qCs (Q:bp[k+1]? = Zw)(Y:QE ay dw fe):_B og ay (λaq=>wD Yp dw bp ae ai k aq ay.env) (z9 fe):=⟨FF Q Y.1⟩
def qCm (S:Ck (cX X.env.scope X.N ae cr))(O:X.calm=Vp)(N:Fn1 X)(T:Z0 X tg iter f2)(L:∀ U C G Y Q E,QG (zT X (vJ ae) ae U C G Y Q E) tg g)(B:∀ U C G Y Q E,zv (zT X (vJ ae) ae U C G Y Q E) fj t)
  (has:∀ g',(⟨tg,iter,fj,0⟩::jt:Ab Dy)[0+1]? = Aa g'->g'.is_async=0)
  (I:∀ U C G Y Q E,_B og (zT X (vJ ae) ae U C G Y Q E) (λaq=>wD Yp dw (⟨tg,iter,fj,0⟩::jt) ae ai 0 aq (zT X (vJ ae) ae U C G Y Q E).env) kk) (hs:∀ x,Gy iter X.env x=pure x) :
  QE X (.ListComp dw (⟨tg,iter,fj,0⟩::jt) ae ai) (zC mm cr f2 g t kk):=
 ⟨PL O N (iA S) T.1 (λU C G s H E=>(L U C G s H E).1) (λU C G s H E=>(B U C G s H E).1) has (λU C G s H E=>(I U C G s H E).1) hs⟩
def qE3 {O N:Ea}(hsw:Md (.ListComp dw (⟨tg,iter,fj,0⟩::jt) ae ai) (Aa (.Name y O)) N.line X.env=pure Vp)(S:Ck (cX X.env.scope X.N ae cr))(L:Ck (y_ X m y))(I:X.calm=Vp)(T:Fn1 X)(w:Z0 X tg iter f2)(M:∀ U C G Y Q E,QG (zT X (vJ ae) ae U C G Y Q E) tg g)(A:∀ U C G Y Q E,zv (zT X (vJ ae) ae U C G Y Q E) fj t)
  (has:∀ g',(⟨tg,iter,fj,0⟩::jt:Ab Dy)[0+1]? = Aa g'->g'.is_async=0)
  (B:∀ U C G Y Q E,_B og (zT X (vJ ae) ae U C G Y Q E) (λaq=>wD Yp dw (⟨tg,iter,fj,0⟩::jt) ae ai 0 aq (zT X (vJ ae) ae U C G Y Q E).env) kk) (hs:∀ x,Gy iter X.env x=pure x) :
  QS X (.Assign [.Name y O] (.ListComp dw (⟨tg,iter,fj,0⟩::jt) ae ai) N) (qV (zC mm cr f2 g t kk) (bc m)):=
 have h:=oM L
 ⟨B0 I T h.2.2.1 (iA S) w.1 (λU C G s H E=>(M U C G s H E).1) (λU C G s H E=>(A U C G s H E).1) has (λU C G s H E=>(B U C G s H E).1) h.1 h.2.1 h.2.2.2 hsw hs⟩
end
end _D
namespace _D
open _L _H
section
variable {X:Cx}
def pN:D->Ab D->ag->ax D:=λa Q S=>match a,Q with
 |.str x,[]=>if (Txt.upper x).length<=bb then .ok (.str (Txt.upper x)) S else .bad
 |_,_=>.bad
set_option tactic.hygienic true in
def F3:sy X "str.upper" pN:=by
 intro T Y H s P J S v L E A a B Q I r O p G N U;unfold pN at U;split at U;rename_i x;obtain⟨C,U⟩:=xD (X:=X) U;simp only[am] at p;subst p;obtain⟨t,rfl⟩:=O;cases N.nil_inv;cases G;exact SC.upper (Bo (by rw[zP] at C;fin2)) ⟨.str _,H,I.tok _,⟨_,rfl⟩,xr U r (by simp only[am])⟩;exact Am U
def qDX:ub X "str.upper" pN:=⟨F3⟩
end
end _D
namespace _D
variable {ds:Ab D}{v:Ac}{n p:Aj}{lo hi:Al Aq}{a b:Aq}{f1:DE}{F:DF}{gs:ur}{S1 S':ag}
def Ok {β:Type}(r:ax β)(Q:β->ag->Prop):Prop:=∃ d S,r=.ok d S/\Q d S
def qD {β:Type}{r:ax β}{Q:β->ag->Prop}{d:β}{S:ag}(h:r=.ok d S)(q:Q d S):Ok r Q:=⟨d,S,h,q⟩
def bP {fe:DE}{S:ag}{aq:Ab D}(h:fe ac S=.ok x S1)(Q:aq.length<bb):z9 fe ac S aq=.ok (ac,aq++[x]) S1:=by unfold z9;rw[h];simp[ax.bind,Q]
def gA {fi:qo}{ac Q:qF}{S:ag}{o:Al (Aj × MO)}{items:Ab D}(h:fi ac S=.ok (o,items) S1)(e:iu o g t k items (xB cr ac) S1 [] = .ok (Q,ds) S'):zC Yp cr fi g t k ac S=.ok (.lst ds) S':=by unfold zC;rw[h];simp only[ax.bind,e,xw];rfl
def XX {f:DE}{S:ag}{ac:qF}(hs:yG n ds=ac)(h:f ac S=.ok d S'):qM n (qN f) ds S=.ok d S':=by subst hs;unfold qM qN;rw[h];rfl
def pX {g:DS}{S:ag}{ac:qF}(hs:yG n ds=ac)(h:g ac S=.rt d S'):qM n g ds S=.ok d S':=by subst hs;unfold qM;rw[h];rfl
def ZL {J β:Type}(Q:J->Ar)(Y:J->β)(l:Ab J) : (l.flatMap λd=>if Q d then [Y d] else []) = (l.filter Q).map Y:=by
 induction l with
 |nil=>rfl
 |cons d l U =>
  rw[Ha,U];cases h:Q d <;> simp[h]
theorem zb {J:Type}{cq:J->D}{g:DG}{t:DT}{k:DK}(U:J->Ab D)(C:qF->ag->Prop)(B:∀ ac S,C ac S->oy o S) :
  ∀ (xs:Ab J) (ac:qF) (S:ag) (aq:Ab D),C ac S->aq.length+(xs.flatMap U).length<=bb ->
  (∀ x∈xs,∀ ac S aq,C ac S->aq.length+(U x).length<=bb->∃ Q S1 b O,g (cq x) ac S=.ok Q S1/\t Q S1=.ok b O/\((b=Yp/\U x=[]/\C Q O)\/(b=Vp/\∃ G L,k Q O aq=.ok (G,aq++U x) L/\C G L))) ->
  ∃ Y S',iu o g t k (xs.map cq) ac S aq=.ok (Y,aq++xs.flatMap U) S'/\C Y S'
 |[],ac,S,aq,h,H,_=>⟨ac,S,by simp[iu,yT.mpr (B _ _ h)],h⟩
 |x::xs,ac,S,aq,h,H,step=>by
  rw[Ha,Az] at H;obtain⟨Q,S1,b,O,E,I,r⟩:=step x (Cr ..) ac S aq h om;have N:=yT.mpr (B _ _ h);rcases r with⟨rfl,z,M⟩|⟨rfl,G,L,w,A⟩
  .obtain⟨Y,S',e,q⟩:=zb U C B xs Q O aq M om λd T=>step d (Bn _ T);refine⟨Y,S',?_,q⟩;simp only[Ej,iu,N,Dr,E,I,ax.bind,Bt,Dq,Ha,z,Ji];exact e
  .obtain⟨Y,S',e,q⟩:=zb U C B xs G L (aq++U x) A (by rw[Az];fin2) λd T=>step d (Bn _ T);refine⟨Y,S',?_,q⟩;simp only[Ej,iu,N,Dr,E,I,ax.bind,w,Ha];rw[e,Ia]
section
variable {J:Type}{cq:J->D}{cr:Ab (Al Aj)}{fi:qo}{g:DG}{t:DT}{fe:DE}{ac:qF}{S:ag}{o:Al (Aj × MO)}{xs:Ab J}
def qA9 (N:oy o S)(Y:J->Ar)(G:J->D)(C:qF->Prop)(h0:C ac)(O:xs.length<=bb)
  (step:∀ x∈xs,∀ ac,C ac->∃ Q,g (cq x) ac S=.ok Q S/\C Q/\t Q S=.ok (Y x) S/\(Y x=Vp->fe Q S=.ok (G x) S)) :
  ∃ U,iu o g t (z9 fe) (xs.map cq) ac S [] = .ok (U,(xs.filter Y).map G) S:=by
 have M:(xs.flatMap λd=>if Y d then [G d] else []).length<=bb:=by rw[ZL,Ao];exact Ca (Lj _ _) O
 obtain⟨U,S',e,_,q⟩:=zb (cq:=cq) (o:=o) (g:=g) (t:=t) (k:=z9 fe) (λd=>if Y d then [G d] else []) (λac S'=>C ac/\S'=S) (λ_ _ h=>h.2▸N) xs ac S [] ⟨h0,rfl⟩ (by simpa using M) (λd T ac S' w A O=>by
  obtain⟨I,rfl⟩:=A;obtain⟨Q,H,L,E,k⟩:=step d T ac I;refine⟨Q,S',Y d,S',H,E,?_⟩;cases B:Y d with
  |false=>exact .inl ⟨rfl,by simp,L,rfl⟩
  |true =>
   refine .inr ⟨Z,Q,S',?_,L,Z⟩;simp only[Dr];exact bP (k B) (by simp only[B,Dr,Cu] at O;fin2))
 subst q;refine⟨U,?_⟩;rw[e,Ji,ZL]
def NQ (h:fi ac S=.ok (o,xs.map cq) S)(U:oy o S)(Y:J->Ar)(G:J->D)(C:qF->Prop)(h0:C (xB cr ac))(O:xs.length<=bb)
  (step:∀ x∈xs,∀ ac,C ac->∃ Q,g (cq x) ac S=.ok Q S/\C Q/\t Q S=.ok (Y x) S/\(Y x=Vp->fe Q S=.ok (G x) S)) :
  zC Yp cr fi g t (z9 fe) ac S=.ok (.lst ((xs.filter Y).map G)) S:=by
 obtain⟨N,e⟩:=qA9 U Y G C h0 O step;exact gA h e
end
def t9 {S:ag}{a:D}(Q:f1 ac S=.ok a S1):qI 1 F (qA f1 qC) ac S=F [a] S1:=by simp only[qI,qA,qC,Q,ax.bind,Aw,Cy,Dr]
def HV {S:ag}{a:D}(Q:f1 ac S=.ok a S1):qA f1 qC ac S=.ok [a] S1:=by simp only[qA,qC,Q,ax.bind]
def iF {Q:DE}{S Y:ag}{a b:D}(U:f1 ac S=.ok a S1)(J:Q ac S1=.ok b Y):qA f1 (qA Q qC) ac S=.ok [a,b] Y:=by simp only[qA,qC,U,J,ax.bind]
def mY {ac:qF}{i:Aj}{S:ag}(h:ac[i]? = Aa (Aa d)):qB i ac S=.ok d S:=by simp only[qB,h]
def VX {J:Type}(p:J->Ar)(l:Ab J) : xQ (l.map λx=>D.bl (p x))=Aa (l.map p):=by
 induction l with
 |nil=>rfl
 |cons x l Q =>
  show (xQ (l.map λx=>D.bl (p x))).map (p x::·)=_;rw[Q];rfl
section
variable {β γ:Type}{ac:qF}{S:ag}
def zD {k:β->ag->ax γ}{Q:γ->ag->Prop}(h:Ok r λd S1=>Ok (k d S1) Q):Ok (r.bind k) Q:=by obtain⟨d,S1,rfl,h⟩:=h;exact h
def zA {d:β}(h:Ok r λd' S'=>d'=d/\S'=S):r=.ok d S:=by obtain⟨_,_,e,rfl,rfl⟩:=h;exact e
def zU {Q Y:β->ag->Prop}(h:Ok r Q)(k:∀ d S,Q d S->Y d S):Ok r Y:=by obtain⟨d,S,e,q⟩:=h;exact⟨d,S,e,k d S q⟩
variable {Q:D->ag->Prop}{f g:DE}{fa:DA}{o:G2}{i j:Aj}
def o_c (h:Q d S):Ok (dC d ac S) Q:=⟨_,_,Z,h⟩
def o_v (e:ac[i]? = Aa (Aa d))(h:Q d S):Ok (qB i ac S) Q:=⟨_,_,mY e,h⟩
def o_2 (h:Ok (f ac S) λa S1=>Ok (g ac S1) λb Y=>Ok (o a b Y) Q):Ok (d2 o f g ac S) Q:=zD (zU h λ_ _=>zD)
def o_1 {u:D->ag->ax D}(h:Ok (f ac S) λa S1=>Ok (u a S1) Q):Ok (d1 u f ac S) Q:=zD h
def aJ {Q:Ab D->ag->Prop}(h:Q [] S):Ok (qC ac S) Q:=⟨_,_,Z,h⟩
def pR {Q:Ab D->ag->Prop}(h:Ok (f ac S) λa S1=>Ok (fa ac S1) λas Y=>Q (a::as) Y):Ok (qA f fa ac S) Q:=zD (zU h λ_ _ k=>zD (zU k λ_ _ q=>⟨_,_,Z,q⟩))
def qEY (h:Ok (fa ac S) λas S1=>as.length<=bb/\Q (.tup as) S1):Ok (zW fa ac S) Q:=zD (zU h λ_ _ k=>⟨_,_,Au k.1,k.2⟩)
def qBP (h:Ok (fa ac S) λas S1=>as.length<=bb/\Q (.lst as) S1):Ok (zL fa ac S) Q:=zD (zU h λ_ _ k=>⟨_,_,Au k.1,k.2⟩)
def qDb (h:Ok (fa ac S) λas S1=>as.length<=bb/\Q (.loc S1.length) (S1++[.lst as])):Ok (tG fa ac S) Q:=zD (zU h λ_ _ k=>⟨_,_,Au k.1,k.2⟩)
def qDZ (h:Q .dct0 S):Ok (cY ac S) Q:=⟨_,_,Z,h⟩
def JV (h:Ok (fa ac S) λas S1=>as.length=n/\Ok (F as S1) Q):Ok (qI n F fa ac S) Q:=zD (zU h λ_ _ k=>by rw[Au k.1];exact k.2)
def qES (h:Ok (F as S) Q):Ok (kh F as S) Q:=h
def UI {r:ax D}(h:F as S=r):kh F as S=r:=h
def qE7 (h:Ok (fa ac S) λas S1=>Ok (F as S1) Q):Ok (qG F fa ac S) Q:=zD h
def qEQ (h:Q (.int (a+b)) S):Ok (qR (.int a) (.int b) S) Q:=⟨_,_,Z,h⟩
def mL {a b:Ab D}(l:a.length+b.length<=bb)(h:Q (.tup (a++b)) S):Ok (qR (.tup a) (.tup b) S) Q:=⟨_,_,Au l,h⟩
def wL {a b:Ab D}(l:a.length+b.length<=bb)(h:Q (.lst (a++b)) S):Ok (qR (.lst a) (.lst b) S) Q:=⟨_,_,Au l,h⟩
def qEW (h:Q (.int (a-b)) S):Ok (jE (.int a) (.int b) S) Q:=⟨_,_,Z,h⟩
def qEU (h:Q (.int (-a)) S):Ok (yB (.int a) S) Q:=⟨_,_,Z,h⟩
def qET (l : -(2 ^ 64)<a/\a<2 ^ 64)(h:Q (.int (a*b)) S):Ok (yY (.int a) (.int b) S) Q:=by refine⟨_,_,?_,h⟩;unfold yY i2;rw[i3];unfold i0;simp only[l,and_self,decide_true,Bool.true_or,Dr]
def qBQ (l:0<b)(h:Q (.int (a % b)) S):Ok (kI (.int a) (.int b) S) Q:=by refine⟨_,_,?_,h⟩;unfold kI i2;simp[l]
def qER (l:0<b/\b<1073741824)(h:Q (.int (a/b)) S):Ok (m7 (.int a) (.int b) S) Q:=by refine⟨_,_,?_,h⟩;unfold m7 i2 HF;simp[l]
def qFE (h:Q (.bl (decide (a<b))) S):Ok (wb (.int a) (.int b) S) Q:=⟨_,_,Z,h⟩
def qFD (h:Q (.bl (decide (b<a))) S):Ok (yo (.int a) (.int b) S) Q:=⟨_,_,Z,h⟩
def qFB (h:Q (.bl (decide (b<=a))) S):Ok (ze (.int a) (.int b) S) Q:=⟨_,_,Z,h⟩
def qCf (h:Q (.bl (decide (a=b))) S):Ok (fx (.int a) (.int b) S) Q:=⟨_,_,by kernel_rfl!,h⟩
def qFF (h:Q (.bl (!decide (a=b))) S):Ok (io (.int a) (.int b) S) Q:=⟨_,_,by kernel_rfl!,h⟩
def tO {a:Ab D}(e:_L.jm a k=Aa d)(h:Q d S):Ok (bx (.tup a) (.int k) S) Q:=⟨d,S,by show _D.vO (_L.jm a k) S=_;rw[e];rfl,h⟩
def xA {a:Ab D}(e:_L.jm a k=Aa d)(h:Q d S):Ok (bx (.lst a) (.int k) S) Q:=⟨d,S,by show _D.vO (_L.jm a k) S=_;rw[e];rfl,h⟩
def j6 {a:Ab D}(h:Q (.int a.length) S):Ok (zZ [.tup a] S) Q:=⟨_,_,Z,h⟩
def qDa {a:Ab D}(h:Q (.int a.length) S):Ok (zZ [.lst a] S) Q:=⟨_,_,Z,h⟩
def qDf {a:Ab D}(h:Q (.tup a) S):Ok (xR [.lst a] S) Q:=⟨_,_,Z,h⟩
def qDc {a:Ab D}(h:Q (.lst a) S):Ok (a0 [.tup a] S) Q:=⟨_,_,Z,h⟩
def tM (h:Ok (f ac S) λd S1=>∃ b,d=.bl b/\(b=Vp->Ok (g ac S1) Q)/\(b=Yp->Q (.bl Yp) S1)):Ok (kF f g ac S) Q:=zD (zU h λd S1 ⟨b,e,Y,J⟩=>by
 subst e;cases b with
 |true=>exact Y rfl
 |false=>exact⟨_,_,rfl,J rfl⟩)
def O0 {J Y:DO}(h:Ok (f ac S) λd S1=>Ok (J ac S1) λlo G=>Ok (Y ac G) λhi U=>Ok (xg d lo hi U) Q):Ok (nv f J Y ac S) Q:=zD (zU h λ_ _ k=>zD (zU k λ_ _=>zD))
def qEV {a:Ab D}(h:Q (.tup (wN a lo hi)) S):Ok (xg (.tup a) lo hi S) Q:=⟨_,_,Z,h⟩
def TR {a:Ab D}(h:Q (.lst (wN a lo hi)) S):Ok (xg (.lst a) lo hi S) Q:=⟨_,_,Z,h⟩
def qE8 {Q:Al Aq->ag->Prop}(h:Q Zw S):Ok (zM ac S) Q:=⟨_,_,Z,h⟩
def qE9 {Q:Al Aq->ag->Prop}(h:Ok (f ac S) λd S1=>∃ k,d=.int k/\Q (Aa k) S1):Ok (zF f ac S) Q:=zD (zU h λ_ _ ⟨_,e,q⟩=>by subst e;exact⟨_,_,rfl,q⟩)
def qCe {m:D->Ab D->ag->ax D}(h:Ok (f ac S) λa S1=>pi a S1=Aa T/\Ok (fa ac S1) λas Y=>Ok (m a as Y) Q):Ok (ki T m f fa ac S) Q:=zD (zU h λ_ _ k=>by rw[k.1,Au aA];exact zD k.2)
def JU {a b:D}(e1:lstM a S=Aa xs)(e2:lstM b S=Aa ys)(l:xs.length+ys.length<=bb)(h:Q (.loc S.length) (S++[.lst (xs++ys)])):Ok (jL a b S) Q:=⟨_,_,by unfold jL;rw[e1,e2];exact Au l,h⟩
def aH {d:D}(e:S[i]? = Aa (.lst xs))(l:xs.length<bb)(h:Q .non (S.set i (.lst (xs++[d])))):Ok (wZ (.loc i) [d] S) Q:=by refine⟨_,_,?_,h⟩;show (match S[i]? with|some (.lst xs)=>(if xs.length<bb then ax.ok D.non (S.set i (.lst (xs++[d]))) else .bad)|_=>.bad)=_;rw[e];exact Au l
def vC {t:DT}(h:Ok (t ac S) λb S1=>(b=Vp->Ok (f ac S1) Q)/\(b=Yp->Ok (g ac S1) Q)):Ok (mh t f g ac S) Q:=zD (zU h λb S1 k=>by
 cases b with
 |true=>exact k.1 rfl
 |false=>exact k.2 rfl)
variable {Q:Ar->ag->Prop}{t u:DT}
def YY (h:Ok (f ac S) λd S1=>∃ b,xS d S1=Aa b/\Q b S1):Ok (bg f ac S) Q:=zD (zU h λd S1 ⟨b,e,k⟩=>by
 rw[e];exact⟨_,_,Z,k⟩)
def qDd (h:Ok (t ac S) λb S1=>Q (!b) S1):Ok (xK t ac S) Q:=zD (zU h λ_ _ k=>⟨_,_,Z,k⟩)
def qEZ (h:Q Vp S):Ok (zX ac S) Q:=⟨_,_,Z,h⟩
def xN (h:Ok (t ac S) λb S1=>(b=Vp->Q Vp S1)/\(b=Yp->Ok (u ac S1) Q)):Ok (wO t u ac S) Q:=zD (zU h λb S1 k=>by
 cases b with
 |true=>exact⟨_,_,rfl,k.1 rfl⟩
 |false=>exact k.2 rfl)
def oJ (h:Ok (t ac S) λb S1=>(b=Vp->Ok (u ac S1) Q)/\(b=Yp->Q Yp S1)):Ok (yW t u ac S) Q:=zD (zU h λb S1 k=>by
 cases b with
 |true=>exact k.1 rfl
 |false=>exact⟨_,_,rfl,k.2 rfl⟩)
def WU {xs:Ab D}{a:Aj}(h:a<xs.length):_L.jm xs (a:Aq)=Aa xs[a]:=by
 have e:_L.qg xs.length (a:Aq)=Aa a:=by simp[_L.qg];lia
 simp[_L.jm,e,h]
def vR (S:ag)(m:MO):(S++[m])[S.length]? = Aa m:=by simp
def Q7 (S:ag)(m m':MO):(S++[m]).set S.length m'=S++[m']:=by simp
def VL (h:S[j]? = Aa (.lst xs)):pi (.loc j) S=Aa "list":=by show (match S[j]? with|some (.lst _)=>Aa "list" | some (.dct _)=>Aa "dict" | _=>Zw)=_;rw[h]
def qBF (h:S[j]? = Aa (.lst xs)):lstM (.loc j) S=Aa xs:=by show (match S[j]? with|some (.lst xs)=>Aa xs|_=>Zw)=_;rw[h]
def jP {Q:D->ag->Prop}{a:Ab D}{k:Aj}(h:k<a.length)(q:∀ d∈a,Q d S):Ok (bx (.lst a) (.int (k:Aq)) S) Q:=xA (WU h) (q _ (Fx h))
def SN {Q:Ab D->ag->Prop}(h:Ok (f ac S) λd S1=>∃ ds,xE d=Aa ds/\Q ds S1):Ok (uW f ac S) Q:=zD (zU h λd S1 ⟨ds,e,k⟩=>⟨ds,S1,by rw[e];rfl,k⟩)
def TQ {Q:Ab D->ag->Prop}(h:Ok (fa ac S) λas S1=>∃ ds,mQ as=Aa ds/\Q ds S1):Ok (kG fa ac S) Q:=zD (zU h λd S1 ⟨ds,e,k⟩=>⟨ds,S1,by rw[e];rfl,k⟩)
def TZ (n:Aj)(h:n<=1000000):mQ [.int (n:Aq)]=Aa ((Cp n).map λ(i:Aj)=>D.int (i:Aq)):=by
 unfold mQ;have : -(2 ^ 62)<=(n:Aq)/\(n:Aq)<2 ^ 62:=⟨by lia,by lia⟩
 refine(Au this).trans ?_;unfold yS;rw[Fk];congr 2;funext i;rw[Int.zero_add]
def qDe {Q:Ab D->ag->Prop}(h:Ok (f ac S) λd S1=>∃ k:Aq,d=.int k/\0<=k/\k<=1000000/\Q ((Cp k.toNat).map λ(i:Aj)=>D.int (i:Aq)) S1):Ok (kG (qA f qC) ac S) Q:=TQ (pR (zU h λ_ _ ⟨k,e,Y,J,q⟩=>aJ ⟨_,by
 have:=TZ k.toNat li;rw[Wq Y] at this;rw[e,this],q⟩))
def uR {Q:D->ag->Prop}(e:S[i]? = Aa (.lst xs))(Y:_L.jm xs k=Aa d)(h:Q d S):Ok (bx (.loc i) (.int k) S) Q:=by refine⟨d,S,?_,h⟩;show (match S[i]? with|some (.lst xs)=>_D.vO (_L.jm xs k) S|_=>.bad)=_;rw[e];show _D.vO (_L.jm xs k) S=_;rw[Y];rfl
def JX {Q:D->ag->Prop}(e:S[i]? = Aa (.lst xs))(h:Q (.int xs.length) S):Ok (zZ [.loc i] S) Q:=by
 refine⟨_,_,?_,h⟩;have Y:rE (.loc i) S=Aa xs.length:=by show (match S[i]? with|some (.lst xs)=>Aa xs.length|_=>Zw)=_;rw[e]
 show (match rE (.loc i) S with|some n=>ax.ok (D.int n) S|none=>.bad)=_;rw[Y]
def K1 {Q:Nx->ag->Prop}{n:Aq}(e:S[i]? = Aa (.lst xs))(Y:_L.qg xs.length n=Aa j)(h:Q () (S.set i (.lst (xs.set j d)))):Ok (tI (.loc i) (.int n) d S) Q:=by refine⟨_,_,?_,h⟩;simp[tI,BC,e,Y]
def vL (h:ac[i]? = Aa (Aa (.tup xs))):je (qB i) ac S=.ok (Zw,xs) S:=by unfold je;rw[mY h];rfl
def YE (h:ac[i]? = Aa (Aa (.lst xs))):je (qB i) ac S=.ok (Zw,xs) S:=by unfold je;rw[mY h];rfl
theorem iP {J:Type}(f:J->β):∀ l:Ab J,l.flatMap (λx=>[f x])=l.map f
 |[]=>rfl
 |x::l=>by rw[Ha,iP f l];rfl
def xC {J:Type}{cq:J->D}{o:Al (Aj × MO)}{fi:qo}{tg:DG}{fe:DE}{Q:D->ag->Prop}(xs:Ab J)(G:J->D)(C:qF->ag->Prop)(hi:fi ac S=.ok (o,xs.map cq) S1)(h0:C (xB cr ac) S1)(L:xs.length<=bb)(N:∀ ac S,C ac S->oy o S)
  (step:∀ x∈xs,∀ ac S,C ac S->Ok (tg (cq x) ac S) λY S1=>Ok (t Y S1) λb B=>b=Vp/\Ok (fe Y B) λd O=>d=G x/\C Y O) (q:∀ U S',C U S'->Q (.lst (xs.map G)) S'):Ok (zC Yp cr fi tg t (z9 fe) ac S) Q:=by
 have T:=iP G xs;obtain⟨U,S',e,c⟩:=zb (cq:=cq) (o:=o) (g:=tg) (t:=t) (k:=z9 fe) (λx=>[G x]) C N xs (xB cr ac) S1 [] h0 (by rw[T,Ao];simpa using L) (λx E ac S z A L=>by
  obtain⟨Y,S1,H,b,B,w,rfl,d,O,I,rfl,M⟩:=step x E ac S A;exact⟨Y,S1,Vp,B,H,w,.inr ⟨rfl,Y,O,bP I (by simp at L;lia),M⟩⟩)
 rw[T,Ji] at e;exact⟨_,_,gA hi e,q U S' c⟩
theorem AU {J:Type}{cq:J->D}{o:Al (Aj × MO)}{tg:DG}{fe:DE}(R:D->Prop)(C:qF->ag->Prop)(G:∀ ac S,C ac S->oy o S) :
  ∀ (xs:Ab J) (ac:qF) (S:ag) (aq:Ab D),C ac S->aq.length+xs.length<=bb->(∀ x∈xs,∀ ac S,C ac S->Ok (tg (cq x) ac S) λY S1=>Ok (t Y S1) λb O=>b=Vp/\Ok (fe Y O) λd N=>R d/\C Y N) ->
  ∃ U S' ds,iu o tg t (z9 fe) (xs.map cq) ac S aq=.ok (U,aq++ds) S'/\C U S'/\ds.length=xs.length/\∀ d∈ds,R d
 |[],ac,S,aq,h,_,_=>⟨ac,S,[],by simp[iu,yT.mpr (G _ _ h)],h,rfl,λ_ h=>by cases h⟩
 |x::xs,ac,S,aq,h,I,step=>by
  obtain⟨Y,S1,M,b,O,T,rfl,d,N,B,H,L⟩:=step x (Cr ..) ac S h;rw[Aw] at I;obtain⟨U,S',ds,e,c,l,A⟩:=AU R C G xs Y N (aq++[d]) L (by rw[Az];show _+1+_<=bb;lia) λy E=>step y (Bn _ E);refine⟨U,S',d::ds,?_,c,by rw[Aw,Aw,l],λz hz=>?_⟩;simp only[Ej,iu,yT.mpr (G _ _ h),Dr,M,T,ax.bind,bP B (show aq.length<bb by lia)];rw[e,Ia];rfl
  .rcases Av.mp hz with rfl|hz
   .exact H
   .exact A z hz
def SL {J:Type}{cq:J->D}{o:Al (Aj × MO)}{fi:qo}{tg:DG}{fe:DE}{Q:D->ag->Prop}(xs:Ab J)(R:D->Prop)(C:qF->ag->Prop)(hi:fi ac S=.ok (o,xs.map cq) S1)(h0:C (xB cr ac) S1)(L:xs.length<=bb)(G:∀ ac S,C ac S->oy o S)
  (step:∀ x∈xs,∀ ac S,C ac S->Ok (tg (cq x) ac S) λY S1=>Ok (t Y S1) λb B=>b=Vp/\Ok (fe Y B) λd O=>R d/\C Y O) (q:∀ ds U S',ds.length=xs.length->(∀ d∈ds,R d)->C U S'->Q (.lst ds) S'):Ok (zC Yp cr fi tg t (z9 fe) ac S) Q:=by
 obtain⟨U,S',ds,e,c,l,N⟩:=AU (cq:=cq) (o:=o) (tg:=tg) (t:=t) (fe:=fe) R C G xs (xB cr ac) S1 [] h0 (by simpa using L) step;exact⟨_,_,gA hi e,q ds U S' l N c⟩
def dF {J:Type}{Q:D->ag->Prop}{l:Ab J}{p:J->Ar}(h:Q (.bl (l.all p)) S):Ok (bG Yp [.lst (l.map λx=>.bl (p x))] S) Q:=by refine⟨_,_,?_,h⟩;show (match (xE (.lst (l.map λx=>D.bl (p x)))).bind xQ with|some Y=>ax.ok (D.bl (Y.all id)) S|none=>.bad)=_;rw[show (xE (.lst (l.map λx=>D.bl (p x)))).bind xQ=Aa (l.map p) from VX p l];simp only[Hm];rfl
def qFI {Q:qF->ag->Prop}{h:G3}(k:Ok (f ac S) λa S1=>Ok (g ac S1) λb J=>Ok (h a b d J) λ_ Y=>Q ac Y):Ok (zd f g h d ac S) Q:=zD (zU k λ_ _ k=>zD (zU k λ_ _ k=>zD (zU k λ_ _ q=>⟨_,_,Z,q⟩)))
variable {Q:qF->ag->Prop}
def qCg (h:Q (ac.set i (Aa d)) S):Ok (bc i d ac S) Q:=⟨_,_,Z,h⟩
def qCh {xs:Ab D}(h:xs.length=n/\Ok (gs xs ac S) Q):Ok (lg n gs (.tup xs) ac S) Q:=by obtain⟨d,S1,e,q⟩:=h.2;exact⟨d,S1,by show (if xs.length=n then gs xs ac S else .bad)=_;rw[Au h.1];exact e,q⟩
def qFC (h:Q ac S):Ok (xF [] ac S) Q:=⟨_,_,Z,h⟩
def qFA {t:DG}(h:Ok (t x ac S) λY S1=>Ok (gs xs Y S1) Q):Ok (qZ t gs (x::xs) ac S) Q:=zD h
def Wo (P:ik->Prop)(o:ik):Prop:=P o
def V8 (g:DS)(P:ik->Prop):ik->Prop
 |.nx ac S=>P (g ac S)
 |o=>P o
def cD (b:Ar)(f g:DS):DS:=match b with
 |true=>f
 |false=>g
def wf (Q:D->ag->Prop):ik->Prop
 |.rt d S=>Q d S
 |.nx _ S=>Q .non S
 |_=>Fz
def T7 {J:Type}(I:Ab J -> qF->ag->Prop)(xs:Ab J)(P:ik->Prop):ik->Prop
 |.nx ac S=>I xs ac S
 |.ct ac S=>I xs ac S
 |.bk ac S=>P (.nx ac S)
 |o=>P o
variable {P:ik->Prop}{sf sg:DS}{fi:DI}{tg:DG}{d:D}
def VN (h:Wo (V8 sg P) (sf ac S)):Wo P (qE sf sg ac S):=by unfold qE;unfold Wo at h ⊢;cases e:sf ac S <;> rw[e] at h <;> exact h
def VM (R:qF->ag->Prop)(h:∀ Y:ik->Prop,(∀ ac S,R ac S->Wo Y (.nx ac S))->Wo Y (sf ac S))(k:∀ ac S,R ac S->Wo P (sg ac S)):Wo P (qE sf sg ac S):=VN (h _ k)
def qAm (h:Wo P (sg ac S)):Wo (V8 sg P) (.nx ac S):=h
def qFL (h:Wo P (.rt d S)):Wo (V8 sg P) (.rt d S):=h
def qEE (h:Wo P (.nx ac S)):Wo P (qU ac S):=h
def gL {k:β->ag->ik}(h:Ok r λd S1=>Wo P (k d S1)):Wo P (r.toS ac k):=by obtain⟨d,S1,rfl,h⟩:=h;exact h
def qEj (h:Ok (f ac S) λd S1=>Ok (tg d ac S1) λY J=>Wo P (.nx Y J)):Wo P (qV f tg ac S):=gL (zU h λ_ _=>gL)
def qED (h:Ok (f ac S) λ_ S1=>Wo P (.nx ac S1)):Wo P (wC f ac S):=gL h
def qEm (h:Ok (f ac S) λd S1=>Wo P (.rt d S1)):Wo P (qN f ac S):=gL h
def qEl (h:Ok (fa ac S) λds S1=>∃ a b,ds=[a,b]/\Wo P (.nx ((ac.set i (Aa a)).set j (Aa b)) S1)):Wo P (f7 i j fa ac S):=gL (zU h λ_ _ ⟨_,_,e,q⟩=>by subst e;exact q)
def qEF (h:Ok (fa ac S) λds S1=>∃ a b c,ds=[a,b,c]/\Wo P (.nx (((ac.set i (Aa a)).set j (Aa b)).set k (Aa c)) S1)):Wo P (tU i j k fa ac S):=gL (zU h λ_ _ ⟨_,_,_,e,q⟩=>by subst e;exact q)
def qFK (h:Ok (t ac S) λb S1=>Wo P (cD b sf sg ac S1)):Wo P (cw t sf sg ac S):=gL (zU h λb S1 q=>by cases b <;> exact q)
def w_t (h:Wo P (sf ac S)):Wo P (cD Vp sf sg ac S):=h
def w_f (h:Wo P (sg ac S)):Wo P (cD Yp sf sg ac S):=h
def qEk {b:Ar}(h:Wo P (cD b sg sf ac S)):Wo P (cD (!b) sf sg ac S):=by cases b <;> exact h
def x3 {p:Prop}[Jj p](J:p->Wo P (sf ac S))(Y:¬ p->Wo P (sg ac S)):Wo P (cD (decide p) sf sg ac S):=by
 by_cases h:p;rw[Ci h];exact J h;rw[Bo h];exact Y h
def qB2 (h:Ok (fi ac S) λds S1=>Wo P (gC tg sf ds ac S1)):Wo P (gS fi tg sf ac S):=gL h
theorem j9 {J:Type}{cq:J->D}(I:Ab J -> qF->ag->Prop)(turn:∀ x xs ac S,I (x::xs) ac S->Ok (tg (cq x) ac S) λG S1=>Wo (T7 I xs P) (sf G S1))(N:∀ ac S,I [] ac S->Wo P (.nx ac S)) :
  ∀ {xs:Ab J} {ac:qF} {S:ag},I xs ac S->Wo P (gC tg sf (xs.map cq) ac S)
 |[],ac,S,h=>N ac S h
 |x::xs,ac,S,h=>by
  obtain⟨G,S1,B,Y⟩:=turn x xs ac S h;rw[Ej,gC];unfold Wo at Y ⊢;simp only[B,ax.toS];cases O:sf G S1 with
  |nx U C=>rw[O] at Y;exact j9 I turn N Y
  |ct U C=>rw[O] at Y;exact j9 I turn N Y
  |bk U C=>rw[O] at Y;exact Y
  |rt d2 C=>rw[O] at Y;exact Y
  |ex T L U C=>rw[O] at Y;exact Y
  |bad=>rw[O] at Y;exact Y
def whQ (I:Aj->qF->ag->Prop)(n:Aj)(P:ik->Prop):ik->Prop
 |.nx ac S=>∃ m,m<n/\I m ac S
 |.ct ac S=>∃ m,m<n/\I m ac S
 |.bk ac S=>P (.nx ac S)
 |o=>P o
def EG (I:Aj->qF->ag->Prop)(turn:∀ n ac S,I n ac S->Ok (t ac S) λb S1=>(b=Vp->Wo (whQ I n P) (sf ac S1))/\(b=Yp->Wo P (.nx ac S1))){n:Aj}(E:n<big)(h:I n ac S):Wo P (dU t sf ac S):=by
 have O:∀ N n ac S,n<N->I n ac S->Wo P (jA t sf N ac S):=by
  intro N
  induction N with
  |zero=>intro n ac S h;lia
  |succ N C =>
   intro n ac S h B;obtain⟨b,S1,T,H,L⟩:=turn n ac S B;unfold jA;rw[T];cases b with
   |false=>exact L rfl
   |true =>
    have k:=H rfl;unfold Wo at k ⊢;simp only[ax.toS,Dr];cases U:sf ac S1 with
    |nx Y G=>rw[U] at k;obtain⟨m,A,J⟩:=k;exact C m Y G li J
    |ct Y G=>rw[U] at k;obtain⟨m,A,J⟩:=k;exact C m Y G li J
    |bk Y G=>rw[U] at k;exact k
    |rt d2 G=>rw[U] at k;exact k
    |ex w M Y G=>rw[U] at k;exact k
    |bad=>rw[U] at k;exact k
 exact O big n ac S E h
def qAN (hs:yG n ds=ac)(h:sf ac S=.ex v x Y S'):qM n sf ds S=.ex v x S':=by subst hs;unfold qM;rw[h];rfl
def AI (h:f ac S=.ex v x S'):qE (qV f tg) sg ac S=.ex v x ac S':=by simp only[qE,qV,h,ax.toS]
def FO (v:Ac)(x:Ah)(ac:qF)(S:ag):xI v (qA (dC (.str x)) qC) ac S=.ex v .non ac S:=by unfold xI;rw[HV (show dC (.str x) ac S=.ok (.str x) S from Z)];show (if ([D.str x]:Ab D).length<=bb then ik.ex v D.non ac S else ik.bad)=_;exact Au (Bv Z)
def exQ (v:Ac)(x:D)(S0:ag):ik->Prop:=λo=>∃ Y,o=.ex v x Y S0
def wI (hs:yG n ds=ac)(h:Wo (exQ v x S') (sf ac S)):qM n sf ds S=.ex v x S':=by obtain⟨Y,e⟩:=h;exact qAN hs e
def wK (h:P (.ex v .non ac S)):Wo P (xI v (qA (dC (.str x)) qC) ac S):=by unfold Wo;rw[FO];exact h
def EF (e:f ac S=.ex v x S')(h:P (.ex v x ac S')):Wo P (wC f ac S):=by unfold Wo wC;rw[e];exact h
def sH {J:Type}{I:Ab J -> qF->ag->Prop}{xs:Ab J}(h:I xs ac S):Wo (T7 I xs P) (.nx ac S):=h
def N9 {Q:D->ag->Prop}(h:Q d S):Wo (wf Q) (.rt d S):=h
def zB {Q:D->ag->Prop}(hs:yG n ds=ac)(h:Wo (wf Q) (sf ac S)):Ok (qM n sf ds S) Q:=by subst hs;unfold qM;unfold Wo at h;cases e:sf (yG n ds) S <;> rw[e] at h <;> first|exact⟨_,_,rfl,h⟩|exact Am h
end
abbrev Pt:=Aq × Aq
variable {ps:Ab Pt}
noncomputable def az (p:Pt):D:=.tup [.int p.1,.int p.2]
def qK (l:Ab Pt):D:=.tup (l.map az)
def kP (p:Pt):Ab Aq:=[p.1,p.2]
def pK (k:Ab Aq):Pt:=(k.getD 0 0,k.getD 1 0)
def j3 (ps:Ab Pt):ps.map az=(ps.map kP).map ml:=by rw[Dl];rfl
def ltP (p q:Pt):Ar:=_H.lexLt [p.1,p.2] [q.1,q.2]
abbrev Up (l:Ab Pt):Prop:=l.Pairwise λp q=>ltP p q=Vp
def kT (ps:Ab Pt):Ab Pt:=(_S.mn _H.lexLt (ps.map kP)).map pK
def t8 {ks:Ab (Ab Aq)}(h:∀ k∈ks,k∈ps.map kP):ks.map ml=(ks.map pK).map az/\(ks.map pK).map kP=ks:=by
 have e:∀ k∈ks,kP (pK k)=k:=λk Y=>by obtain⟨p,_,rfl⟩:=Cf.mp (h k Y);rfl
 have Q:(ks.map pK).map kP=ks:=by
  rw[Dl];conv=>rhs;rw[<- Jc ks]
  exact Ke e
 exact⟨by rw[j3,Q],Q⟩
def IF {p q:Pt}(h:kP p=kP q):p=q:=by
 injection h with Y Q
 injection Q with Q _
 exact ZB Y Q
def QD (ps:Ab Pt):∀ k∈_S.mn _H.lexLt (ps.map kP),k∈ps.map kP:=λk Q=>(_S.vV _S.jF k _).mp Q
def QC (ps:Ab Pt)(p:Pt):p∈kT ps↔p∈ps:=by
 unfold kT;constructor;intro h;obtain⟨k,Q,rfl⟩:=Cf.mp h;obtain⟨q,Y,rfl⟩:=Cf.mp (QD ps k Q);exact Y;intro h;exact Cf.mpr ⟨kP p,(_S.vV _S.jF _ _).mpr (Cf.mpr ⟨p,h,Z⟩),Z⟩
def W8 (ps:Ab Pt):Up (kT ps):=by have h:=_S.b0 _S.jF (ps.map kP);rw[<- (t8 (QD ps)).2,Ee] at h;exact h
theorem iT {K:Type}(lt':K->K->Ar)(x:K):∀ l:Ab K,(_S.kJ lt' x l).length<=l.length+1
 |[]=>by simp[_S.kJ]
 |y::l=>by
  have:=iT lt' x l;unfold _S.kJ;split;simp
  .split <;> simp <;> fin2
theorem eB {K:Type}(lt':K->K->Ar):∀ l:Ab K,(_S.mn lt' l).length<=l.length
 |[]=>by simp[_S.mn]
 |x::l=>by have Q:=iT lt' x (_S.mn lt' l);have Y:=eB lt' l;rw[_S.mn,Aw];fin2
def M2 (ps:Ab Pt):(kT ps).length<=ps.length:=by unfold kT;rw[Ao];exact Ca (eB _ _) aA
def T3 (ps:Ab Pt):((ps.map kP).all λk=>!k.isEmpty)=true:=by rw[Hm,Bg];exact λq _=>rfl
def _n (ps:Ab Pt)(Q:ps.length<=63):kR (ps.map az)=Aa ((kT ps).map az):=by unfold kR kT;rw[<- (t8 (QD ps)).1,j3,vW];exact Au (by rw[T3,Ci (Ca (eB _ _) (by rw[Ao];exact Q))];rfl)
def wG (ps:Ab Pt):Ab Pt:=(_S.mS _H.lexLt (ps.map kP)).map pK
def W6 (ps:Ab Pt):∀ k∈_S.mS _H.lexLt (ps.map kP),k∈ps.map kP:=λk Q=>(_S.mT _).mem_iff.mp Q
def qAX (ps:Ab Pt):(wG ps).map kP=_S.mS _H.lexLt (ps.map kP):=(t8 (W6 ps)).2
def mU (ps:Ab Pt):(wG ps).Perm ps:=by
 have h:=(_S.mT (lt':=_H.lexLt) (ps.map kP)).map pK;rw[Dl] at h;have e:ps.map (pK∘kP)=ps:=by
  conv=>rhs;rw[<- Jc ps]
  exact Ke λq _=>rfl
 rw[e] at h;exact h
def W9 (nd:ps.Nodup):Up (wG ps):=by
 have h:=_S.W7 _S.jF (ps.map kP);unfold _S.Nf at h;rw[<- qAX,Ee] at h;have Q:(wG ps).Nodup:=(mU ps).nodup_iff.mpr nd;refine(List.pairwise_and_iff.mpr ⟨h,Q⟩).imp λ{a b} ⟨Y,J⟩=>?_;rcases _S.jF.tri Y with z|z
 .exact absurd (IF z).symm J
 .exact z
def M0 (ps:Ab Pt)(Q:ps.length<=63):fD (ps.map az)=Aa ((wG ps).map az):=by unfold wG fD;rw[<- (t8 (W6 ps)).1,j3,vW];exact Au (by rw[T3,Ci (by rw[Ao];exact Q)];rfl)
def qFG {Q:D->ag->Prop}{p:Pt}{S:ag}(h:Q (.int p.1) S):Ok (bx (az p) (.int 0) S) Q:=⟨_,_,Z,h⟩
def qFH {Q:D->ag->Prop}{p:Pt}{S:ag}(h:Q (.int p.2) S):Ok (bx (az p) (.int 1) S) Q:=⟨_,_,Z,h⟩
def qEX {Q:qF->ag->Prop}{ac:qF}{S:ag}{p:Pt}(h:Ok (gs [.int p.1,.int p.2] ac S) Q):Ok (lg 2 gs (az p) ac S) Q:=qCh ⟨Z,h⟩
def tQ {Q:D->ag->Prop}{S:ag}(l:ps.length<=63)(h:Q (.lst ((wG ps).map az)) S):Ok (yH [.lst (ps.map az)] S) Q:=by refine⟨_,_,?_,h⟩;show (match (Aa (ps.map az)).bind fD with|some Y=>ax.ok (D.lst Y) S|none=>.bad)=_;rw[On,M0 ps l]
def dM (ps:Ab Pt):pl qY (.lst (ps.map az))=true:=by show ((ps.map az).all (pl 29))=Vp;rw[Hm];exact Bg.mpr λp _=>rfl
theorem UH:∀ (a b:Ab Pt),xW (a.map az) (b.map az)=decide (a=b)
 |[],[]=>rfl
 |[],_::_=>by simp[xW]
 |_::_,[]=>by simp[xW]
 |x::a,y::b=>by show ((x.1 == y.1&&(x.2 == y.2&&Vp))&&xW (a.map az) (b.map az))=_;rw[UH a b,Kv];simp[Prod.ext_iff,and_assoc]
def qBM {Q:D->ag->Prop}{a b:Ab Pt}{S:ag}(h:Q (.bl (decide (a=b))) S):Ok (fx (.lst (a.map az)) (.lst (b.map az)) S) Q:=by refine⟨_,_,?_,h⟩;unfold fx;rw[dM,dM];show ax.ok (D.bl (xW (a.map az) (b.map az))) S=_;rw[UH]
def O1 {Q:D->ag->Prop}{f:DE}{S:ag}(h:Ok (f ac S) λd S1=>∃ ps:Ab Pt,V9 d S1=Aa (ps.map az)/\ps.length<=63/\Q (.lst ((kT ps).map az)) S1):Ok (uX Yp f ac S) Q:=zD (zU h λd S1 ⟨ps,e,l,q⟩=>⟨_,_,by rw[e,On,_n ps l];rfl,q⟩)
def gu (B:Aq)(q:Pt):Prop:=-B<=q.1/\q.1<=B /\ -B<=q.2/\q.2<=B
instance (B:Aq)(q:Pt):Jj (gu B q):=by unfold gu;exact inferInstance
structure fw (M:Aj)(l:Ab Pt):Prop where
 ne:l≠[]
 len:l.length<=M
 up:Up l
 box:∀ q∈l,gu 1000 q
def sG {l:Ab Pt}(h:Up l):l.Nodup:=h.imp λ{a b} h e=>by subst e;rw[show ltP a a=Yp from _S.jF.irr _] at h;cases h
def YL {M:Aj}(J:ps≠[])(U:ps.length<=M)(nd:ps.Nodup)(Y:∀ q∈ps,gu 1000 q):fw M (wG ps):=by have p:=mU ps;refine⟨λz=>?_,by rw[p.length_eq];exact U,W9 nd,λq Q=>Y q (p.mem_iff.mp Q)⟩;rw[z] at p;exact J p.symm.eq_nil
def wU (S:ag)(p:Aj):Prop:=∃ v f:Aq,S[p]? = Aa (.lst [.int v,.int f])
def R8 {S:ag}(h:wU S p)(e:S<+:S'):wU S' p:=by obtain⟨J,Y,Q⟩:=h;obtain⟨r,rfl⟩:=e;exact⟨J,Y,by rw[Cn (Bw.mp Q).1];exact Q⟩
structure Kp (p:Aj)(S S':ag):Prop where
 pen:wU S' p
 len:S.length<=S'.length
 same:∀ m,m<S.length->m≠p->S'[m]? = S[m]?
def Kp.trans {S J:ag}(a:Kp p S S1)(b:Kp p S1 J):Kp p S J:=⟨b.pen,Ca a.len b.len,λm Q Y=>(b.same m (Bq Q a.len) Y).trans (a.same m Q Y)⟩
def K8 {S:ag}(h:wU S p):p<S.length:=by obtain⟨v,f,e⟩:=h;exact(Bw.mp e).1
def Kp.pre {S:ag}(h:wU S p)(e:S<+:S'):Kp p S S':=⟨R8 h e,e.length_le,λm Q _=>(List.prefix_iff_getElem?.mp e m Q).trans (Be Q).symm⟩
def Kp.set {j:Aj}{S:ag}(h:Kp p S S')(Y:S.length<=j)(m:MO)(hp:p≠j):Kp p S (S'.set j m):=by obtain⟨v,f,e⟩:=h.pen;exact⟨⟨v,f,by rw[Di (Dm hp)];exact e⟩,by rw[Pb];exact h.len,λi hi Q=>by rw[Di om];exact h.same i hi Q⟩
end _D
local macro_rules|`(tactic|array_get_dec)=>do
 let I (x:String):=Lean.mkIdent ("_D."++x).toName
 let F (s:String):Lean.MacroM (Lean.TSyntax `Lean.Parser.Tactic.tacticSeq):=do
  let l←(s.splitOn " ").toArray.mapM λx=>`(Lean.Parser.Tactic.tacticSeq|apply $(I x))
  `(Lean.Parser.Tactic.tacticSeq|first $[|$l]*)
 `(tactic|first | (with_reducible $(←F "VN qAm qEj o_2 o_c pR aJ qEQ qEW qEY qBP JV qE7 qES YY qDd qFK w_t w_f qEk qEE qED qEm qFL qEl qEF qB2 qFE qFD qFB qCf qFF o_1 qEU j6 qDa qDf qDc qDb O0 qEV TR qE8 qE9 qCe qCh qFA qFC qEZ qDZ qFG qFH qEX qFI SN qDe")) | ((with_reducible apply _D.o_v); exact rfl) | ((with_reducible apply _D.qCg); dsimp only [List.set_cons_succ, List.set_cons_zero]) | ((with_reducible (first | $(←F "qET qBQ qER"))); fin2) | ((with_reducible apply And.intro); (first | exact rfl | exact Nat.le_of_ble_eq_true rfl)) | ((with_reducible apply Exists.intro); (with_reducible apply And.intro); exact rfl) | ((with_reducible apply Exists.intro); (with_reducible apply Exists.intro); (with_reducible apply And.intro); exact rfl; dsimp only [List.set_cons_succ, List.set_cons_zero]) | ((with_reducible apply Exists.intro); (with_reducible apply Exists.intro); (with_reducible apply Exists.intro); (with_reducible apply And.intro); exact rfl; dsimp only [List.set_cons_succ, List.set_cons_zero]))
local macro_rules|`(tactic|rfl')=>`(tactic| repeat array_get_dec)
namespace _D
variable {xs:Ab D}{d:D}{Q:D->ag->Prop}
def Pn (d:D):Prop:=∃ p,xa d=Aa p
def pns:∀ {ps:Ab PyData},lA xs=Aa ps->∀ x∈xs,Pn x:=by
 induction xs with
 |nil=>intro ps _ x hx;cases hx
 |cons d O G =>
  intro ps h x hx;simp only[lA] at h;obtain⟨p,J,U⟩:=Eg.mp h;obtain⟨N,Y,_⟩:=Eo.mp U;rcases Av.mp hx with rfl|hx
  .exact⟨p,J⟩
  .exact G Y x hx
def dN (h:Pn (.tup xs)):∀ x∈xs,Pn x:=by obtain⟨p,h⟩:=h;simp only[xa] at h;obtain⟨J,Y,_⟩:=Eo.mp h;exact pns Y
theorem KA:∀ {xs:Ab D},(∀ x∈xs,Pn x)->∃ l,lA xs=Aa l
 |[],_=>⟨[],rfl⟩
 |x::xs,h=>by obtain⟨l,e⟩:=KA (xs:=xs) λy Y=>h y (Bn _ Y);obtain⟨q,J⟩:=h x (Cr ..);refine⟨q::l,?_⟩;show (xa x).bind (λx=>(lA xs).map (x::·))=_;rw[e,J];rfl
def oV (h:∀ x∈xs,Pn x):Pn (.tup xs):=by obtain⟨l,e⟩:=KA h;exact⟨.tuple l,by simp only[xa,e,Uc]⟩
def V3 (q:Pt):Pn (az q):=⟨.tuple [.int q.1,.int q.2],Z⟩
def mP (l:Ab Pt):Pn (qK l):=oV λx Y=>by obtain⟨q,_,rfl⟩:=Cf.mp Y;exact V3 q
noncomputable def inR (a b:Aq):D->Ar
 |.int i=>decide (a<=i/\i<=b)
 |_=>Yp
def _j:D->Ar
 |.int _=>Vp
 |_=>Yp
def im:D->Ar
 |.tup _=>Vp
 |_=>Yp
def aD (h:Pn d)(S:ag):zQ [d,.ty "tuple"] S=.ok (.bl (im d)) S:=by obtain⟨p,h⟩:=h;cases d <;> first|kernel_rfl!|simp[xa] at h
def tN {U J Y:DE}{S:ag}(C:U ac S=.ok (.int a) S)(N:J ac S=.ok (.int b) S)(G:Y ac S=.ok (.int c) S)(q:Q (.bl (decide (a<=b/\b<=c))) S):Ok (wX sv sv U J Y ac S) Q:=by
 refine⟨_,_,?_,q⟩;unfold wX;rw[C,ax.bind_ok,N,ax.bind_ok];show (match xS (.bl (decide (a<=b))) S with|some Vp=>(Y ac S).bind λw O=>sv (.int b) w O|some Yp=>ax.ok (.bl (decide (a<=b))) S|none=>.bad)=_;by_cases h:a<=b;rw[Ci h];show (Y ac S).bind _=_;rw[G];simp only[h,true_and];rfl;rw[Bo h,Bo λz=>h z.1];rfl
abbrev xy:D->Ar:=inR (-1000) 1000
def xG:D->Ar
 |.tup [a,b]=>xy a&&xy b
 |_=>Yp
def jU (q:Pt):xG (az q)=decide (gu 1000 q):=by show (decide (-1000<=q.1/\q.1<=1000)&&decide (-1000<=q.2/\q.2<=1000))=_;rw[<- Bool.decide_and];exact Zv.mpr ⟨λh=>⟨h.1.1,h.1.2,h.2.1,h.2.2⟩,λh=>⟨⟨h.1,h.2.1⟩,h.2.2.1,h.2.2.2⟩⟩
def UY (h:xs.length=2):xG (.tup xs)=xs.all xy:=by
 match xs,h with
 |[a,b],_=>simp[xG]
def UZ (h:xs.length≠2):xG (.tup xs)=false:=by
 match xs,h with
 |[],_=>rfl
 |[_],_=>rfl
 |[_,_],h=>exact absurd rfl h
 |_::_::_::_,_=>rfl
def z_ (h:im d=Yp):xG d=false:=by cases d <;> first|rfl|cases h
def ph (ks:Ab (Ab Aq)):Ar:=(ks.zip (ks.drop 1)).all λp=>_H.lexLt p.1 p.2
def wA:D->Ar
 |.tup xs=>decide (1<=xs.length/\xs.length<=40)&&xs.all xG&&(match wF xs with|some Y=>ph Y|none=>Yp)
 |_=>Yp
def ZR (h:inR a b d=Vp):∃ i,d=.int i/\a<=i/\i<=b:=by cases d <;> first|exact⟨_,rfl,Bd h⟩|cases h
def l5 (h:xG d=Vp):∃ q,d=az q/\gu 1000 q:=by
 unfold xG at h;split at h;rw[Ax] at h;obtain⟨x,rfl,J⟩:=ZR h.1;obtain⟨y,rfl,Y⟩:=ZR h.2;exact⟨(x,y),rfl,J.1,J.2,Y.1,Y.2⟩;cases h
theorem kN:∀ {xs:Ab D},xs.all xG=Vp->∃ Y:Ab Pt,xs=Y.map az/\∀ q∈Y,gu 1000 q
 |[],_=>⟨[],rfl,λ_ h=>by cases h⟩
 |d::G,h=>by
  rw[Ik,Ax] at h;obtain⟨Y,rfl,J⟩:=kN h.2;obtain⟨q,rfl,U⟩:=l5 h.1;refine⟨q::Y,rfl,λz hz=>?_⟩;rcases Av.mp hz with rfl|hz
  .exact U
  .exact J z hz
def qBH (a b:Ab Aq)(S:ag):sZ (ml a) (ml b) S=.ok (.bl (_H.lexLt a b)) S:=by unfold sZ ml;simp only[hZ]
theorem sF:∀ (ks:Ab (Ab Aq)),ph ks=Vp↔ks.Pairwise (λa b=>_H.lexLt a b=Vp)
 |[]=>by simp[ph]
 |[a]=>by simp[ph]
 |a::b::r=>by
  have U:=sF (b::r);have e:ph (a::b::r)=(_H.lexLt a b&&ph (b::r)):=by simp[ph]
  rw[e,Ax,U,Fc (a:=a)];constructor
  .rintro⟨Y,J⟩;refine⟨λx hx=>?_,J⟩;rcases Av.mp hx with rfl|hx
   .exact Y
   .exact _S.jF.tr Y ((Fc.mp J).1 x hx)
  .rintro⟨Y,J⟩;exact⟨Y b aA,J⟩
def qAo (ks Y:Ab (Ab Aq)):yL (ks.map ml) (Y.map ml)=(ks.zip Y).map λp=>D.tup [ml p.1,ml p.2]:=by
 unfold yL
 induction ks generalizing Y with
 |nil=>rfl
 |cons k ks J =>
  cases Y with
  |nil=>rfl
  |cons m Y=>exact congrArg (_::·) (J Y)
def ZW (h:im d=Yp):wA d=false:=by cases d <;> first|rfl|cases h
def kK {M:Aj}(O:M<=40){l:Ab Pt}(h:fw M l):wA (qK l)=true:=by
 show (decide (1<=(l.map az).length/\(l.map az).length<=40)&&(l.map az).all xG&&(match wF (l.map az) with|some N=>ph N|none=>Yp))=Vp;have U:1<=(l.map az).length/\(l.map az).length<=40:=by rw[Ao];exact⟨Gg.mpr h.ne,by have:=h.len;lia⟩
 have G:(l.map az).all xG=true:=by rw[Hm];exact Bg.mpr λq J=>(jU q).trans (Ci (h.box q J))
 have Y:ph (l.map kP)=true:=by rw[sF,Ee];exact h.up
 rw[Ci U,G,j3,vW];exact Y
def DX {x:D}(Y:x∈xs)(h:xG x=Yp):wA (.tup xs)=false:=by
 show (decide (1<=xs.length/\xs.length<=40)&&xs.all xG&&(match wF xs with|some J=>ph J|none=>Yp))=Yp;have:xs.all xG=false:=by rw[List.all_eq_false];exact⟨x,Y,by rw[h];simp⟩
 rw[this,Hu,Gv]
def ya (xs:Ab D):wN xs (Aa 1) Zw=xs.drop 1:=by
 unfold wN;have Y:_H.dj xs.length 0 (Aa 1)=min 1 xs.length:=rfl;have J:_H.dj xs.length xs.length Zw=xs.length:=rfl;rw[Y,J];cases xs with
 |nil=>rfl
 |cons x r=>simp
def JY {S:ag}{a:Ab D}{k:Aj}(l:a.length*k<=bb/\k<1000)(h:Q (.lst (Da k a).flatten) S):Ok (bJ (.lst a) (.int (k:Aq)) S) Q:=by
 refine⟨_,_,?_,h⟩;unfold bJ;have c:0<=(k:Aq)/\(k:Aq)<2 ^ 62/\a.length*(k:Aq).toNat<=bb:=⟨by lia,by lia,by rw[Fk];exact l.1⟩
 refine(Au c).trans ?_;rw[Fk]
end _D
namespace _K
open _L _D
noncomputable def top (i:Aj):Du:=Pv.main.body.getD i (.Pass ⟨0,0,0,0⟩)
structure Cl where
 (FarError NoPoint NoLot NoNumber NoCircle NoMarks NoFars NoText NoLine NoDeed Alike TooMany Desk put take move turn mirror tell_lot tell_fars tell_many tell_often tell_threes tell_unlike tell_round tell_square tell_fits tell_bar tell_spare:Af)
noncomputable def zN (c:Cl):Ab Af:=[c.NoPoint,c.NoLot,c.NoNumber,c.NoCircle,c.NoMarks,c.NoFars,c.NoText,c.NoLine,c.NoDeed,c.Alike,c.TooMany]
noncomputable def yD (c:Cl):Ab Ac:=[.ref c.NoPoint,.ref c.NoLot,.ref c.NoNumber,.ref c.NoCircle,.ref c.NoMarks,.ref c.NoFars,.ref c.NoText,.ref c.NoLine,.ref c.NoDeed,.ref c.Alike,.ref c.TooMany]
noncomputable abbrev qt (c:Cl):Ab (Ah × Af):=[("FarError",c.FarError),("NoPoint",c.NoPoint),("NoLot",c.NoLot),("NoNumber",c.NoNumber),("NoCircle",c.NoCircle),("NoMarks",c.NoMarks),("NoFars",c.NoFars),("NoText",c.NoText),("NoLine",c.NoLine),("NoDeed",c.NoDeed),("Alike",c.Alike),("TooMany",c.TooMany),("Desk",c.Desk),("put",c.put),("take",c.take),("move",c.move),("turn",c.turn),("mirror",c.mirror),("tell_lot",c.tell_lot),("tell_fars",c.tell_fars),("tell_many",c.tell_many),("tell_often",c.tell_often),("tell_threes",c.tell_threes),("tell_unlike",c.tell_unlike),("tell_round",c.tell_round),("tell_square",c.tell_square),("tell_fits",c.tell_fits),("tell_bar",c.tell_bar),("tell_spare",c.tell_spare)]
noncomputable abbrev tj (c:Cl):Ab (Ah × Af):=[("NoPoint",c.NoPoint),("NoLot",c.NoLot),("NoNumber",c.NoNumber),("NoCircle",c.NoCircle),("NoMarks",c.NoMarks),("NoFars",c.NoFars),("NoText",c.NoText),("NoLine",c.NoLine),("NoDeed",c.NoDeed)]
noncomputable abbrev ua:Ab (Ah × Aq):=[("LEAST_NUMBER",-1000),("MOST_NUMBER",1000),("MOST_POINTS",40),("MOST_FIGURES",30)]
noncomputable abbrev bl:Ab Ah:=["ValueError","abs","all","bool","divmod","enumerate","int","isinstance","len","list","max","range","set","sorted","str","sum","tuple","zip"]
abbrev td (x:Ah)(n:Aj)(l:Y8):Ah × Aj × Ab Ah:=(x,n,l)
noncomputable abbrev tab:Ab (Ah × Aj × Ab Ah):=[td "is_whole" 14 ["thing"],td "is_within" 15 ["thing","least","most"],td "is_rising" 16 ["some"],td "need_number" 17 ["thing"],td "need_within" 18 ["thing","least","most"],td "is_point" 23 ["thing"],td "is_lot" 24 ["thing"],td "need_point" 25 ["thing"],td "need_lot" 26 ["thing"],td "far_between" 27 ["one","other"],td "pairs_by_far" 28 ["points"],td "far_table" 29 ["lot"],td "fars" 30 ["lot"],td "many_fars" 32 ["lot"],td "often" 33 ["lot","number"],td "rings" 34 ["lot","point"],td "even_threes" 35 ["lot"],td "least_where" 37 ["holds","most"],td "many_pairs" 38 ["n"],td "by_hull" 39 ["n"],td "pairs_of_shares" 40 ["whole","n"],td "pair_bound" 41 ["n"],td "by_pairs" 42 ["n"],td "bar" 43 ["n"],td "spare" 44 ["lot"],td "greatest_common" 46 ["one","other"],td "fraction" 47 ["top","bottom"],td "slant" 48 ["point","one","other"],td "round_groups" 49 ["one","other","points"],td "is_round" 50 ["lot"],td "moved" 52 ["lot","across","up"],td "turned_about" 53 ["lot"],td "mirrored" 54 ["lot"],td "number_in" 57 ["word"],td "point_in" 58 ["word"],td "shown" 59 ["lot"],td "read" 60 ["text"],td "is_square" 62 ["lot"],td "first_like" 64 ["lot"],td "need_unlike" 65 ["lot"],td "are_unlike" 66 ["points"],td "fits" 67 ["lot","point"],td "point_of" 71 ["word"],td "number_of" 72 ["word"],td "put" 73 ["lot","values"],td "take" 74 ["lot","values"],td "move" 75 ["lot","values"],td "turn" 76 ["lot","values"],td "mirror" 77 ["lot","values"],td "yes_or_no" 78 ["truth"],td "tell_lot" 79 ["lot","values"],td "tell_fars" 80 ["lot","values"],td "tell_many" 81 ["lot","values"],td "tell_often" 82 ["lot","values"],td "tell_threes" 83 ["lot","values"],td "tell_unlike" 84 ["lot","values"],td "tell_round" 85 ["lot","values"],td "tell_square" 86 ["lot","values"],td "tell_fits" 87 ["lot","values"],td "tell_bar" 88 ["lot","values"],td "tell_spare" 89 ["lot","values"],td "words_of" 93 ["line"],td "values_of" 94 ["words"],td "_law_cell" 97 ["_law_script","_law_k"],td "_law_pen" 98 ["_law_cell_here"],td "_law_draw" 99 ["_law_pen_here","_law_many"],td "_law_whole" 100 ["_law_thing"],td "_law_same" 101 ["_law_found","_law_due"],td "_law_kind_of" 102 ["_law_e"],td "_law_point" 103 ["_law_pen_here","_law_wide"],td "_law_lot" 104 ["_law_pen_here","_law_most"],td "_law_is_point" 105 ["_law_thing"],td "_law_is_lot" 106 ["_law_thing"],td "_law_text" 107 ["_law_lot_here"],td "_law_number" 108 ["_law_word"],td "_law_point_in" 109 ["_law_word"],td "_law_read" 110 ["_law_text_here"],td "_law_bent_text" 111 ["_law_pen_here","_law_text_here"],td "_law_said" 112 ["_law_desk","_law_line"],td "_law_changed" 113 ["_law_lot_here","_law_word","_law_things"],td "_law_went" 114 ["_law_state","_law_line"],td "_law_deed" 115 ["_law_pen_here","_law_state"],td "_law_no_line" 116 ["_law_pen_here","_law_lot_here"],td "law" 117 ["_law_script"]]
abbrev Txt (K:Ag)(mg:J8)(c:Cl):Prop:=zm K mg top tab bl (qt c) (tj c) (yD c) (zN c) ua
abbrev rC:Ab Ah:=["by_hull","pair_bound"]
noncomputable abbrev yp (c:Cl):Ab (Ah × Af × Ab Ah):=[("Alike",c.Alike,["one","two","three","four"]),("TooMany",c.TooMany,["many","most"])]
def UN:Z8 (UV (top 11)) ["one","two","three","four"]:=⟨λq kV Y J N Q U G h=>by obtain⟨_,_,_,_,_,rfl⟩:=us5 h;rfl,kd,.cons (.cons (.cons (.cons (.nil))))⟩
def QU:Z8 (UV (top 12)) ["many","most"]:=⟨λq kV Y J N Q U G h=>by obtain⟨_,_,_,rfl⟩:=_c h;rfl,kd,.cons (.cons (.nil))⟩
noncomputable abbrev zV:Ab (Ah × D):=[("put",.str "P"),("take",.str "P"),("move",.str "NN"),("turn",.str ""),("mirror",.str ""),("back",.str ""),("lot",.str ""),("fars",.str ""),("many",.str ""),("often",.str "N"),("threes",.str ""),("unlike",.str ""),("round",.str ""),("square",.str ""),("fits",.str "P"),("bar",.str ""),("spare",.str "")]
noncomputable abbrev xV (c:Cl):Ab (Ah × D):=[("put",.obj c.put),("take",.obj c.take),("move",.obj c.move),("turn",.obj c.turn),("mirror",.obj c.mirror)]
noncomputable abbrev yI (c:Cl):Ab (Ah × D):=[("lot",.obj c.tell_lot),("fars",.obj c.tell_fars),("many",.obj c.tell_many),("often",.obj c.tell_often),("threes",.obj c.tell_threes),("unlike",.obj c.tell_unlike),("round",.obj c.tell_round),("square",.obj c.tell_square),("fits",.obj c.tell_fits),("bar",.obj c.tell_bar),("spare",.obj c.tell_spare)]
structure yx (K:Ag)(mg:J8)(c:Cl):Prop where
 dk_Desk:ym K c.Desk ["lots"]
 m_Desk_init:ul K c.Desk "__init__" "Desk.__init__" (xc (top 95) 0)
 m_Desk_say:ul K c.Desk "say" "Desk.say" (xc (top 95) 1)
 m_Desk_keep:ul K c.Desk "keep" "Desk.keep" (xc (top 95) 2)
 m_Desk_undo:ul K c.Desk "undo" "Desk.undo" (xc (top 95) 3)
 tab_FORMS:∃ a,mg "FORMS" = Aa (.ref a)/\vZ K a zV
 tab_DEEDS:∃ a,mg "DEEDS" = Aa (.ref a)/\vZ K a (xV c)
 tab_QUESTIONS:∃ a,mg "QUESTIONS" = Aa (.ref a)/\vZ K a (yI c)
 str_LOT_AND_BLANK:∃ t,mg "LOT_AND_BLANK" = Aa (.str "lot " t)
 tup_FIRST_LOT:∃ a,mg "FIRST_LOT" = Aa (.ref a)/\∀ P J,am K P J (D.tup [D.tup [D.int 0,D.int 0]]) (.ref a)
def uh (c:Cl):Ab Af:=[c.put,c.take,c.move,c.turn,c.mirror,c.tell_lot]
def o7:yt "__init__" (xc (top 95) 0) ["self"]:=λq kV Y J N Q U G h=>by obtain⟨_,rfl⟩:=O_ h;rfl
def QY:yt "say" (xc (top 95) 1) ["self","line"]:=λq kV Y J N Q U G h=>by obtain⟨_,_,rfl⟩:=N_ h;rfl
def o8:yt "keep" (xc (top 95) 2) ["self","lot"]:=λq kV Y J N Q U G h=>by obtain⟨_,_,rfl⟩:=N_ h;rfl
def o9:yt "undo" (xc (top 95) 3) ["self"]:=λq kV Y J N Q U G h=>by obtain⟨_,rfl⟩:=O_ h;rfl
abbrev vc (a:DE):=qA a qC
abbrev vd (a b:DE):=qA a (vc b)
abbrev vf (a b c:DE):=qA a (vd b c)
abbrev vg (a b c d:DE):=qA a (vf b c d)
abbrev ic (i:Int):DE:=dC (.int i)
abbrev ig (x:Str):DE:=dC (.str x)
abbrev vh:DE:=qB 0
abbrev vi:DE:=qB 1
abbrev vj:DE:=qB 2
abbrev vm:DE:=qB 5
abbrev vn:DE:=qB 6
abbrev vo:DE:=qB 3
abbrev vp:DE:=qB 4
abbrev l_:DS:=qE (cw (bg (d2 fx (d2 bx vh (ic 1)) (ic 1))) (qE (qV (d2 kI (d2 bx vh (ic 0)) vi) (bc 2)) (qE (qV (d2 m7 (d2 bx vh (ic 0)) vi) (zd vh (ic 0) tI)) (qN vj))) qU) (qE (qV (d2 kI (d2 qR (d2 yY (d2 kI (d2 bx vh (ic 0)) (ic 2147483629)) (ic 48271)) (ic 11)) (ic 2147483629)) (zd vh (ic 0) tI)) (qN (d2 kI (d2 m7 (d2 kI (d2 qR (d2 yY (d2 bx vh (ic 0)) (d2 bx vh (ic 0))) (d2 yY (ic 40692) (d2 bx vh (ic 0)))) (ic 2147483647)) (ic 8)) vi)))
@[irreducible] def ao:DF:=sh (qM 3 l_)
def p6:ao=qM 3 l_:=by delta ao;exact zE _
abbrev gn (c:Cl):DS:=dS c.Desk "lots" vh (tG (vc (dC (D.tup [D.tup [D.int 0,D.int 0]]))))
@[irreducible] def ey (c:Cl):DF:=sh (qM 1 (gn c))
def gW (c:Cl):ey c=qM 1 (gn c):=by delta ey;exact zE _
abbrev lx:DS:=qN (ki "str" jM (ig " ") (vc (zC Yp [Zw,Zw] (je vh) (lg 2 (qZ (bc 0) (qZ (bc 1) xF))) zX (z9 (d2 qR (d2 qR (qG jK (vc vh)) (ig ",")) (qG jK (vc vi)))))))
@[irreducible] def bq:DF:=sh (qM 1 lx)
def pB:bq=qM 1 lx:=by delta bq;exact zE _
abbrev ja:DS:=qE (qV (qI 1 bq (vc (zL (vc (d2 bx vi (qI 2 ao (vd vh (qG zZ (vc vi))))))))) (bc 2)) (qE (qV (d2 bx (zL (vg (ig "put") (ig "take") (ig "fits") (ig "often"))) (qI 2 ao (vd vh (ic 4)))) (bc 3)) (qE (tU 4 5 6 (vf (qI 2 ao (vd vh (ic 49))) (qI 2 ao (vd vh (ic 6))) (qI 2 ao (vd vh (ic 95))))) (qE (qV (zL (qA (ig "turn") (qA (ig "mirror") (qA (ig "back") (qA (ig "lot") (qA (ig "fars") (qA (ig "many") (qA (ig "threes") (vg (ig "unlike") (ig "round") (ig "square") (ig "bar")))))))))) (bc 7)) (qE (qV (d2 bx (d2 qR (qB 7) (zL (vc (ig "spare")))) (qI 2 ao (vd vh (ic 12)))) (bc 7)) (qE (qV (ig "!\"#$&'()*+,-./0123456789:;<=>?@ABCDEFGHIJKLMNOPQRSTUVWXYZ[\\]^_`") (bc 8)) (qE (qV (d2 qR (qB 8) (ig "abcdefghijklmnopqrstuvwxyz{|}~ \n")) (bc 8)) (qE (f7 5 9 (vd (d2 kI vm (qG zZ (vc (qB 7)))) (mh (bg (d2 io (qB 7) (ig "lot"))) (qB 7) (ig "many")))) (qE (qV (d2 qR (d2 qR (yP (qB 7) zM (zF vm)) (d2 m9 (qB 8) vn)) (yP (qB 7) (zF vm) zM)) (bc 10)) (qE (qV (zL (qA (dC .non) (qA (ic 7) (qA (dC (.bl Vp)) (qA (zL (vc (ig "back"))) (qA (zW (vc (ig "turn"))) (qA cY (qA (ig "") (qA (ig " ") (qA (ig "put") (qA (ig "take") (qA (ig "move") (vg (ig "often") (ig "fits") (ig "put ") (ig "fits ")))))))))))))) (bc 11)) (qE (qV (d2 qR (qB 11) (zL (qA (ig "move 1") (qA (ig "move 1 ") (qA (ig "move 1  2") (qA (ig "move 1 2 3") (vg (ig " move 1 2") (ig "Move 1 2") (ig "moves 1 2") (ig "move  1")))))))) (bc 11)) (qE (qV (d2 qR (qB 11) (zL (vg (d2 qR (d2 qR vo (ig "  ")) vj) (d2 qR (d2 qR (d2 qR vo (ig " ")) vj) (ig " ")) (d2 qR (ig " put ") vj) (d2 qR (d2 qR vo (ig " 0 ")) vj)))) (bc 11)) (qE (qV (d2 qR (qB 11) (zL (qA (d2 qR (d2 qR (nR "str" pN vo) (ig " ")) vj) (vg (d2 qR (d2 qR vo (ig "s ")) vj) (d2 qR vo vj) (d2 qR (ig "took ") vj) (d2 qR (ig "put\n") vj))))) (bc 11)) (qE (qV (d2 jL (qB 11) (zL (qA (d2 qR (ig "fit ") vj) (qA (ig "often 1 2") (qA (ig "oftens 1") (vg (d2 qR (qB 9) (ig " 1")) (d2 qR (qB 9) (ig " 0,0")) (ig "Lot 0,0") (ig "lots 0,0"))))))) (bc 11)) (qE (wC (ki "list" wZ (qB 11) (vc (ig " lot 0,0")))) (qE (qV (d2 jL (qB 11) (zL (qA (ig "lot\n0,0") (qA (ig "0,0") (qA (qB 10) (qA (qB 10) (vg (qB 10) (d2 qR (qB 7) (ig "\n")) (nR "str" pN (qB 7)) (pH (qB 7) (d1 yB (ic 1)))))))))) (bc 11)) (qE (wC (ki "list" wZ (qB 11) (vc (mh (bg (d2 io (qB 7) (ig "lot"))) (d2 qR (qB 7) (ig " ")) (ig "bar "))))) (qN (d2 bx (qB 11) vp))))))))))))))))))
@[irreducible] def di:DF:=sh (qM 12 ja)
def jI:di=qM 12 ja:=by delta di;exact zE _
abbrev jb (c:Cl):DS:=qE (qV (zL (vg (qG (xT (zN c)) (vd vh (dC (.obj c.NoPoint)))) (qG (xT (zN c)) (vd vh (dC (.obj c.NoLot)))) (qG (xT (zN c)) (vd vh (dC (.obj c.NoNumber)))) (qG (xT (zN c)) (vd vh (dC (.obj c.NoCircle)))))) (bc 1)) (qE (qV (d2 qR vi (zL (vg (qG (xT (zN c)) (vd vh (dC (.obj c.NoMarks)))) (qG (xT (zN c)) (vd vh (dC (.obj c.NoFars)))) (qG (xT (zN c)) (vd vh (dC (.obj c.NoText)))) (qG (xT (zN c)) (vd vh (dC (.obj c.NoLine))))))) (bc 1)) (qE (qV (d2 qR vi (zL (vf (qG (xT (zN c)) (vd vh (dC (.obj c.NoDeed)))) (qG (xT (zN c)) (vd vh (dC (.obj c.Alike)))) (qG (xT (zN c)) (vd vh (dC (.obj c.TooMany))))))) (bc 1)) (qE (cw (wO (xK (bg (qG (xT (zN c)) (vd vh (dC (.ty "ValueError")))))) (bg (d2 io (ki "list" m6 vi (vc (dC (.bl Vp)))) (ic 1)))) (qN (ig "other")) qU) (qE (cw (bg (qG (xT (zN c)) (vd vh (dC (.obj c.Alike))))) (qN (zL (qA (ig "alike") (vg (bE [c.Alike] "one" vh) (bE [c.Alike] "two" vh) (bE [c.Alike] "three" vh) (bE [c.Alike] "four" vh))))) qU) (qE (cw (bg (qG (xT (zN c)) (vd vh (dC (.obj c.TooMany))))) (qN (zL (vf (ig "many") (bE [c.TooMany] "many" vh) (bE [c.TooMany] "most" vh)))) qU) (qE (qV (zL (qA (ig "point") (qA (ig "lot") (qA (ig "number") (qA (ig "circle") (qA (ig "marks") (vg (ig "fars") (ig "text") (ig "line") (ig "deed")))))))) (bc 2)) (qN (d2 bx vj (ki "list" m8 vi (vc (dC (.bl Vp))))))))))))
@[irreducible] def au (c:Cl):DF:=sh (qM 3 (jb c))
def vA (c:Cl):au c=qM 3 (jb c):=by delta au;exact zE _
abbrev lj:DS:=qE (qV (ki "str" nX vh (vc (ig "-"))) (bc 1)) (qE (cw (wO (bg (d2 yo (qG zZ (vc vi)) (ic 30))) (xK (bg (nR "str" iR vi)))) (qN (dC .non)) qU) (qE (qV (qG bH (vc vh)) (bc 2)) (qN (mh (bg (d2 fx (qG jK (vc vj)) vh)) vj (dC .non)))))
@[irreducible] def er:DF:=sh (qM 3 lj)
def pF:er=qM 3 lj:=by delta er;exact zE _
abbrev ng:DS:=qN (kF (qG zQ (vd vh (dC (.ty "int")))) (wg (qG zQ (vd vh (dC (.ty "bool"))))))
@[irreducible] def fr:DF:=sh (qM 1 ng)
def fK:fr=qM 1 ng:=by delta fr;exact zE _
abbrev lq:DS:=qN (kF (qI 1 fr (vc vh)) (wX sv sv vi vh vj))
@[irreducible] def fy:DF:=sh (qM 3 lq)
def pE:fy=qM 3 lq:=by delta fy;exact zE _
abbrev nh:DS:=qE (cw (wO (xK (bg (qG zQ (vd vh (dC (.ty "tuple")))))) (bg (d2 io (qG zZ (vc vh)) (ic 2)))) (qN (dC (.bl Yp))) qU) (qN (qG (bG Yp) (vc (zC Yp [Zw] (je vh) (bc 0) zX (z9 (qI 3 (kh fy) (vf vh (dC (.int (-1000))) (ic 1000))))))))
@[irreducible] def ef:DF:=sh (qM 1 nh)
def fJ:ef=qM 1 nh:=by delta ef;exact zE _
abbrev mz:DS:=qE (qV (qG xR (vc (zC Yp [Zw] (je (ki "str" y0 vh (vc (ig ",")))) (bc 0) zX (z9 (qI 1 (kh er) (vc vh)))))) (bc 1)) (qN (mh (bg (qI 1 ef (vc vi))) vi (dC .non)))
@[irreducible] def fq:DF:=sh (qM 2 mz)
def fN:fq=qM 2 mz:=by delta fq;exact zE _
abbrev lr:DS:=qN (qG (bG Yp) (vc (zC Yp [Zw,Zw] (wB (sR (vd vh (nv vh (zF (ic 1)) zM)))) (lg 2 (qZ (bc 0) (qZ (bc 1) xF))) zX (z9 (d2 sZ vh vi)))))
@[irreducible] def fz:DF:=sh (qM 1 lr)
def pD:fz=qM 1 lr:=by delta fz;exact zE _
abbrev pq:DS:=qE (cw (wO (xK (bg (qG zQ (vd vh (dC (.ty "tuple")))))) (xK (bg (wX sv sv (ic 1) (qG zZ (vc vh)) (ic 40))))) (qN (dC (.bl Yp))) qU) (qN (kF (qG (bG Yp) (vc (zC Yp [Zw] (je vh) (bc 0) zX (z9 (qI 1 (kh ef) (vc vh)))))) (qI 1 fz (vc vh))))
@[irreducible] def gw:DF:=sh (qM 1 pq)
def tW:gw=qM 1 pq:=by delta gw;exact zE _
abbrev qu (c:Cl):DS:=qE (cw (xK (bg (qG zQ (vd vh (dC (.ty "str")))))) (xI (.ref c.NoText) (vc (ig "a text is needed"))) qU) (qE (qV (qG xR (vc (zC Yp [Zw] (je (ki "str" y0 vh (vc (ig " ")))) (bc 0) zX (z9 (qI 1 (kh fq) (vc vh)))))) (bc 1)) (qE (cw (xK (bg (qI 1 gw (vc vi)))) (xI (.ref c.NoText) (vc (ig "the text writes no lot"))) qU) (qN vi)))
@[irreducible] def jo (c:Cl):DF:=sh (qM 2 (qu c))
def fV (c:Cl):jo c=qM 2 (qu c):=by delta jo;exact zE _
abbrev jd (c:Cl):DS:=qE (wC (ki "list" wZ (d1 (yJ c.Desk "lots") vh) (vc vi))) (qN (ig "ok"))
@[irreducible] def bn (c:Cl):DF:=sh (qM 2 (jd c))
def gX (c:Cl):bn c=qM 2 (jd c):=by delta bn;exact zE _
abbrev lh (c:Cl):DS:=qE (qV (qI 1 er (vc vh)) (bc 1)) (qE (cw (bg (d2 xh vi (dC .non))) (xI (.ref c.NoNumber) (vc (ig "the word writes no number"))) qU) (qN vi))
@[irreducible] def ci (c:Cl):DF:=sh (qM 2 (lh c))
def uK (c:Cl):ci c=qM 2 (lh c):=by delta ci;exact zE _
abbrev my (c:Cl):DS:=qE (qV (qI 1 fq (vc vh)) (bc 1)) (qE (cw (bg (d2 xh vi (dC .non))) (xI (.ref c.NoPoint) (vc (ig "the word writes no point"))) qU) (qN vi))
@[irreducible] def df (c:Cl):DF:=sh (qM 2 (my c))
def jC (c:Cl):df c=qM 2 (my c):=by delta df;exact zE _
abbrev ix (c:Cl):DS:=qN (zC Yp [Zw,Zw] (wB (lM (vd (d1 (vB zV) (d2 bx vh (ic 0))) (nv vh (zF (ic 1)) zM)))) (lg 2 (qZ (bc 0) (qZ (bc 1) xF))) zX (z9 (mh (bg (d2 fx vh (ig "P"))) (qI 1 (kh (df c)) (vc vi)) (qI 1 (kh (ci c)) (vc vi)))))
@[irreducible] def bw (c:Cl):DF:=sh (qM 1 (ix c))
def pG (c:Cl):bw c=qM 1 (ix c):=by delta bw;exact zE _
abbrev mw (c:Cl):DS:=qE (qV (ki "str" y0 vh (vc (ig " "))) (bc 1)) (qE (cw (wO (bg (d2 tz (ig "") vi)) (wO (bg (d1 (yQ Vp zV) (d2 bx vi (ic 0)))) (bg (d2 io (qG zZ (vc vi)) (d2 qR (qG zZ (vc (d1 (vB zV) (d2 bx vi (ic 0))))) (ic 1)))))) (xI (.ref c.NoLine) (vc (ig "this is no line"))) qU) (qN vi))
@[irreducible] def ec (c:Cl):DF:=sh (qM 2 (mw c))
def jD (c:Cl):ec c=qM 2 (mw c):=by delta ec;exact zE _
abbrev ji (c:Cl):DS:=cw (xK (bg (qI 1 fr (vc vh)))) (xI (.ref c.NoNumber) (vc (ig "a whole number is needed"))) qU
@[irreducible] def cx (c:Cl):DF:=sh (qM 1 (ji c))
def kA (c:Cl):cx c=qM 1 (ji c):=by delta cx;exact zE _
abbrev jy (c:Cl):DS:=cw (xK (bg (qI 1 ef (vc vh)))) (xI (.ref c.NoPoint) (vc (ig "a point is needed"))) qU
@[irreducible] def dk (c:Cl):DF:=sh (qM 1 (jy c))
def vY (c:Cl):dk c=qM 1 (jy c):=by delta dk;exact zE _
abbrev m_ (c:Cl):DS:=cw (xK (bg (qI 1 gw (vc vh)))) (xI (.ref c.NoLot) (vc (ig "a lot is needed"))) qU
@[irreducible] def dh (c:Cl):DF:=sh (qM 1 (m_ c))
def fM (c:Cl):dh c=qM 1 (m_ c):=by delta dh;exact zE _
abbrev o_ (c:Cl):DS:=qE (wC (qI 1 (dh c) (vc vh))) (qE (wC (qI 1 (cx c) (vc vi))) (qE (wC (qI 1 (cx c) (vc vj))) (qE (qV (qG xR (vc (zC Yp [Zw,Zw,Aa 1,Aa 2] (je vh) (lg 2 (qZ (bc 0) (qZ (bc 1) xF))) zX (z9 (zW (vd (d2 qR vh vj) (d2 qR vi vo))))))) (bc 3)) (qE (gS (uW vo) (bc 4) (wC (qI 1 (dk c) (vc vp)))) (qN vo)))))
@[irreducible] def fu (c:Cl):DF:=sh (qM 5 (o_ c))
def b9 (c:Cl):fu c=qM 5 (o_ c):=by delta fu;exact zE _
abbrev pc (c:Cl):DS:=qN (qI 3 (fu c) (vf vh (d2 bx vi (ic 0)) (d2 bx vi (ic 1))))
@[irreducible] def gt (c:Cl):DF:=sh (qM 2 (pc c))
def eF (c:Cl):gt c=qM 2 (pc c):=by delta gt;exact zE _
abbrev rk (c:Cl):DS:=qE (wC (qI 1 (dh c) (vc vh))) (qN (ki "str" jM (ig " ") (vc (zC Yp [Zw,Zw] (je vh) (lg 2 (qZ (bc 0) (qZ (bc 1) xF))) zX (z9 (cZ [d1 bI (qB 0),dC (.str ","),d1 bI (qB 1)]))))))
@[irreducible] def kg (c:Cl):DF:=sh (qM 1 (rk c))
def lI (c:Cl):kg c=qM 1 (rk c):=by delta kg;exact zE _
abbrev mx (c:Cl):DS:=qN (qI 1 (kg c) (vc vh))
@[irreducible] def ce (c:Cl):DF:=sh (qM 2 (mx c))
def fO (c:Cl):ce c=qM 2 (mx c):=by delta ce;exact zE _
abbrev jc (c:Cl):DS:=qE (cw (bg (d2 fx (qG zZ (vc (d1 (yJ c.Desk "lots") vh))) (ic 1))) (xI (.ref c.NoDeed) (vc (ig "no deed stands"))) qU) (qE (wC (nR "list" lQ (d1 (yJ c.Desk "lots") vh))) (qN (ig "ok")))
@[irreducible] def bv (c:Cl):DF:=sh (qM 1 (jc c))
def uI (c:Cl):bv c=qM 1 (jc c):=by delta bv;exact zE _
abbrev iy (c:Cl):DS:=qE (wC (qI 1 (dh c) (vc vh))) (qN (qG xR (vc (qG yH (vc (zC Yp [Zw,Zw] (je vh) (lg 2 (qZ (bc 0) (qZ (bc 1) xF))) zX (z9 (zW (vd (d1 yB vi) vh)))))))))
@[irreducible] def de (c:Cl):DF:=sh (qM 1 (iy c))
def jJ (c:Cl):de c=qM 1 (iy c):=by delta de;exact zE _
abbrev ui (c:Cl):DS:=qN (qI 1 (de c) (vc vh))
@[irreducible] def gq (c:Cl):DF:=sh (qM 2 (ui c))
def eG (c:Cl):gq c=qM 2 (ui c):=by delta gq;exact zE _
abbrev nc (c:Cl):DS:=qE (wC (qI 1 (dh c) (vc vh))) (qN (qG xR (vc (qG yH (vc (zC Yp [Zw,Zw] (je vh) (lg 2 (qZ (bc 0) (qZ (bc 1) xF))) zX (z9 (zW (vd vi vh)))))))))
@[irreducible] def gg (c:Cl):DF:=sh (qM 1 (nc c))
def fL (c:Cl):gg c=qM 1 (nc c):=by delta gg;exact zE _
abbrev pj (c:Cl):DS:=qN (qI 1 (gg c) (vc vh))
@[irreducible] def dy (c:Cl):DF:=sh (qM 2 (pj c))
def tX (c:Cl):dy c=qM 2 (pj c):=by delta dy;exact zE _
abbrev uj (c:Cl):DS:=qE (cw (bg (d2 pL (d2 bx vi (ic 0)) vh)) (xI (.ref c.NoDeed) (vc (ig "the point is not in the lot"))) qU) (qE (cw (bg (d2 fx (qG zZ (vc vh)) (ic 1))) (xI (.ref c.NoDeed) (vc (ig "the point is the only one"))) qU) (qN (qG xR (vc (zC Yp [Zw,Aa 1] (je vh) (bc 0) (yW (bg (d2 io vh (d2 bx vi (ic 0)))) zX) (z9 vh))))))
@[irreducible] def gc (c:Cl):DF:=sh (qM 2 (uj c))
def g6 (c:Cl):gc c=qM 2 (uj c):=by delta gc;exact zE _
abbrev xl (c:Cl):DS:=qE (cw (bg (d2 tz (d2 bx vi (ic 0)) vh)) (xI (.ref c.NoDeed) (vc (ig "the point is in the lot"))) qU) (qE (cw (bg (d2 ze (qG zZ (vc vh)) (ic 40))) (pY (.ref c.TooMany) ["many","most"] (vd (d2 qR (qG zZ (vc vh)) (ic 1)) (ic 40))) qU) (qN (qG xR (vc (qG yH (vc (d2 qR vh (zW (vc (d2 bx vi (ic 0)))))))))))
@[irreducible] def ii (c:Cl):DF:=sh (qM 2 (xl c))
def bA (c:Cl):ii c=qM 2 (xl c):=by delta ii;exact zE _
abbrev d_ (c:Cl):DS:=qE (cw (xK (bg (qG zQ (vd vi (dC (.ty "str")))))) (xI (.ref c.NoLine) (vc (ig "a text is needed"))) qU) (qE (cw (bg (ki "str" pM vi (vc (ig "lot ")))) (qN (xJ c.Desk "keep" 2 (bn c) vh (vc (qI 1 (jo c) (vc (ki "str" nX vi (vc (ig "lot ")))))))) qU) (qE (qV (qI 1 (ec c) (vc vi)) (bc 2)) (qE (qV (qI 1 (bw c) (vc vj)) (bc 3)) (qE (cw (bg (d2 fx (d2 bx vj (ic 0)) (ig "back"))) (qN (xJ c.Desk "undo" 1 (bv c) vh qC)) qU) (qE (cw (bg (d1 (yQ Yp (xV c)) (d2 bx vj (ic 0)))) (qE (qV (d1 (vB (xV c)) (d2 bx vj (ic 0))) (bc 4)) (qN (xJ c.Desk "keep" 2 (bn c) vh (vc (u7 4 [(c.put,2,ii c),(c.take,2,gc c),(c.move,2,gt c),(c.turn,2,gq c),(c.mirror,2,dy c),(c.tell_lot,2,ce c)] (vd (d2 bx (d1 (yJ c.Desk "lots") vh) (d1 yB (ic 1))) vo)))))) qU) (qE (qV (d1 (vB (yI c)) (d2 bx vj (ic 0))) (bc 5)) (qN (u7 5 [(c.put,2,ii c),(c.take,2,gc c),(c.move,2,gt c),(c.turn,2,gq c),(c.mirror,2,dy c),(c.tell_lot,2,ce c)] (vd (d2 bx (d1 (yJ c.Desk "lots") vh) (d1 yB (ic 1))) vo)))))))))
@[irreducible] def a_ (c:Cl):DF:=sh (qM 6 (d_ c))
def jB (c:Cl):a_ c=qM 6 (d_ c):=by delta a_;exact zE _
abbrev gl (c:Cl):DS:=lB 3 2 (yD c) (qN (xJ c.Desk "say" 2 (a_ c) vh (vc vi))) (qN (zL (vd (ig "no") (qI 1 (au c) (vc vj)))))
@[irreducible] def bj (c:Cl):DF:=sh (qM 3 (gl c))
def uJ (c:Cl):bj c=qM 3 (gl c):=by delta bj;exact zE _
abbrev md:DS:=qE (cw (bg (d2 wb vi (qG zZ (vc vh)))) (qN (d2 bx vh vi)) qU) (qN (ic 0))
@[irreducible] def et:DF:=sh (qM 2 md)
def gY:et=qM 2 md:=by delta et;exact zE _
abbrev kc:DS:=qN (zW (vd (d2 jE (qI 2 ao (vd vh (d2 qR (d2 yY (ic 2) vi) (ic 1)))) vi) (d2 jE (qI 2 ao (vd vh (d2 qR (d2 yY (ic 2) vi) (ic 1)))) vi)))
@[irreducible] def cn:DF:=sh (qM 2 kc)
def kY:cn=qM 2 kc:=by delta cn;exact zE _
abbrev gv:DS:=qE (f7 2 3 (vd (qI 2 ao (vd vh (ic 12))) (qI 2 ao (vd vh (d2 qR (qG zZ (vc vi)) (ic 1)))))) (qE (qV (d2 m9 (ig "0123456789 ,-+.\nx_:;") (qI 2 ao (vd vh (ic 20)))) (bc 4)) (qE (qV (ki "str" y0 vi (vc (ig " "))) (bc 5)) (qE (qV (qI 2 ao (vd vh (qG zZ (vc vm)))) (bc 6)) (qE (qV (d2 bx vm vn) (bc 7)) (qE (qV (d2 bJ (zL (vc (d2 qR (d2 qR (yP vi zM (zF vo)) vp) (yP vi (zF vo) zM)))) (ic 3)) (bc 8)) (qE (qV (d2 qR (qB 8) (d2 bJ (zL (vc (d2 qR (d2 qR (yP vi zM (zF vo)) vp) (yP vi (zF (d2 qR vo (ic 1))) zM)))) (ic 2))) (bc 8)) (qE (qV (d2 jL (qB 8) (zL (vg (d2 qR (yP vi zM (zF vo)) (yP vi (zF (d2 qR vo (ic 1))) zM)) (d2 qR vi (ig " ")) (d2 qR (ig " ") vi) (fZ " " "  " vi)))) (bc 8)) (qE (gS (uW (zL (vf (zL (vd (qB 7) (qB 7))) (zL (vc (pH (qB 7) (d1 yB (ic 1))))) (d2 qR (nv vm (zF (d2 qR vn (ic 1))) (zF (d2 qR vn (ic 2)))) (zL (vc (qB 7))))))) (bc 9) (wC (ki "list" wZ (qB 8) (vc (ki "str" jM (ig " ") (vc (d2 qR (d2 qR (nv vm zM (zF vn)) (qB 9)) (nv vm (zF (d2 qR vn (ic 1))) zM)))))))) (qN (yP (d2 bx (qB 8) vj) zM (zF (ic 600))))))))))))
@[irreducible] def cf:DF:=sh (qM 10 gv)
def uG:cf=qM 10 gv:=by delta cf;exact zE _
abbrev nj:DS:=qE (f7 2 3 (vd (qI 2 ao (vd vh (ic 7))) (d2 qR (ic 1) (qI 2 ao (vd vh vi))))) (qE (qV (zW (vd (d2 bx (zL (qA (ic 1) (vg (ic 2) (ic 4) (ic 12) (ic 1000)))) (qI 2 ao (vd vh (ic 5)))) (qI 2 cn (vd vh (ic 400))))) (lg 2 (qZ (bc 4) (qZ (bc 5) xF)))) (qE (qV (d2 qR (ic 1) (qI 2 ao (vd vh (ic 9)))) (bc 6)) (qE (qV (zC Yp [Zw,Aa 0,Aa 4] (wB (kG (vc vo))) (bc 0) zX (z9 (qI 2 (kh cn) (vd vi vj)))) (bc 7)) (qE (cw (bg (d2 fx vj (ic 0))) (qV (zC Yp [Zw,Aa 5] (wB (kG (vc vo))) (bc 0) zX (z9 (zW (vd (d2 qR (d2 bx vi (ic 0)) (d2 kI vh (ic 4))) (d2 qR (d2 bx vi (ic 1)) (d2 m7 vh (ic 4))))))) (bc 7)) qU) (qE (cw (bg (d2 fx vj (ic 1))) (qV (zC Yp [Zw,Aa 5,Aa 6] (wB (kG (vc vo))) (bc 0) zX (z9 (zW (vd (d2 qR (d2 bx vi (ic 0)) (d2 yY vj vh)) (d2 jE (d2 bx vi (ic 1)) vh))))) (bc 7)) qU) (qE (cw (bg (d2 fx vj (ic 2))) (qE (qV (nv (qB 7) zM (zF (d2 qR (ic 1) (d2 m7 vo (ic 4))))) (bc 8)) (qE (qV (d2 qR (d2 qR (qB 8) (zC Yp [Zw,Zw] (je (qB 8)) (lg 2 (qZ (bc 0) (qZ (bc 1) xF))) zX (z9 (zW (vd (d2 jE (ic 0) vi) vh))))) (zC Yp [Zw,Zw] (je (qB 8)) (lg 2 (qZ (bc 0) (qZ (bc 1) xF))) zX (z9 (zW (vd (d2 jE (ic 0) vh) (d2 jE (ic 0) vi)))))) (bc 7)) (qV (d2 qR (qB 7) (zC Yp [Zw,Zw] (je (qB 8)) (lg 2 (qZ (bc 0) (qZ (bc 1) xF))) zX (z9 (zW (vd vi (d2 jE (ic 0) vh)))))) (bc 7)))) qU) (qN (qG xR (vc (uX Yp (nv (qB 7) zM (zF vo))))))))))))
@[irreducible] def gj:DF:=sh (qM 9 nj)
def fG:gj=qM 9 nj:=by delta gj;exact zE _
abbrev ma:DS:=qE (qV vi (lg 2 (qZ (bc 2) (qZ (bc 3) xF)))) (qE (tU 4 5 6 (vf (qI 2 ao (vd vh (ic 20))) (d2 bx (zL (vg (ic 2) (ic 5) (ic 30) (ic 1000))) (qI 2 ao (vd vh (ic 4)))) (qI 2 gj (vd vh (ic 12))))) (qE (f7 7 8 (vd (d2 bx vj (qI 2 ao (vd vh (qG zZ (vc vj))))) (qI 2 cn (vd vh vm)))) (qE (qV (d2 bx (zL (qA (ig "0") (qA (ig "0,01") (qA (ig "x") (qA (ig "1001,0") (qA (ig "0,0,0") (qA (ig "-0,0") (vg (ig "0,") (ig "1,2\n") (ig "+1,0") (ig "--1,0"))))))))) (qI 2 ao (vd vh (ic 10)))) (bc 9)) (qE (qV (d2 bx (zL (vd (ig "put ") (ig "take "))) (qI 2 ao (vd vh (ic 2)))) (bc 10)) (qE (cw (bg (d2 wb vp (ic 3))) (qE (qV (qI 1 bq (vc vn)) (bc 11)) (qN (d2 qR (ig "lot ") (d2 bx (zL (vf (qB 11) (qI 2 cf (vd vh (qB 11))) (qI 1 bq (vc (d2 qR vj (zW (vc (zW (vd (ic 999) (ic 999)))))))))) vp)))) qU) (qE (cw (bg (d2 wb vp (ic 8))) (qN (d2 qR (ig "put ") (qI 1 bq (vc (zL (vc (qB 8))))))) qU) (qE (cw (bg (d2 wb vp (ic 12))) (qN (d2 qR (qB 10) (qI 1 bq (vc (zL (vc (qB 7))))))) qU) (qE (cw (bg (d2 fx vp (ic 12))) (qN (d2 qR (qB 10) (qB 9))) qU) (qE (cw (bg (d2 wb vp (ic 15))) (qN (d2 qR (d2 qR (d2 qR (ig "move ") (qG jK (vc (d2 bx (qB 8) (ic 0))))) (ig " ")) (d2 bx (zL (vd (qG jK (vc (d2 bx (qB 8) (ic 1)))) (ig "01"))) (qG iM (vc (d2 fx (qI 2 ao (vd vh (ic 9))) (ic 0))))))) qU) (qN (d2 bx (zL (qA (ig "turn") (vg (ig "mirror") (ig "back") (ig "back") (ig "back")))) (d2 jE vp (ic 15)))))))))))))
@[irreducible] def gb:DF:=sh (qM 12 ma)
def gZ:gb=qM 12 ma:=by delta gb;exact zE _
abbrev j_:DS:=qN (kF (qG zQ (vd vh (dC (.ty "int")))) (wg (qG zQ (vd vh (dC (.ty "bool"))))))
@[irreducible] def ff:DF:=sh (qM 1 j_)
def kZ:ff=qM 1 j_:=by delta ff;exact zE _
abbrev h_:DS:=qE (cw (wO (xK (bg (qG zQ (vd vh (dC (.ty "tuple")))))) (bg (d2 io (qG zZ (vc vh)) (ic 2)))) (qN (dC (.bl Yp))) qU) (qN (qG (bG Yp) (vc (zC Yp [Zw] (je vh) (bc 0) zX (z9 (kF (qI 1 (kh ff) (vc vh)) (wX sv sv (d1 yB (ic 1000)) vh (ic 1000))))))))
@[irreducible] def b_:DF:=sh (qM 1 h_)
def uS:b_=qM 1 h_:=by delta b_;exact zE _
abbrev jj:DS:=qE (qV (mh (bg (d2 fx (yP vh zM (zF (ic 1))) (ig "-"))) (yP vh (zF (ic 1)) zM) vh) (bc 1)) (qE (cw (wO (bg (d2 fx vi (ig ""))) (wO (bg (d2 yo (qG zZ (vc vi)) (ic 30))) (bg (d2 io (zC Yp [Zw] (wB (kH vi)) (bc 0) (yW (bg (d2 (nW Vp) vh (ig "0123456789"))) zX) (z9 vh)) (zL qC))))) (qN (dC .non)) qU) (qE (cw (yW (bg (d2 fx (d2 m9 vi (ic 0)) (ig "0"))) (bg (d2 io vh (ig "0")))) (qN (dC .non)) qU) (qN (qG bH (vc vh)))))
@[irreducible] def bh:DF:=sh (qM 2 jj)
def jZ:bh=qM 2 jj:=by delta bh;exact zE _
abbrev g_:DS:=qE (qV (qG xR (vc (zC Yp [Zw] (je (ki "str" y0 vh (vc (ig ",")))) (bc 0) zX (z9 (qI 1 (kh bh) (vc vh)))))) (bc 1)) (qN (mh (bg (qI 1 b_ (vc vi))) vi (dC .non)))
@[irreducible] def ba:DF:=sh (qM 2 g_)
def uT:ba=qM 2 g_:=by delta ba;exact zE _
abbrev jl:DS:=qE (cw (wO (xK (bg (qG zQ (vd vh (dC (.ty "tuple")))))) (wO (xK (bg (wX sv sv (ic 1) (qG zZ (vc vh)) (ic 40)))) (xK (bg (qG (bG Yp) (vc (zC Yp [Zw] (je vh) (bc 0) zX (z9 (qI 1 (kh b_) (vc vh)))))))))) (qN (dC (.bl Yp))) qU) (qN (d2 fx (qG a0 (vc vh)) (uX Yp vh)))
@[irreducible] def cy:DF:=sh (qM 1 jl)
def jY:cy=qM 1 jl:=by delta cy;exact zE _
abbrev lz:DS:=qE (qV (qG xR (vc (zC Yp [Zw] (je (ki "str" y0 vh (vc (ig " ")))) (bc 0) zX (z9 (qI 1 (kh ba) (vc vh)))))) (bc 1)) (qN (mh (bg (qI 1 cy (vc vi))) vi (dC .non)))
@[irreducible] def f_:DF:=sh (qM 2 lz)
def p9:f_=qM 2 lz:=by delta f_;exact zE _
abbrev br:DS:=qE (cw (bg (d2 fx vi (ig "put"))) (qE (cw (bg (d2 tz (d2 bx vj (ic 0)) vh)) (qN (ig "deed")) qU) (qN (mh (bg (d2 fx (qG zZ (vc vh)) (ic 40))) (zL (vf (ig "many") (ic 41) (ic 40))) (qG xR (vc (qG yH (vc (d2 qR vh (zW (vc (d2 bx vj (ic 0)))))))))))) qU) (qE (cw (bg (d2 fx vi (ig "take"))) (qE (cw (wO (bg (d2 pL (d2 bx vj (ic 0)) vh)) (bg (d2 fx (qG zZ (vc vh)) (ic 1)))) (qN (ig "deed")) qU) (qN (qG xR (vc (zC Yp [Zw,Aa 2] (je vh) (bc 0) (yW (bg (d2 io vh (d2 bx vi (ic 0)))) zX) (z9 vh)))))) qU) (qE (cw (bg (d2 fx vi (ig "move"))) (qE (qV (qG xR (vc (qG yH (vc (zC Yp [Zw,Zw,Aa 2] (je vh) (lg 2 (qZ (bc 0) (qZ (bc 1) xF))) zX (z9 (zW (vd (d2 qR vh (d2 bx vj (ic 0))) (d2 qR vi (d2 bx vj (ic 1))))))))))) (bc 3)) (qN (mh (bg (qI 1 cy (vc vo))) vo (ig "point")))) qU) (qN (qG xR (vc (qG yH (vc (zC Yp [Zw,Zw,Aa 1] (je vh) (lg 2 (qZ (bc 0) (qZ (bc 1) xF))) zX (z9 (mh (bg (d2 fx vj (ig "turn"))) (zW (vd (d2 jE (ic 0) vi) vh)) (zW (vd vi vh))))))))))))
@[irreducible] def bo:DF:=sh (qM 4 br)
def jH:bo=qM 4 br:=by delta bo;exact zE _
abbrev i_:DS:=qE (qV vh (lg 2 (qZ (bc 2) (qZ (bc 3) xF)))) (qE (cw (bg (d2 fx vi (ig "back"))) (qN (mh (bg (d2 fx vo (zW qC))) (zW (vd (zL (vd (ig "no") (ig "deed"))) vh)) (zW (vd (ig "ok") (zW (vd (d2 bx vo (d1 yB (ic 1))) (nv vo zM (zF (d1 yB (ic 1)))))))))) qU) (qE (cw (bg (d2 fx (yP vi zM (zF (ic 4))) (ig "lot "))) (qE (qV (qI 1 f_ (vc (yP vi (zF (ic 4)) zM))) (bc 4)) (qN (mh (bg (d2 xh vp (dC .non))) (zW (vd (zL (vd (ig "no") (ig "text"))) vh)) (zW (vd (ig "ok") (zW (vd vp (d2 qR vo (zW (vc vj)))))))))) qU) (qE (qV (ki "str" y0 vi (vc (ig " "))) (bc 5)) (qE (qV (mh (bg (d2 fx (d2 bx vm (ic 0)) (ig "move"))) (ig "number") (ig "point")) (bc 6)) (qE (qV (zC Yp [Zw,Aa 6] (je (nv vm (zF (ic 1)) zM)) (bc 0) zX (z9 (mh (bg (d2 fx vi (ig "number"))) (qI 1 (kh bh) (vc vh)) (qI 1 (kh ba) (vc vh))))) (bc 7)) (qE (cw (bg (d2 tz (dC .non) (qB 7))) (qN (zW (vd (zL (vd (ig "no") vn)) vh))) qU) (qE (qV (qI 3 bo (vf vj (d2 bx vm (ic 0)) (qB 7))) (bc 4)) (qE (cw (xK (bg (qG zQ (vd vp (dC (.ty "tuple")))))) (qN (zW (vd (zL (vd (ig "no") vp)) vh))) qU) (qN (zW (vd (ig "ok") (zW (vd vp (d2 qR vo (zW (vc vj))))))))))))))))
@[irreducible] def bt:DF:=sh (qM 8 i_)
def pC:bt=qM 8 i_:=by delta bt;exact zE _
abbrev eh (cj:DF):DS:=qE (cw (bg (d2 xh vi (dC .non))) (qN (d2 xh vh (dC .non))) qU) (qE (cw (wO (bg (qG zQ (vd vi (dC (.ty "tuple"))))) (bg (qG zQ (vd vi (dC (.ty "list")))))) (qE (cw (wO (bg (d2 io (qG zQ (vd vh (dC (.ty "tuple")))) (qG zQ (vd vi (dC (.ty "tuple")))))) (bg (d2 io (qG zQ (vd vh (dC (.ty "list")))) (qG zQ (vd vi (dC (.ty "list"))))))) (qN (dC (.bl Yp))) qU) (qE (cw (bg (d2 io (qG zZ (vc vh)) (qG zZ (vc vi)))) (qN (dC (.bl Yp))) qU) (qE (gS (sR (vd vh vi)) (lg 2 (qZ (bc 2) (qZ (bc 3) xF))) (cw (xK (bg (qI 2 cj (vd vj vo)))) (qN (dC (.bl Yp))) qU)) (qN (dC (.bl Vp)))))) qU) (qE (cw (bg (qG zQ (vd vi (dC (.ty "str"))))) (qN (kF (qG zQ (vd vh (dC (.ty "str")))) (d2 fx vh vi))) qU) (qN (kF (d2 fx (qG zQ (vd vh (dC (.ty "bool")))) (qG zQ (vd vi (dC (.ty "bool"))))) (kF (qG zQ (vd vh (dC (.ty "int")))) (d2 fx vh vi))))))
def dX:Aj->DF
 |0=>λ_ _=>.bad
 |n+1=>qM 4 (eh (dX n))
@[irreducible] def cj:DF:=sh (dX 4)
def pA:cj=dX 4:=by delta cj;exact zE _
abbrev ni:DS:=qN (tG (vd vh (qG iM (vc (d2 ze vh (d2 BB (ic 10) (ic 18)))))))
@[irreducible] def gh:DF:=sh (qM 1 ni)
def fH:gh=qM 1 ni:=by delta gh;exact zE _
abbrev uk (c:Cl):DS:=qE (gS (uW (d2 qR (zL (vc (qI 2 et (vd vh (ic 0))))) (nv vh (zF (ic 1)) (zF (ic 6))))) (bc 1) (qE (qV (qI 1 gh (vc vi)) (bc 2)) (qE (f7 3 4 (vd (bF c.Desk (ey c)) (zW (vd (zW (vc (zW (vd (ic 0) (ic 0))))) (zW qC))))) (qE (gS (kG (vc (d2 qR (ic 2) (qI 2 ao (vd vj (ic 7)))))) (bc 5) (qE (qV (qI 2 gb (vd vj vp)) (bc 6)) (qE (qV (qI 2 bt (vd vp vn)) (lg 2 (qZ (bc 7) (qZ (bc 4) xF)))) (qE (cw (xK (bg (qI 2 cj (vd (qI 2 (bj c) (vd vo vn)) (qB 7))))) (qN (dC (.bl Yp))) qU) (gS (kG (vc (ic 2))) (bc 8) (qE (qV (qI 2 di (vd vj (d2 bx vp (ic 0)))) (bc 9)) (cw (wO (bg (d2 io (qI 2 (bj c) (vd vo (qB 9))) (zL (vd (ig "no") (ig "line"))))) (bg (d2 io (xJ c.Desk "say" 2 (a_ c) vo (vc (ig "lot"))) (qI 1 bq (vc (d2 bx vp (ic 0))))))) (qN (dC (.bl Yp))) qU))))))) (qE (dU (bg (d2 io (d2 bx vp (ic 1)) (zW qC))) (qE (qV (qI 2 bt (vd vp (ig "back"))) (lg 2 (qZ (bc 7) (qZ (bc 4) xF)))) (cw (wO (bg (d2 io (qI 2 (bj c) (vd vo (ig "back"))) (ig "ok"))) (bg (d2 io (xJ c.Desk "say" 2 (a_ c) vo (vc (ig "lot"))) (qI 1 bq (vc (d2 bx vp (ic 0))))))) (qN (dC (.bl Yp))) qU))) (cw (bg (d2 io (qI 2 (bj c) (vd vo (ig "back"))) (zL (vd (ig "no") (ig "deed"))))) (qN (dC (.bl Yp))) qU)))))) (qN (dC (.bl Vp)))
end _K
namespace _K
open _D
variable {T:Ab (Ah × D)}{cl:J9}{ns:Y8}{ds:Ab D}{C:Af}{dc:Ah->Ar}{dn:Ah->D}{i:Aj}{lo hi:Al Aq}{r:D}{f fe:DE}{Q:D->ag->Prop}{ac:qF}
def XS (h:Pn d)(S:ag):fr [d] S=.ok (.bl (_j d)) S:=by rw[fK];obtain⟨p,h⟩:=h;cases d <;> first|kernel_rfl!|simp[xa] at h
def FN (h:Pn d)(a b:Aq)(S:ag):fy [d,.int a,.int b] S=.ok (.bl (inR a b d)) S:=by
 rw[pE];refine zA (zB (ac:=[Aa d,Aa (.int a),Aa (.int b)]) Z ?_);rfl';refine tM ?_;rfl';refine qD (XS h S) ⟨_,Z,λe=>?_,λe=>?_⟩
 .cases d with
  |int i=>exact tN rfl rfl rfl ⟨rfl,rfl⟩
  |_=>cases e
 .cases d <;> first|exact⟨rfl,rfl⟩|cases e
def jR (h:Pn d)(S:ag):ef [d] S=.ok (.bl (xG d)) S:=by
 rw[fJ];refine zA (zB (ac:=[Aa d]) Z ?_);rfl';refine xN ?_;rfl';refine qD (aD h S) ?_;rfl';refine⟨λe=>?_,λe=>?_⟩;rfl';exact⟨by rw[z_ (by simpa using e)],Z⟩
 .cases d with
  |tup U =>
   rfl';refine x3 (λe=>?_) λe=>?_
   .rfl';refine xC (cq:=id) (o:=Zw) U (λx=>.bl (xy x)) (λac Y=>Y=S/\∃ a,ac=[a]) ((vL Z).trans (by rw[Jc])) ⟨Z,Zw,Z⟩ (by unfold bb;lia) (λ_ _ _=>trivial) (λx G ac Y ⟨J,a,N⟩=>?_) λac Y ⟨J,_⟩=>?_
    .subst J N;rfl';exact qD (FN (dN h x G) _ _ _) ⟨Z,Z,_,Z⟩
    .subst J;rfl';exact dF ⟨by rw[UY li],Z⟩
   .rfl';exact⟨by rw[UZ li],Z⟩
  |_=>cases e
def FL (Y:Ab Pt)(B:Y.length<=1000)(S:ag):fz [qK Y] S=.ok (.bl (ph (Y.map kP))) S:=by
 rw[pD];refine zA (zB (ac:=[Aa (.tup (Y.map az))]) Z ?_);rfl';have G:wB (sR (qA (qB 0) (qA (nv (qB 0) (zF (dC (.int 1))) zM) qC))) [Aa (.tup (Y.map az))] S=.ok (Zw,(((Y.map kP).zip ((Y.map kP).drop 1)).map λp=>D.tup [ml p.1,ml p.2])) S:=by show ax.ok (Zw,yL (Y.map az) (wN (Y.map az) (Aa 1) Zw)) S=_;rw[ya,j3,<- Wr,qAo]
 refine xC _ (λp=>.bl (_H.lexLt p.1 p.2)) (λac J=>J=S/\∃ a b,ac=[a,b]) G ⟨Z,Zw,Zw,Z⟩ ?_ (λ_ _ _=>trivial) (λx O ac J ⟨U,a,b,N⟩=>?_) λac J ⟨U,_⟩=>?_;rw[Uf,Ao];unfold bb;lia;subst U N;rfl';exact qD (qBH _ _ _) ⟨Z,Z,_,_,Z⟩;subst U;rfl';exact dF ⟨Z,Z⟩
def oX (h:Pn d)(S:ag):gw [d] S=.ok (.bl (wA d)) S:=by
 rw[tW];refine zA (zB (ac:=[Aa d]) Z ?_);rfl';refine xN ?_;rfl';refine qD (aD h S) ?_;rfl';refine⟨λe=>?_,λe=>?_⟩;rfl';exact⟨by rw[ZW (by simpa using e)],Z⟩
 .cases d with
  |tup Y =>
   rfl';refine tN (b:=(Y.length:Aq)) Z Z Z ?_;rfl';refine x3 (λz=>?_) λz=>?_
   .have B:1<=Y.length/\Y.length<=40:=by lia
    rfl';refine tM ?_;rfl';refine xC (cq:=id) (o:=Zw) Y (λx=>.bl (xG x)) (λac O=>O=S/\∃ a,ac=[a]) ((vL Z).trans (by rw[Jc])) ⟨Z,Zw,Z⟩ (by unfold bb;lia) (λ_ _ _=>trivial) (λx L ac O ⟨N,a,E⟩=>?_) λac O ⟨N,_⟩=>?_;subst N E;rfl';exact qD (jR (dN h x L) _) ⟨Z,Z,_,Z⟩
    .subst N;rfl';refine dF ⟨_,Z,λG=>?_,λG=>?_⟩
     .obtain⟨J,rfl,_⟩:=kN G;rw[Ao] at B;rfl';refine qD (FL J li _) ⟨?_,rfl⟩;show _=D.bl (decide (1<=(J.map az).length/\(J.map az).length<=40)&&(J.map az).all xG&&(match wF (J.map az) with|some U=>ph U|none=>Yp));rw[G,Ao,Ci B,j3,vW];rfl
     .refine⟨?_,Z⟩;show _=D.bl (decide (1<=Y.length/\Y.length<=40)&&Y.all xG&&(match wF Y with|some U=>ph U|none=>Yp));rw[G,Hu,Gv]
   .rfl';refine⟨?_,rfl⟩;show _=D.bl (decide (1<=Y.length/\Y.length<=40)&&Y.all xG&&(match wF Y with|some U=>ph U|none=>Yp));rw[Bo li,Gv,Gv]
  |_=>cases e
def uQ (c:Cl){d:D}(S:ag)(h:Pn d)(k:wA d=Vp):dh c [d] S=.ok .non S:=by rw[fM];refine zA (zB (ac:=[Aa d]) Z ?_);rfl';refine qD (oX h S) ?_;rw[k];rfl';exact⟨Z,Z⟩
def x9 {S:ag}{m:Aq}(h:wU S p)(hm:0<m/\m<1073741824)(q:∀ (r:Aj) S1,Kp p S S1->(r:Aq)<m->Q (.int r) S1):Ok (ao [.loc p,.int m] S) Q:=by
 have J:∀ r v f:Aq,0<=r->r<m->Q (.int r) (S.set p (.lst [.int v,.int f])):=λr v f O L=>by obtain⟨r,rfl⟩:=Nm O;obtain⟨H,I,e⟩:=h;have Y:=(Bw.mp e).1;exact q r _ ⟨⟨v,f,by simp[Y]⟩,by simp,λi hi N=>Di (Dm N)⟩ L
 obtain⟨v,f,e⟩:=h;have Y:=(Bw.mp e).1;rw[p6];refine zB (ac:=[Aa (.loc p),Aa (.int m),Zw]) rfl ?_;rfl';refine uR e (d:=.int f) rfl ?_;rfl';refine x3 (λz=>?_) λz=>?_;rfl';refine uR e (d:=.int v) Z ?_;rfl';refine uR e (d:=.int v) Z ?_;rfl';refine K1 e Z ?_;rfl';exact J _ _ _ (Mp _ om) (Kl _ hm.1)
 .rfl';refine uR e (d:=.int v) Z ?_;have hv:=Mp v (show (2147483629:Aq)≠0 by fin2);have B:=Kl v (show (0:Aq)<2147483629 by fin2);rfl';have E:=Mp (v % 2147483629*48271+11) (show (2147483629:Aq)≠0 by fin2);have U:=Kl (v % 2147483629*48271+11) (show (0:Aq)<2147483629 by fin2);generalize (v % 2147483629*48271+11) % 2147483629=w at E U;refine K1 e Z ?_;have G:(S.set p (MO.lst [.int w,.int f]))[p]? = Aa (.lst [.int w,.int f]):=by simp[Y]
  rfl';refine uR G (d:=.int w) Z ?_;rfl';refine uR G (d:=.int w) Z ?_;rfl';refine uR G (d:=.int w) Z ?_;rfl';exact J _ _ _ (Mp _ om) (Kl _ hm.1)
def qBS {S:ag}(q:∀ p S1,wU S1 p->Q (.loc p) S1):Ok (gh [.int x] S) Q:=by rw[fH];refine zB (ac:=[Aa (.int x)]) Z ?_;rfl';refine qD (d:=.int 1000000000000000000) Z ?_;rfl';refine qD (d:=.int (W_ (decide (1000000000000000000<=x)))) Z ?_;rfl';exact q _ _ ⟨_,_,vR _ _⟩
def RQ (ns:Ab Aq)(N:ns.length<=63)(k:Aq){Q:Ab D->ag->Prop}{ac:qF}{S:ag}(h0:ac[0]? = Aa (Aa (.lst (ns.map D.int))))(q:∀ U:Ab Aq,Q (U.map D.int) S):Ok (uW (d2 qR (zL (qA (qI 2 et (qA (qB 0) (qA (dC (.int 0)) qC))) qC)) (nv (qB 0) (zF (dC (.int 1))) (zF (dC (.int k))))) ac S) Q:=by
 have J:∃ x:Aq,et [.lst (ns.map D.int),.int 0] S=.ok (.int x) S:=by
  rw[gY];cases ns with
  |nil=>exact⟨0,zA (zB (ac:=[Aa (.lst []),Aa (.int 0)]) rfl (by rfl';exact⟨rfl,rfl⟩))⟩
  |cons n ns =>
   refine⟨n,zA (zB (ac:=[Aa (.lst ((n::ns).map D.int)),Aa (.int 0)]) Z ?_)⟩;rfl';refine x3 (λ_=>?_) λe=>absurd (by rw[Ao,Aw];fin2) e;rfl';exact xA (WU (a:=0) aA) ⟨Z,Z⟩
 obtain⟨x,Y⟩:=J;refine SN (o_2 (qBP (pR (JV (pR (o_v h0 ?_))))));rfl';refine qD Y ?_;rfl';refine o_v h0 ?_;rfl';have G:wN (ns.map D.int) (Aa 1) (Aa k)=((ns.drop (_H.dj (ns.map D.int).length 0 (Aa 1))).take (_H.dj (ns.map D.int).length (ns.map D.int).length (Aa k)-_H.dj (ns.map D.int).length 0 (Aa 1))).map D.int:=by unfold wN;rw[Rx,Wr]
 rw[G];refine wL ?_ ⟨_,Z,q (x::_)⟩;rw[Ao,Fo,Gq];show 1+_<=bb;unfold bb;fin2
def qBJ (nd:cl.Nodup){i j:Aj}{a b:Af}(J:cl[i]? = Aa a)(U:cl[j]? = Aa b)(h:i≠j):(a == b)=false:=by rw[Ff];rintro rfl;obtain⟨O,G⟩:=Bw.mp J;obtain⟨N,Y⟩:=Bw.mp U;exact h ((Sl nd).mp (G.trans Y.symm))
def TK {B:Af}{S:ag}(J:C∈cl)(Y:B∈cl)(q:Q (.bl (C == B)) S):Ok (vH cl [.exn (.ref C),.obj B] S) Q:=by refine⟨_,_,?_,q⟩;show (if (cl.contains C&&cl.contains B)=Vp then ax.ok (D.bl (C == B)) S else .bad)=_;rw[Ev.mpr J,Ev.mpr Y];rfl
def TL {S:ag}(Y:C∈cl)(q:Q (.bl Vp) S):Ok (vH cl [.exn (.ref C),.ty "ValueError"] S) Q:=by refine⟨_,_,?_,q⟩;show (if (cl.contains C&&(("ValueError" : Ek) == "ValueError"))=Vp then ax.ok (D.bl Vp) S else .bad)=_;rw[Ev.mpr Y];rfl
def TC (nd:cl.Nodup){i j:Aj}{a b:Af}(Y:cl[i]? = Aa a)(J:cl[j]? = Aa b):decide (i=j)=(a == b):=by
 by_cases h:i=j;subst h;cases Y.symm.trans J;rw[Ci rfl,Em];rw[Bo h,qBJ nd Y J h]
def TJ {f:Ah}{S:ag}(e:ac[i]? = Aa (Aa (.exl (.ref C) ns ds)))(h:(ns.zip ds).lookup f=Aa x)(q:Q x S):Ok (bE [C] f (qB i) ac S) Q:=by refine o_1 (o_v e ?_);show Ok (if [C].contains C=Vp then (match (ns.zip ds).lookup f with|some x=>ax.ok x S|none=>.bad) else .bad) Q;rw[Au aA,h];exact⟨_,_,Z,q⟩
noncomputable def YH:Ab Ah:=["point","lot","number","circle","marks","fars","text","line","deed"]
def pP (c:Cl)(nd:(zN c).Nodup)(i:Aj)(hi:i<9){C:Af}(Y:(zN c)[i]? = Aa C)(S:ag):au c [.exn (.ref C)] S=.ok (.str (YH.getD i "")) S:=by
 have s:∀ {Q:D->ag->Prop} (j:Aj) {B:Af},(zN c)[j]? = Aa B->Q (.bl (decide (i=j))) S->Ok (xT (zN c) [.exn (.ref C),.obj B] S) Q:=λj B h q=>TK (Cd Y) (Cd h) (TC nd Y h▸q);have v:∀ {Q:D->ag->Prop},Q (.bl Vp) S->Ok (xT (zN c) [.exn (.ref C),.ty "ValueError"] S) Q:=λq=>TL (Cd Y) q;have L:∀ l,l=[0,1,2,3,4,5,6,7,8,9,10].map (λj:Aj=>D.bl (decide (i=j)))->m6 (.lst l) [.bl Vp] S=.ok (.int 1) S/\m8 (.lst l) [.bl Vp] S=.ok (.int (i:Aq)) S/\_L.jm (YH.map D.str) (i:Aq)=Aa (.str (YH.getD i "")):=λl e=>by
  subst e;obtain rfl|rfl|rfl|rfl|rfl|rfl|rfl|rfl|rfl:i=0\/i=1\/i=2\/i=3\/i=4\/i=5\/i=6\/i=7\/i=8:=by lia
  all_goals exact⟨by kernel_rfl!,by kernel_rfl!,Z⟩
 rw[vA];refine zA (zB (ac:=[Aa (.exn (.ref C)),Zw,Zw]) rfl ?_);rfl';refine s 0 rfl ?_;rfl';refine s 1 rfl ?_;rfl';refine s 2 rfl ?_;rfl';refine s 3 rfl ?_;rfl';refine s 4 rfl ?_;rfl';refine s 5 rfl ?_;rfl';refine s 6 rfl ?_;rfl';refine s 7 rfl ?_;rfl';refine wL (Bv rfl) ?_;rfl';refine s 8 rfl ?_;rfl';refine s 9 rfl ?_;rfl';refine s 10 rfl ?_;rfl';refine wL (Bv rfl) ?_;rfl';refine xN ?_;rfl';refine v ?_;rfl';refine⟨(λe=>by cases e),λ_=>?_⟩;rfl';refine qD (L _ Z).1 ?_;rfl';refine x3 (λ_=>?_) λe=>absurd Z e;rfl';refine s 9 rfl ?_;rfl';refine x3 (λe=>absurd e li) λ_=>?_;rfl';refine s 10 Z ?_;rfl';refine x3 (λe=>absurd e li) λ_=>?_;rfl';refine qD (L _ Z).2.1 ?_;exact xA (L _ Z).2.2 ⟨Z,Z⟩
def mH (c:Cl)(nd:(zN c).Nodup)(S:ag):au c [.exn (.ref c.NoPoint)] S=.ok (.str "point") S:=pP c nd 0 aC Z S
def cT (c:Cl)(nd:(zN c).Nodup)(S:ag):au c [.exn (.ref c.NoNumber)] S=.ok (.str "number") S:=pP c nd 2 aC Z S
def QX (c:Cl)(nd:(zN c).Nodup)(S:ag):au c [.exn (.ref c.NoText)] S=.ok (.str "text") S:=pP c nd 6 aC Z S
def gR (c:Cl)(nd:(zN c).Nodup)(S:ag):au c [.exn (.ref c.NoDeed)] S=.ok (.str "deed") S:=pP c nd 8 aC Z S
def QV (c:Cl)(nd:(zN c).Nodup)(S:ag):au c [.exn (.ref c.NoLine)] S=.ok (.str "line") S:=pP c nd 7 aC Z S
def iV (c:Cl)(nd:(zN c).Nodup)(Y J:D)(S:ag):au c [.exl (.ref c.TooMany) ["many","most"] [Y,J]] S=.ok (.lst [.str "many",Y,J]) S:=by have s:∀ {Q:D->ag->Prop} (j:Aj) {B:Af},(zN c)[j]? = Aa B->Q (.bl (decide (10=j))) S->Ok (xT (zN c) [.exl (.ref c.TooMany) ["many","most"] [Y,J],.obj B] S) Q:=λj B h q=>TK (Cd (i:=10) rfl) (Cd h) (TC nd (i:=10) rfl h▸q);have v:∀ {Q:D->ag->Prop},Q (.bl Vp) S->Ok (xT (zN c) [.exl (.ref c.TooMany) ["many","most"] [Y,J],.ty "ValueError"] S) Q:=λq=>TL (C:=c.TooMany) (Cd (i:=10) rfl) q;rw[vA];refine zA (zB (ac:=[Aa (.exl (.ref c.TooMany) ["many","most"] [Y,J]),Zw,Zw]) rfl ?_);rfl';refine s 0 rfl ?_;rfl';refine s 1 rfl ?_;rfl';refine s 2 rfl ?_;rfl';refine s 3 rfl ?_;rfl';refine s 4 rfl ?_;rfl';refine s 5 rfl ?_;rfl';refine s 6 rfl ?_;rfl';refine s 7 rfl ?_;rfl';refine wL (Bv rfl) ?_;rfl';refine s 8 rfl ?_;rfl';refine s 9 rfl ?_;rfl';refine s 10 rfl ?_;rfl';refine wL (Bv rfl) ?_;rfl';refine xN ?_;rfl';refine v ?_;rfl';refine⟨(λe=>by cases e),λ_=>?_⟩;rfl';refine qD (d:=.int 1) (S:=S) (by kernel_rfl!) ?_;rfl';refine x3 (λ_=>?_) λe=>absurd Z e;rfl';refine s 9 rfl ?_;rfl';refine x3 (λe=>absurd e aC) λ_=>?_;rfl';refine s 10 Z ?_;rfl';refine x3 (λ_=>?_) λe=>absurd Z e;rfl';refine TJ (ns:=["many","most"]) (ds:=[Y,J]) Z (x:=Y) (by kernel_rfl!) ?_;rfl';refine TJ (ns:=["many","most"]) (ds:=[Y,J]) Z (x:=J) (by kernel_rfl!) ?_;rfl';exact⟨Z,Z⟩
def uY (x:Ah)(S:ag):fx (.str x) (.str x) S=.ok (.bl Vp) S:=by unfold fx;rw[show (pl qY (.str x))=Vp from Z];show ax.ok (D.bl (x == x)) S=_;rw[Em]
def sq (b:Ar)(ws:Ab D):D:=match b with
 |true=>.tup ws
 |false=>.lst ws
def MM (ws:Ab D):yL ws ws=ws.map λx=>D.tup [x,x]:=by
 induction ws with
 |nil=>rfl
 |cons w ws Y=>exact congrArg (D.tup [w,w]::·) Y
def Q4 (F:DF)(b:Ar)(ws:Ab D)(S:ag)(hw:ws.length<=bb)(L:∀ x∈ws,F [x,x] S=.ok (.bl Vp) S):qM 4 (eh F) [sq b ws,sq b ws] S=.ok (.bl Vp) S:=by
 have U:zQ [sq b ws,.ty "list"] S=.ok (.bl (!b)) S:=by cases b <;> kernel_rfl!
 have J:zQ [sq b ws,.ty "tuple"] S=.ok (.bl b) S:=by cases b <;> kernel_rfl!
 have l:zZ [sq b ws] S=.ok (.int ws.length) S:=by cases b <;> rfl
 have n:∀ x:Ar,io (.bl x) (.bl x) S=.ok (.bl Yp) S:=λx=>by cases x <;> rfl
 have O:Ok (sR (qA (qB 0) (qA (qB 1) qC)) [Aa (sq b ws),Aa (sq b ws),Zw,Zw] S) λds Y=>ds=ws.map (λx=>D.tup [x,x])/\Y=S:=by rw[<- MM];cases b <;> exact⟨_,_,rfl,rfl,rfl⟩
 refine zA (zB (ac:=[Aa (sq b ws),Aa (sq b ws),Zw,Zw]) rfl ?_);rfl';refine qD (d:=.bl Yp) (S:=S) (by cases b <;> rfl) ?_;rfl';refine zU (Q:=λd Y=>d=Vp/\Y=S) (xN ?_) ?_;rfl';refine qD J ?_;rfl';refine⟨λe=>⟨Z,Z⟩,λe=>?_⟩;rfl';refine qD U ?_;rfl';rw[e];exact⟨Z,Z⟩
 rintro _ S ⟨rfl,rfl⟩;rfl';refine xN ?_;rfl';refine qD J ?_;rfl';refine qD J ?_;rfl';refine qD (n _) ?_;rfl';refine⟨(λe=>by cases e),λ_=>?_⟩;rfl';refine qD U ?_;rfl';refine qD U ?_;rfl';refine qD (n _) ?_;rfl';refine qD l ?_;rfl';refine qD l ?_;rfl';refine x3 (λ_=>?_) λe=>absurd rfl e;rfl';refine zU O ?_;rintro _ S ⟨rfl,rfl⟩;refine j9 (λG ac Y=>(∀ x∈G,x∈ws)/\Y=S/\∃ a c,ac=[Aa (sq b ws),Aa (sq b ws),a,c]) ?_ ?_ ⟨λ_ h=>h,rfl,_,_,rfl⟩;rintro x G _ S ⟨N,rfl,a,c,rfl⟩;rfl';refine qD (L x (N x (.head _))) ?_;rfl';exact sH ⟨λy B=>N y (.tail _ B),Z,_,_,Z⟩;rintro _ S ⟨_,rfl,a,c,rfl⟩;rfl';exact⟨Z,Z⟩
def XY (F:DF){d:D}(S:ag)(G:xh d .non S=.ok (.bl Yp) S)(N:zQ [d,.ty "tuple"] S=.ok (.bl Yp) S)(Y:zQ [d,.ty "list"] S=.ok (.bl Yp) S)(U:zQ [d,.ty "str"] S=.ok (.bl Yp) S){b:Ar}(J:zQ [d,.ty "bool"] S=.ok (.bl b) S)(B:zQ [d,.ty "int"] S=.ok (.bl Vp) S)(O:fx d d S=.ok (.bl Vp) S):qM 4 (eh F) [d,d] S=.ok (.bl Vp) S:=by refine zA (zB (ac:=[Aa d,Aa d,Zw,Zw]) rfl ?_);rfl';refine qD G ?_;rfl';refine xN ?_;rfl';refine qD N ?_;rfl';refine⟨(λe=>by cases e),λ_=>?_⟩;rfl';refine qD Y ?_;rfl';refine qD U ?_;rfl';refine tM ?_;rfl';refine qD J ?_;rfl';refine qD J ?_;rfl';refine qD (d:=.bl Vp) (S:=S) (by cases b <;> rfl) ⟨_,rfl,λ_=>?_,λe=>by cases e⟩;rfl';refine tM ?_;rfl';refine qD B ⟨_,rfl,λ_=>?_,λe=>by cases e⟩;rfl';exact qD O ⟨Z,Z⟩
def FW (F:DF)(x:Ah)(S:ag):qM 4 (eh F) [.str x,.str x] S=.ok (.bl Vp) S:=by refine zA (zB (ac:=[Aa (.str x),Aa (.str x),Zw,Zw]) Z ?_);rfl';refine qD (d:=.bl Yp) (S:=S) Z ?_;rfl';refine xN ?_;rfl';refine qD (d:=.bl Yp) (S:=S) (by kernel_rfl!) ?_;rfl';refine⟨(λe=>by cases e),λ_=>?_⟩;rfl';refine qD (d:=.bl Yp) (S:=S) (by kernel_rfl!) ?_;rfl';refine qD (d:=.bl Vp) (S:=S) (by kernel_rfl!) ?_;rfl';refine tM ?_;rfl';refine qD (d:=.bl Vp) (S:=S) (by kernel_rfl!) ⟨_,rfl,λ_=>?_,λe=>by cases e⟩;rfl';exact qD (uY x S) ⟨Z,Z⟩
def v_:Aj->D->Prop
 |n+1,.tup Y=>Y.length<=bb/\∀ x∈Y,v_ n x
 |n+1,.lst Y=>Y.length<=bb/\∀ x∈Y,v_ n x
 |_,.int _=>Jk
 |_,.bl _=>Jk
 |_,.str _=>Jk
 |_,_=>Fz
def dY (F:DF){d:D}(S:ag)(h:v_ 0 d):qM 4 (eh F) [d,d] S=.ok (.bl Vp) S:=by
 cases d with
 |int i=>exact XY _ S rfl (by kernel_rfl!) (by kernel_rfl!) (by kernel_rfl!) (b:=Yp) (by kernel_rfl!) (by kernel_rfl!) (zA (qCf ⟨by rw[Ci rfl],rfl⟩))
 |bl b=>exact XY _ S rfl (by kernel_rfl!) (by kernel_rfl!) (by kernel_rfl!) (b:=Vp) (by kernel_rfl!) (by kernel_rfl!) (by cases b <;> rfl)
 |str x=>exact FW _ x S
 |_=>exact Am h
def KL:∀ (n:Aj) (d:D) (S:ag),v_ n d->dX (n+1) [d,d] S=.ok (.bl Vp) S:=by
 intro n
 induction n with
 |zero=>exact λd S h=>dY _ S h
 |succ n U =>
  intro d S h;cases d with
  |tup Y=>exact Q4 _ Vp Y S h.1 λx J=>U x S (h.2 x J)
  |lst Y=>exact Q4 _ Yp Y S h.1 λx J=>U x S (h.2 x J)
  |int i=>exact dY _ S trivial
  |bl i=>exact dY _ S trivial
  |str i=>exact dY _ S trivial
  |_=>exact Am h
def qAM (S:ag)(h:v_ 3 d):cj [d,d] S=.ok (.bl Vp) S:=by rw[pA];exact KL 3 d S h
def JN (x:Ah)(S:ag):io (.str x) (.str x) S=.ok (.bl Yp) S:=by unfold io;rw[show (pl qY (.str x))=Vp from Z];show ax.ok (D.bl (!(x == x))) S=_;rw[Em];rfl
def qBC {n:Aj}{S:ag}(e:ac[i]? = Aa (Aa (.int (n:Aq))))(h:n<=1000000):wB (kG (qA (qB i) qC)) ac S=.ok (Zw,(Cp n).map λ(i:Aj)=>D.int (i:Aq)) S:=zA (zD (TQ (pR (o_v e (aJ ⟨_,TZ n h,_,_,Z,Z,Z⟩)))))
def YF {S:ag}(e:ac[i]? = Aa (Aa (.int k)))(h:0<=k/\k<=1000000):wB (kG (qA (qB i) qC)) ac S=.ok (Zw,(Cp k.toNat).map λ(i:Aj)=>D.int (i:Aq)) S:=qBC (by rw[Wq h.1];exact e) li
def Bx (w:Aq)(x:Pt):Prop:=-w<=x.1/\x.1<=w /\ -w<=x.2/\x.2<=w
def rP {w:Aq}(hw:1<=w/\w<=1000){S:ag}(h:wU S p)(q:∀ x S1,Kp p S S1->Bx w x->Q (az x) S1):Ok (cn [.loc p,.int w] S) Q:=by rw[kY];refine zB (ac:=[Aa (.loc p),Aa (.int w)]) Z ?_;rfl';refine x9 h li λr S1 Y N=>?_;rfl';refine x9 Y.pen li λt U J G=>?_;rfl';exact q ((r:Aq)-w,(t:Aq)-w) U (Y.trans J) ⟨by dsimp only;lia,by dsimp only;lia,by dsimp only;lia,by dsimp only;lia⟩
structure Z2 (n:Aj)(ps:Ab Pt):Prop where
 ne:ps≠[]
 len:ps.length<=n
 box:∀ x∈ps,gu 1000 x
theorem kN:∀ {ds:Ab D},(∀ d∈ds,∃ x,d=az x/\gu 1000 x)->∃ ps:Ab Pt,ds=ps.map az/\∀ x∈ps,gu 1000 x
 |[],_=>⟨[],rfl,λ_ h=>by cases h⟩
 |d::ds,h=>by
  obtain⟨x,rfl,J⟩:=h d (.head _);obtain⟨ps,rfl,U⟩:=kN λd Y=>h d (.tail _ Y);exact⟨x::ps,rfl,λy hy=>by
   rcases Av.mp hy with rfl|hy
   .exact J
   .exact U y hy⟩
def U5 (xs:Ab D)(n:Aj):wN xs Zw (Aa (n:Aq))=xs.take n:=by
 unfold wN;have Y:_H.dj xs.length 0 Zw=0:=Z;have J:_H.dj xs.length xs.length (Aa (n:Aq))=min n xs.length:=by show (if (n:Aq)<0 then ((n:Aq)+(xs.length:Aq)).toNat else min (n:Aq).toNat xs.length)=_;rw[AT li,Fk]
 rw[Y,J,Nat.sub_zero,List.drop_zero];rcases Nat.le_total n xs.length with h|h
 .rw[Nat.min_eq_left h]
 .rw[Nat.min_eq_right h,Fy h,Fy (Ay _)]
def rQ {S:ag}{ps:Ab Pt}(g:Pt->Pt)(e:ac[8]? = Aa (Aa (.lst (ps.map az))))(B:ps.length<=100)(step:∀ x:Pt,Ok (fe [Aa (.int x.1),Aa (.int x.2)] S) λd U=>d=az (g x)/\U=S)(q:Q (.lst ((ps.map g).map az)) S):Ok (zC Yp [Zw,Zw] (je (qB 8)) (lg 2 (qZ (bc 0) (qZ (bc 1) xF))) zX (z9 fe) ac S) Q:=by
 refine xC (cq:=az) (o:=Zw) ps (λx=>az (g x)) (λac Y=>Y=S/\∃ a b,ac=[a,b]) (YE e) ⟨Z,Zw,Zw,Z⟩ (by unfold bb;lia) (λ_ _ _=>trivial) (λx O ac Y ⟨J,a,b,G⟩=>?_) λac Y ⟨J,_⟩=>?_;subst J G;obtain⟨d,U,N,rfl,rfl⟩:=step x;exact⟨_,_,rfl,_,_,rfl,rfl,_,_,N,rfl,rfl,_,_,rfl⟩;subst J;rw[Dl] at q;exact q
def qBO {S:ag}(h:wU S p)(q:∀ (l:Ab Pt) J,Kp p S J->fw 12 l->Q (qK l) J):Ok (gj [.loc p,.int 12] S) Q:=by
 rw[fG];refine zB (ac:=[Aa (.loc p),Aa (.int 12),Zw,Zw,Zw,Zw,Zw,Zw,Zw]) rfl ?_;rfl';refine x9 h li λk S1 k1 h1=>?_;rfl';refine x9 k1.pen li λm S2 t h2=>?_;obtain⟨Y,em,hm⟩:∃ Y:Aq,1+(m:Aq)=Y/\1<=Y/\Y<=12:=⟨_,rfl,by lia,by lia⟩
 rfl';rw[em];refine x9 t.pen li λr S3 n h3=>?_;refine jP (show r<5 by lia) λd s=>?_;obtain⟨wide,rfl,hw⟩:∃ w:Aq,d=.int w/\1<=w/\w<=1000:=by simp only[Av,Cz,Fu] at s;rcases s with rfl|rfl|rfl|rfl|rfl <;> exact⟨_,rfl,by lia⟩
 rfl';refine rP (w:=400) li n.pen λa S4 b ha=>?_;rfl';refine x9 b.pen li λst S5 k5 h5=>?_;rfl';have e:1<=1+(st:Aq)/\1+(st:Aq)<=9:=by lia
 generalize 1+(st:Aq)=st at e;have pp:Kp p S S5:=(((k1.trans t).trans n).trans b).trans k5;clear k1 t n b k5 h1 h2 h3 h5 s em;refine SL (cq:=λ(i:Aj)=>D.int (i:Aq)) (o:=Zw) (Cp Y.toNat) (λd=>∃ x,d=az x/\gu 1000 x) (λac J=>Kp p S J/\∃ z,ac=[z,Aa (.loc p),Aa (.int wide)]) (YF Z li) ⟨pp,Zw,Z⟩ (by rw[Fl];unfold bb;lia) (λ_ _ _=>trivial) (λx U ac J ⟨I,z,g⟩=>?_) λds ac S6 v hR ⟨pp,_⟩=>?_;subst g;rfl';refine rP (w:=wide) li I.pen λy S7 k7 c=>?_;unfold Bx at c;exact⟨⟨y,Z,by unfold gu;lia⟩,I.trans k7,_,Z⟩
 obtain⟨O,rfl,hb⟩:=kN hR;rw[Ao,Fl] at v;have B:Z2 80 O:=⟨λz=>(by rw[z] at v;simp only[Cy] at v;lia),by lia,hb⟩
 clear hR v hb;unfold Bx at ha;have zl:Y.toNat<=12:=by lia
 array_get_dec;array_get_dec;refine VM (λac J=>J=S6/\∃ M A,ac=[Aa (.loc p),Aa (.int 12),Aa (.int k),Aa (.int Y),Aa (.int wide),Aa (az a),Aa (.int st),Aa (.lst (M.map az)),A]/\Z2 80 M) (λP' j=>?_) ?_
 .rfl';refine x3 (λz=>?_) λz=>?_
  .rfl';refine xC (cq:=λ(i:Aj)=>D.int (i:Aq)) (o:=Zw) (Cp Y.toNat) (λ(i:Aj)=>az (a.1+(i:Aq) % 4,a.2+(i:Aq)/4)) (λac J=>J=S6/\∃ z,ac=[z,Aa (az a)]) (YF Z li) ⟨Z,Zw,Z⟩ (by rw[Fl];unfold bb;lia) (λ_ _ _=>trivial) (λx U ac J ⟨I,z,g⟩=>?_) λac J ⟨I,_⟩=>?_
   .subst I g;rfl';exact⟨_,Z⟩
   .subst I;rfl';refine j _ _ ⟨Z,(Cp Y.toNat).map λ(i:Aj)=>(a.1+(i:Aq) % 4,a.2+(i:Aq)/4),_,by rw[Dl];rfl,⟨λz=>?_,by rw[Ao,Fl];lia,λx U=>?_⟩⟩
    .have:=congrArg Gm z;rw[Ao,Fl] at this;simp only[Cy] at this;lia
    .obtain⟨i,hi,rfl⟩:=Cf.mp U;have hi:=Fe.mp hi;unfold gu;dsimp only;lia
  .rfl';exact j _ _ ⟨Z,O,_,Z,B⟩
 clear B;rintro _ J ⟨rfl,O,A,rfl,B⟩;refine VM (λac N=>N=J/\∃ M A,ac=[Aa (.loc p),Aa (.int 12),Aa (.int k),Aa (.int Y),Aa (.int wide),Aa (az a),Aa (.int st),Aa (.lst (M.map az)),A]/\Z2 80 M) (λP' j=>?_) ?_
 .rfl';refine x3 (λz=>?_) λz=>?_
  .rfl';refine xC (cq:=λ(i:Aj)=>D.int (i:Aq)) (o:=Zw) (Cp Y.toNat) (λ(i:Aj)=>az (a.1+st*(i:Aq),a.2-(i:Aq))) (λac N=>N=J/\∃ z,ac=[z,Aa (az a),Aa (.int st)]) (YF Z li) ⟨Z,Zw,Z⟩ (by rw[Fl];unfold bb;lia) (λ_ _ _=>trivial) (λx U ac N ⟨I,z,g⟩=>?_) λac N ⟨I,_⟩=>?_
   .subst I g;rfl';exact⟨_,Z⟩
   .subst I;rfl';refine j _ _ ⟨Z,(Cp Y.toNat).map λ(i:Aj)=>(a.1+st*(i:Aq),a.2-(i:Aq)),_,by rw[Dl];rfl,⟨λz=>?_,by rw[Ao,Fl];lia,λx U=>?_⟩⟩
    .have:=congrArg Gm z;rw[Ao,Fl] at this;simp only[Cy] at this;lia
    .obtain⟨i,hi,rfl⟩:=Cf.mp U;have hi:=Fe.mp hi;have h1:=Int.mul_le_mul (show st<=9 by lia) (show (i:Aq)<=12 by lia) li li;have h2:=Int.mul_nonneg (show 0<=st by lia) (show 0<=(i:Aq) by lia);unfold gu;dsimp only;lia
  .rfl';exact j _ _ ⟨Z,O,_,Z,B⟩
 clear B;rintro _ J ⟨rfl,O,A,rfl,B⟩;refine VM (λac N=>N=J/\∃ M A,ac=[Aa (.loc p),Aa (.int 12),Aa (.int k),Aa (.int Y),Aa (.int wide),Aa (az a),Aa (.int st),Aa (.lst (M.map az)),A]/\Z2 80 M) (λP' j=>?_) ?_
 .rfl';refine x3 (λz=>?_) λz=>?_
  .rfl';obtain⟨G,hk,zc⟩:∃ G:Aj,1+Y/4=((G:Aj):Aq)/\1<=G/\G<=4:=⟨(1+Y/4).toNat,by lia,by lia,by lia⟩
   rw[hk,U5,<- Rx];have H:(O.take G).length<=4:=by rw[Fo];lia
   have L:∀ x∈O.take G,gu 1000 x:=λx U=>B.box x (Lv U);have E:O.take G≠[]:=λz=>by have:=congrArg Gm z;rw[Fo] at this;have:=Gg.mpr B.ne;simp only[Cy] at *;lia
   generalize O.take G=u at H L E;rfl';refine rQ (λx=>(0-x.2,x.1)) Z li (λx=>by rfl';exact Z) ?_;refine wL (by rw[Ao,Ao,Ao];unfold bb;lia) ?_;rw[<- Ds];rfl';refine rQ (λx=>(0-x.1,0-x.2)) Z li (λx=>by rfl';exact Z) ?_;refine wL (by simp only[Ao,Az];unfold bb;lia) ?_;rw[<- Ds];rfl';refine rQ (λx=>(x.2,0-x.1)) Z li (λx=>by rfl';exact Z) ?_;refine wL (by simp only[Ao,Az];unfold bb;lia) ?_;rw[<- Ds];rfl';refine j _ _ ⟨Z,_,_,Z,⟨λz=>?_,by simp only[Ao,Az];lia,λx U=>?_⟩⟩;have:=congrArg Gm z;have:=Gg.mpr E;simp only[Ao,Az,Cy] at *;lia
   .simp only[Ch,Cf] at U;rcases U with ((U|⟨y,c,rfl⟩)|⟨y,c,rfl⟩)|⟨y,c,rfl⟩
    .exact L x U
    all_goals
     have:=L y c;unfold gu at *;dsimp only;lia
  .rfl';exact j _ _ ⟨Z,O,_,Z,B⟩
 clear B;rintro _ J ⟨rfl,O,A,rfl,B⟩;obtain⟨G,rfl,zc⟩:∃ G:Aj,Y=((G:Aj):Aq)/\1<=G/\G<=12:=⟨Y.toNat,by lia,by lia,by lia⟩
 rfl';refine O1 ?_;rfl';rw[U5,<- Rx];have H:(O.take G).length<=12:=by rw[Fo];lia
 have L:∀ x∈O.take G,gu 1000 x:=λx U=>B.box x (Lv U);have E:O.take G≠[]:=λz=>by have:=congrArg Gm z;rw[Fo] at this;have:=Gg.mpr B.ne;simp only[Cy] at *;lia
 generalize O.take G=u at H L E;refine⟨u,Z,by lia,?_⟩;rfl';refine q (kT u) J pp ⟨λz=>?_,Ca (M2 u) H,W8 u,λx U=>L x ((QC u x).mp U)⟩;obtain⟨x,r,rfl⟩:=Qw E;have:=(QC (x::r) x).mpr (.head _);rw[z] at this;cases this
def FK (h:Pn d)(S:ag):ff [d] S=.ok (.bl (_j d)) S:=by rw[kZ];obtain⟨p,h⟩:=h;cases d <;> first|kernel_rfl!|simp[xa] at h
def nD (h:Pn d)(S:ag):b_ [d] S=.ok (.bl (xG d)) S:=by
 rw[uS];refine zA (zB (ac:=[Aa d]) Z ?_);rfl';refine xN ?_;rfl';refine qD (aD h S) ?_;rfl';refine⟨λe=>?_,λe=>?_⟩;rfl';exact⟨by rw[z_ (by simpa using e)],Z⟩
 .cases d with
  |tup U =>
   rfl';refine x3 (λe=>?_) λe=>?_
   .rfl';refine xC (cq:=id) (o:=Zw) U (λx=>.bl (xy x)) (λac Y=>Y=S/\∃ a,ac=[a]) ((vL Z).trans (by rw[Jc])) ⟨Z,Zw,Z⟩ (by unfold bb;lia) (λ_ _ _=>trivial) (λx G ac Y ⟨J,a,N⟩=>?_) λac Y ⟨J,_⟩=>?_
    .subst J N;rfl';refine tM ?_;rfl';refine qD (FK (dN h x G) _) ⟨_,Z,λe=>?_,λe=>?_⟩
     .cases x with
      |int i=>exact tN rfl rfl rfl ⟨rfl,rfl,_,rfl⟩
      |_=>cases e
     .cases x <;> first|exact⟨rfl,rfl,_,rfl⟩|cases e
    .subst J;rfl';exact dF ⟨by rw[UY li],Z⟩
   .rfl';exact⟨by rw[UZ li],Z⟩
  |_=>cases e
def qAk (Y:Ab Pt):ph (Y.map kP)=decide (Y=kT Y):=by
 rw[Kv,Bb,sF];constructor;intro h;have e:=_S.b7 _S.jF h (_S.b0 _S.jF (Y.map kP)) λx=>(_S.vV _S.jF x _).symm;unfold kT;rw[<- e,Dl];exact(Jc Y).symm;intro h;have u:=W8 Y;rw[<- h] at u;exact Ee.mpr u
def cA (h:Pn d)(S:ag):cy [d] S=.ok (.bl (wA d)) S:=by
 rw[jY];refine zA (zB (ac:=[Aa d]) Z ?_);rfl';refine xN ?_;rfl';refine qD (aD h S) ?_;rfl';refine⟨λe=>?_,λe=>?_⟩;rfl';exact⟨by rw[ZW (by simpa using e)],Z⟩
 .cases d with
  |tup Y =>
   have N:wA (.tup Y)=(decide (1<=Y.length/\Y.length<=40)&&Y.all xG&&(match wF Y with|some I=>ph I|none=>Yp)):=rfl;refine xN ?_;rfl';refine tN (b:=(Y.length:Aq)) Z Z Z ?_;rfl';refine⟨λz=>?_,λz=>?_⟩
   .have z:¬(1<=Y.length/\Y.length<=40):=by simp at z;lia
    rfl';exact⟨by rw[N,Bo z];rfl,Z⟩
   .have O:1<=Y.length/\Y.length<=40:=by simp at z;lia
    rfl';refine xC (cq:=id) (o:=Zw) Y (λx=>.bl (xG x)) (λac G=>G=S/\∃ a,ac=[a]) ((vL Z).trans (by rw[Jc])) ⟨Z,Zw,Z⟩ (by unfold bb;lia) (λ_ _ _=>trivial) (λx B ac G ⟨U,a,E⟩=>?_) λac G ⟨U,_⟩=>?_;subst U E;rfl';exact qD (nD (dN h x B) _) ⟨Z,Z,_,Z⟩
    .subst U;rfl';refine dF ?_;cases J:Y.all xG with
     |true =>
      obtain⟨L,rfl,_⟩:=_D.kN J;rw[Ao] at O;rfl';refine O1 (o_v rfl ⟨L,rfl,by lia,?_⟩);refine qBM ⟨?_,Z⟩;rw[N,J,Ao,Ci O,j3,vW,<- qAk];rfl
     |false =>
      rfl';exact⟨by rw[N,J,Hu,Gv],Z⟩
  |_=>cases e
def HJ:∀ x:Aj,x<58->(Char.ofNat x).toNat=x:=by decide
open PySem.NumText in
def _W (l:Ab Aj)(h:AllDigits l)(G:l≠[]):(Je 10 (digitsVal l)).map Jf=l↔(l.head? = Aa 48->l=[48]):=by
 rw[toDigits_all l h];cases l with
 |nil=>exact absurd rfl G
 |cons c r =>
  by_cases e:c=48
  .subst e;rw[Ws,Au (show ((48:Aj) == 48)=Vp from Z)];have Y:=(List.dropWhile_sublist (l:=r) (· == 48)).length_le;cases q:r.dropWhile (· == 48) with
   |nil =>
    simp only[Aa0,true_implies];show [48]=_↔_;exact⟨λz=>z.symm,λz=>z.symm⟩
   |cons d s =>
    rw[q] at Y;simp only[Aa0,true_implies];refine⟨λz=>?_,λz=>?_⟩;have:=congrArg Gm z;simp only[Ao,Aw] at this Y;lia;cases z;cases q
  .rw[Ws,AT (by rw[Jv];exact e)];have U:((c::r).map Char.ofNat).map Jf=c::r:=by
    rw[Dl];refine(Ke λx J=>?_).trans (Jc _);have:=h x J;exact HJ x li
   exact⟨λ_ z=>absurd (Cw z) e,λ_=>U⟩
def v8 {a b:Ah}(h:a.cps.toList=b.cps.toList):a=b:=Str.ext' (Zs.mp h)
theorem dW (m:Aj):(Fb (toString ((m:Aj):Aq))).cps.toList=(Je 10 m).map Jf:=PySem.W.KIN.signs_num m
def aL (m:Aj):(Fb (toString (-((m+1:Aj):Aq)))).cps.toList=45::(Je 10 (m+1)).map Jf:=by rw[PyProof.Rows.signs_ofString];show ("-" ++ Nat.repr (m+1)).toList.map Jf=_;rw[String.toList_append,Ds,Nat.toList_repr];rfl
def wY:Ab Aj->Ab Aj
 |45::r=>r
 |l=>l
def Dg (c:Aj):Ar:=decide (48<=c)&&decide (c<=57)
def Gd (x:Ah):Prop:=wY x.cps.toList≠[]/\(wY x.cps.toList).length<=30/\(wY x.cps.toList).all Dg=Vp
instance (x:Ah):Jj (Gd x):=inferInstanceAs (Jj (_/\_/\_))
def Sh (x:Ah):Prop:=(wY x.cps.toList).head? = Aa 48->x.cps.toList=[48]
instance (x:Ah):Jj (Sh x):=inferInstanceAs (Jj (_->_))
noncomputable def mf (x:Ah):D:=if Gd x/\Sh x then (match intText? x with|some n=>.int n|none=>.non) else .non
set_option tactic.hygienic true in
def u9 (l:Ab Aj):(∃ r,l=45::r/\wY l=r)\/((∀ r,l≠45::r)/\wY l=l):=by
 cases l with
 |nil=>exact .inr ⟨(λr=>by simp),rfl⟩
 |cons c r =>
  by_cases e:c=45;subst e;exact .inl ⟨r,rfl,rfl⟩
  .refine .inr ⟨λY z=>e (Gh z).1,?_⟩;unfold wY;split
   .rename_i h;exact absurd (Gh h).1 e
   .rfl
open PySem.NumText in
theorem GA:∀ (l:Ab Aj) (a:Aj),AllDigits l->l.foldl (λaq c=>aq*10+(c-48)) a<(a+1)*10 ^ l.length
 |[],a,_=>by simp
 |c::l,a,h=>by have Y:=GA l (a*10+(c-48)) h.tail;have J:=h.head;rw[Tw,Aw];refine Bq Y ?_;rw[Nat.pow_succ,Nat.mul_comm (10 ^ l.length) 10,<- Nat.mul_assoc];exact Vm _ li
open PySem.NumText in
def JE {l:Ab Aj}(h:AllDigits l)(U:l.length<=30):(digitsVal l).log2<1920:=by
 have Y:=GA l 0 h;have J:10 ^ l.length<=10 ^ 30:=Nat.pow_le_pow_right aC U;by_cases e:digitsVal l=0;rw[e];decide;refine(Nat.log2_lt e).mpr (Bq Y ?_);rw[Tg,Nat.one_mul];exact Ca J (Bv kd)
open PySem.NumText in
def CS {l:Ab Aj}(h:l.all Dg=Vp):AllDigits l:=λc Y=>by have:=Bg.mp h c Y;unfold Dg at this;simpa using this
open PySem.NumText in
def XU (g:Gd x)(L:x.length<=640):∃ n:Aq,intText? x=Aa n/\n.natAbs.log2<1920/\(Fb (toString n)=x↔Sh x):=by
 obtain⟨U,G,O⟩:=g;have Y:=CS O;unfold Sh;rcases u9 x.cps.toList with⟨r,J,N⟩|⟨J,N⟩
 .rw[N] at U G Y ⊢;refine⟨_,intText_neg J Y U li,by rw[Int.natAbs_neg];exact JE Y G,?_⟩;have k:=_W r Y U;rw[J];have B:(r.head? = Aa 48->45::r=[48])↔r.head?≠Aa 48:=⟨λh z=>(by cases (h z)),λh z=>absurd z h⟩
  rw[B];cases q:digitsVal r with
  |zero =>
   rw[q] at k;refine⟨λh=>?_,λh=>?_⟩;have:=congrArg (λy:Ah=>y.cps.toList) h;rw[J] at this;have:=(dW 0).symm.trans this;cases this;have:=k.mpr λz=>absurd z h;have:[48]=r:=this;subst this;exact absurd rfl h
  |succ m =>
   rw[q] at k;refine⟨λh z=>?_,λh=>?_⟩;have:=congrArg (λy:Ah=>y.cps.toList) h;rw[J] at this;have:=(Gh ((aL m).symm.trans this)).2;have:=k.mp this z;subst this;cases q;refine v8 ?_;rw[J];exact(aL m).trans (congrArg _ (k.mpr λz=>absurd z h))
 .rw[N] at U G Y ⊢;refine⟨_,intText_digits Y U li,JE Y G,?_⟩;rw[<- _W _ Y U,<- dW];exact⟨λh=>congrArg (λy:Ah=>y.cps.toList) h,v8⟩
theorem dP {J:Type}:∀ l:Ab J,(Cp l.length).filterMap (λi=>l[i]?)=l
 |[]=>rfl
 |a::l=>by rw[Aw,Ks,Hb,Qk];show a::(Cp l.length).filterMap (λi=>(a::l)[i+1]?)=_;simp only[Nj];rw[dP l]
def BI (n:Aj):Io (Aa 1) Zw 1 n=(Cp (n-1)).map (· + 1):=by
 unfold Io sliceRange;cases n with
 |zero=>rfl
 |succ n =>
  have e:max 0 (min (1:Aq) ((n+1:Aj):Aq))=1:=by lia
  simp only[show ¬ (1:Aq)<0 by decide,show (1:Aq)>0 by decide,Dr,Dq,e,Xf];have Y:(if (1:Aq)<((n+1:Aj):Aq) then ((n+1:Aj):Aq)-1+1-1 else 0).toNat=n:=by split <;> lia
  rw[Y];refine Ke λk J=>?_;lia
def AX (n:Aj):Io Zw (Aa 1) 1 n=Cp (min 1 n):=by
 unfold Io sliceRange;cases n with
 |zero=>rfl
 |succ n =>
  have e:max 0 (min (1:Aq) ((n+1:Aj):Aq))=1:=by lia
  have Y:min 1 (n+1)=1:=by lia
  simp only[show ¬ (1:Aq)<0 by decide,show (1:Aq)>0 by decide,Dr,Dq,e,Xf,Y];rfl
set_option tactic.hygienic true in
def E2 (x:Ah):(Txt.slice x (Aa 1) Zw).cps.toList=x.cps.toList.drop 1:=by
 unfold Txt.slice;rw[BI];split
 .rename_i h;have:x.length=0:=by
   simp at h;lia
  have Y:x.cps.toList=[]:=Kg.mp (by simpa [Jy] using this);rw[Y];rfl
 .show (((Cp (x.length-1)).map (· + 1)).filterMap (x.cps[·]?)).toArray.toList=_;rw[Wt,Qk];have k:=dP (x.cps.toList.drop 1);rw[Gq] at k;refine Eq.trans ?_ k;have J:x.cps.toList.length=x.length:=by simp[Jy]
  rw[J];refine congrArg (λf=>Aa7 f _) (funext λi=>?_);show x.cps[i+1]? = _;rw[WP,By,Pl]
set_option tactic.hygienic true in
def qBv (x:Ah):(Txt.slice x Zw (Aa 1)).cps.toList=x.cps.toList.take 1:=by
 unfold Txt.slice;rw[AX];have Y:x.cps.toList.length=x.length:=by simp[Jy]
 split
 .rename_i h;have:x.length<=1:=by
   simp at h;lia
  rw[Fy li]
 .rename_i h;simp at h;have J:1<=x.length:=by lia
  have e:min 1 x.length=1:=by lia
  rw[e];show (([0]:Ab Aj).filterMap (x.cps[·]?)).toArray.toList=_;rw[Wt];cases q:x.cps.toList with
  |nil=>rw[q] at Y;simp at Y;lia
  |cons c r =>
   have:x.cps[0]? = Aa c:=by rw[<- By,q];rfl
   simp[Aa7,this]
def fg (x:Ah):Prop:=∀ c∈x.cps.toList,c<128
def L4:((Cp 128).all λc=>Ry c == Dg c)=true:=kd
def L3 (h:fg x):Txt.isdecimal x=(decide (x.cps.toList≠[])&&x.cps.toList.all Dg):=by
 unfold Txt.isdecimal;have J:decide (x.length>0)=decide (x.cps.toList≠[]):=by
  have N:x.cps.toList.length=x.length:=by simp[Jy]
  refine Zv.mpr ?_;rw[<- N,gt_iff_lt,Gg]
 have G:x.cps.all Ry=x.cps.toList.all Dg:=by
  rw[<- Sr];have:∀ l:Ab Aj,(∀ c∈l,c<128)->l.all Ry=l.all Dg:=λl=>by
   induction l with
   |nil=>intro _;rfl
   |cons c l U =>
    intro h;rw[Ik,Ik,U λy Y=>h y (Bn _ Y)];have:=Bg.mp L4 c (Fe.mpr (h c (Cr ..)));rw[eq_of_beq this]
  exact this _ h
 rw[J,G]
def YQ:(Fb "-").cps.toList=[45]:=by decide
def F4:("-" : Ah)=⟨#[45]⟩:=by decide
def FT (x:Ah):(Txt.removeprefix x "-").cps.toList=wY x.cps.toList:=by
 rw[Tn,F4];have G:x.cps.toList.length=x.length:=by simp[Jy]
 have k:=Yq x 45 0;have U:(⟨#[45]⟩:Ah).length=1:=rfl;rw[U] at k ⊢;rcases u9 x.cps.toList with⟨r,Y,J⟩|⟨Y,J⟩
 .have:=k.mpr (by rw[Y];rfl);rw[Au (by rw[Ax,Bb];exact this),J,Y];rw[Y,Aw] at G;show Yr _ r=r;rw[Fy li]
 .rw[AT,J];intro z;rw[Ax,Bb] at z;have:=k.mp z;cases q:x.cps.toList with
  |nil=>rw[q] at this;cases this
  |cons c r =>
   rw[q] at this;cases this;exact Y r q
def B9:("0123456789" : Ah).cps.toList=[48,49,50,51,52,53,54,55,56,57]:=by decide
def D5 (c:Aj):xz ⟨#[c]⟩ "0123456789" = Dg c:=by
 have k:xz ⟨#[c]⟩ "0123456789" = Vp↔Dg c=true:=by
  unfold xz;rw[StrLaws.found_iff];have:(∃ i,i+(⟨#[c]⟩:Ah).length<=("0123456789" : Ah).length/\Nw "0123456789" ⟨#[c]⟩ i=Vp)↔c∈("0123456789" : Ah).cps.toList:=by rw[Uq];exact exists_congr λi=>Yq _ c i
  rw[this,B9];unfold Dg;simp only[Av,Cz,Fu,Ax,Bb];fin2
 cases h:xz ⟨#[c]⟩ "0123456789" <;> cases Y:Dg c <;> rw[h,Y] at k <;> simp at k <;> rfl
def TN {x y:Ah}{S:ag}(Y:x.length<=640)(h:Q (.str (Txt.removeprefix x y)) S):Ok (nX (.str x) [.str y] S) Q:=⟨_,_,Au (by unfold bb;lia),h⟩
def pS {x:Ah}{S:ag}(Y:x.length<=1000000)(h:Q (.int x.length) S):Ok (zZ [.str x] S) Q:=by refine⟨_,_,?_,h⟩;have e:rE (.str x) S=Aa x.length:=Au (by unfold bb;lia);show (match rE (.str x) S with|some n=>ax.ok (D.int n) S|none=>.bad)=_;rw[e]
def aI {S:ag}{T:Ek}{m:D->Ab D->ag->ax D}(h:Ok (f ac S) λa S1=>pi a S1=Aa T/\Ok (m a [] S1) Q):Ok (nR T m f ac S) Q:=zD (zU h λ_ _ k=>by rw[k.1,Au aA];exact k.2)
def qBL {S:ag}(h:Q (.bl (Txt.isdecimal x)) S):Ok (iR (.str x) [] S) Q:=⟨_,_,Z,h⟩
def oK {S:ag}(e:intText? x=Aa n)(Y:x.length<=640)(h:Q (.int n) S):Ok (bH [.str x] S) Q:=by refine⟨_,_,?_,h⟩;show (if x.length<=640 then (match intText? x with|some n=>ax.ok (D.int n) S|none=>.bad) else .bad)=_;rw[Au Y,e]
def mM {n:Aq}{S:ag}(Y:n.natAbs.log2<1920)(h:Q (.str (toString n)) S):Ok (jK [.int n] S) Q:=⟨_,_,Au Y,h⟩
def HD (x y:Ah):(x == y)=decide (x=y):=by by_cases e:x=y <;> simp[e]
def jO {x y:Ah}{S:ag}(h:Q (.bl (decide (x=y))) S):Ok (fx (.str x) (.str y) S) Q:=by refine⟨_,_,?_,h⟩;rw[<- HD];exact Au (show (Vp&&Vp)=Vp from Z)
def YX {x y:Ah}{S:ag}(h:Q (.bl (!decide (x=y))) S):Ok (io (.str x) (.str y) S) Q:=by refine⟨_,_,?_,h⟩;rw[<- HD];exact Au (show (Vp&&Vp)=Vp from Z)
def yN {J Y:DO}{S:ag}(h:Ok (f ac S) λd S1=>Ok (J ac S1) λlo G=>Ok (Y ac G) λhi U=>Ok (mB d lo hi U) Q):Ok (yP f J Y ac S) Q:=zD (zU h λ_ _ k=>zD (zU k λ_ _=>zD))
def v7 {x:Ah}{S:ag}(Y:x.length<=1000000)(h:Q (.str (Txt.slice x lo hi)) S):Ok (mB (.str x) lo hi S) Q:=⟨_,_,Au (by unfold bb;lia),h⟩
def YW {x:Ah}{S:ag}(Y:x.length<=1000000)(e:_L.jm x.cps.toList k=Aa c)(h:Q (.str ⟨#[c]⟩) S):Ok (m9 (.str x) (.int k) S) Q:=by refine⟨_,_,?_,h⟩;show (if x.length<=bb then (match _L.jm x.cps.toList k with|some c=>ax.ok (D.str ⟨#[c]⟩) S|none=>.bad) else .bad)=_;rw[Au (by unfold bb;lia),e]
def qBN {S:ag}(h:Q (.bl (!xz x y)) S):Ok (nW Vp (.str x) (.str y) S) Q:=⟨_,_,Z,h⟩
def zY (x:Ah):x.cps.toList.length=x.length:=by simp[Jy]
def mK (h:¬ Gd x):mf x=.non:=AT λz=>h z.1
def JP (h:¬ Sh x):mf x=.non:=AT λz=>h z.2
def oG (g:Gd x)(s:Sh x)(e:intText? x=Aa n):mf x=.int n:=by unfold mf;rw[Au ⟨g,s⟩,e]
def aU {x y:Ah}(h:fg x)(e:y.cps.toList=wY x.cps.toList):fg y:=λc Y=>by
 rw[e] at Y;rcases u9 x.cps.toList with⟨r,U,J⟩|⟨U,J⟩
 .rw[J] at Y;exact h c (by rw[U];exact Bn _ Y)
 .rw[J] at Y;exact h c Y
def iZ (l:Ab Aj):(wY l).length<=l.length:=by
 rcases u9 l with⟨r,J,Y⟩|⟨J,Y⟩
 .rw[Y,J,Aw];lia
 .rw[Y];exact Ay _
def V5 (B:fg x)(G:x.length<=640)(S:ag):er [.str x] S=.ok (mf x) S:=by
 rw[pF];refine zA (zB (ac:=[Aa (.str x),Zw,Zw]) Z ?_);rfl';refine TN G ?_;have J:=FT x;generalize Txt.removeprefix x "-" = y at J;have I:=aU B J;have H:y.length=(wY x.cps.toList).length:=by rw[<- J,zY]
 have L:=iZ x.cps.toList;rw[zY] at L;rfl';refine xN ?_;rfl';refine pS li ?_;rfl';refine⟨λe=>?_,λe=>?_⟩;rfl';refine⟨(mK λg=>?_).symm,Z⟩;have:=g.2.1;have:=Bd e;lia
 .have U:(wY x.cps.toList).length<=30:=by
   have:=Ef e;lia
  rfl';refine aI ?_;rfl';refine qBL ?_;rw[L3 I,J];rfl';cases Y:(decide (wY x.cps.toList≠[])&&(wY x.cps.toList).all Dg) with
  |false =>
   rfl';refine⟨(mK λg=>?_).symm,rfl⟩;rw[g.2.2,Ci g.1] at Y;cases Y
  |true =>
   rw[Ax,Bb] at Y;have g:Gd x:=⟨Y.1,U,Y.2⟩;obtain⟨n,O,E,N⟩:=XU g G;rfl';refine oK O G ?_;rfl';refine vC ?_;rfl';refine mM E ?_;rfl';refine jO ?_;rfl';refine⟨λq=>?_,λq=>?_⟩;rfl';exact⟨(oG g (N.mp (Bd q)) O).symm,Z⟩;rfl';exact⟨(JP λz=>Ef q (N.mpr z)).symm,Z⟩
def t7 {J:Type}{xs:Ab J}{a:Aj}(h:a<xs.length):_L.jm xs (a:Aq)=Aa xs[a]:=by
 have e:_L.qg xs.length (a:Aq)=Aa a:=by simp[_L.qg];lia
 simp[_L.jm,e,h]
def kB {J:Type}(c:J)(r:Ab J) : _L.jm (c::r) 0=Aa c:=t7 (xs:=c::r) (a:=0) (Ki _)
def w_ (c:Aj):D:=.str ⟨#[c]⟩
def NB (h:fg y):y.cps.all (· < 128)=true:=by rw[<- Sr,Bg];exact λc Y=>Ci (h c Y)
def qBD (h:fg y){i:Aj}{ac:qF}{S:ag}(e:ac[i]? = Aa (Aa (.str y))):wB (kH (qB i)) ac S=.ok (Zw,y.cps.toList.map w_) S:=by unfold wB kH;rw[mY e];show ((vO (if y.cps.all (· < 128) then Aa (y9 y) else Zw) S).bind λds Y=>ax.ok (Zw,ds) Y)=_;rw[Au (NB h)];rfl
def IV (xs:Ab Aj)(S:ag)(J:xs.length<=100):io (.lst (xs.map w_)) (.lst []) S=.ok (.bl (!decide (xs=[]))) S:=by
 have Y:pl qY (.lst (xs.map w_))=true:=by show (xs.map w_).all (pl 29)=Vp;rw[Hm,Bg];exact λc _=>rfl
 refine(Au (show (pl qY (.lst (xs.map w_))&&pl qY (.lst [])) = Vp by rw[Y];rfl)).trans ?_;cases xs <;> rfl
def yX:("" : Ah).cps.toList=[]:=by decide
def gM:("0" : Ah).cps.toList=[48]:=by decide
def E7 {x y:Ah}:x=y↔x.cps.toList=y.cps.toList:=⟨λh=>h▸Z,v8⟩
def KD (j:fg x)(L:x.length<=640)(S:ag):bh [.str x] S=.ok (mf x) S:=by
 rw[jZ];refine zA (zB (ac:=[Aa (.str x),Zw]) Z ?_);rfl';refine vC ?_;rfl';refine yN ?_;rfl';refine v7 li ?_;rfl';refine jO ?_;rfl';have N:∀ y:Ah,y.cps.toList=wY x.cps.toList->∀ S,Ok ((wO (bg (d2 fx (qB 1) (dC (.str "")))) (wO (bg (d2 yo (qG zZ (qA (qB 1) qC)) (dC (.int (30))))) (bg (d2 io (zC Yp [Zw] (wB (kH (qB 1))) (bc 0) (yW (bg (d2 (nW Vp) (qB 0) (dC (.str "0123456789")))) zX) (z9 (qB 0))) (zL qC))))) [Aa (.str x),Aa (.str y)] S) λb M=>Wo (V8 (qE (cw (yW (bg (d2 fx (d2 m9 (qB 1) (dC (.int 0))) (dC (.str "0")))) (bg (d2 io (qB 0) (dC (.str "0"))))) (qN (dC .non)) qU) (qN (qG bH (qA (qB 0) qC)))) (wf λd v=>d=mf x/\v=S)) (cD b (qN (dC .non)) qU [Aa (.str x),Aa (.str y)] M):=by
  intro y U S;have hy:=aU j U;have ly:y.length=(wY x.cps.toList).length:=by rw[<- U,zY]
  have o:=iZ x.cps.toList;rw[zY] at o;refine xN ?_;rfl';refine jO ?_;rfl';refine⟨λe=>?_,λu=>?_⟩;rfl';refine⟨(mK λg=>g.1 ?_).symm,Z⟩;rw[<- U,Bd e,yX]
  .have I:wY x.cps.toList≠[]:=λz=>Ef u (v8 (by rw[U,z,yX]));refine xN ?_;rfl';refine pS li ?_;rfl';refine⟨λe=>?_,λe=>?_⟩
   .rfl';refine⟨(mK λg=>?_).symm,Z⟩;have:=g.2.1;have:=Bd e;lia
   .have B:(wY x.cps.toList).length<=30:=by
     have:=Ef e;lia
    rfl';have J:=NQ (cq:=w_) (cr:=[Zw]) (fi:=wB (kH (qB 1))) (g:=bc 0) (t:=yW (bg (d2 (nW Vp) (qB 0) (dC (.str "0123456789")))) zX) (fe:=qB 0) (ac:=[Aa (.str x),Aa (.str y)]) (S:=S) (qBD hy Z) trivial (λc=>!Dg c) w_ (λac=>∃ a,ac=[a]) ⟨Zw,Z⟩ (by rw[zY];unfold bb;lia)
     λc J ac ⟨a,m⟩=>by
      subst m;refine⟨[Aa (w_ c)],rfl,⟨_,rfl⟩,?_,λ_=>rfl⟩;refine zA (oJ ?_);rfl';refine qBN ?_;rw[D5];rfl';refine⟨λq=>?_,λq=>?_⟩;rfl';exact⟨q.symm,Z⟩;exact⟨q.symm,Z⟩
    refine qD J ?_;rfl';refine qD (IV _ S (Ca (Lj _ _) (by rw[zY];lia))) ?_;rfl';rw[U];by_cases q:(wY x.cps.toList).filter (λc=>!Dg c)=[]
    .rw[Ci q];rfl';have l:(wY x.cps.toList).all Dg=true:=Bg.mpr λc J=>by
      cases h:Dg c with
      |true=>rfl
      |false =>
       have:=Ow (p:=λc=>!Dg c) |>.mpr ⟨J,show (!Dg c)=Vp by rw[h];rfl⟩
       rw[q] at this;cases this
     have g:Gd x:=⟨I,B,l⟩;obtain⟨n,O,e2,e3⟩:=XU g L;refine oJ ?_;rfl';obtain⟨c,r,G⟩:=Qw I;refine YW (c:=c) li (by rw[U,G];exact kB c r) ?_;rfl';refine jO ?_;rfl';have Y:Sh x↔(c=48->x.cps.toList=[48]):=by unfold Sh;rw[G];simp
     refine⟨λk=>?_,λk=>?_⟩
     .have k1:c=48:=by
       have:=congrArg (λz:Ah=>z.cps.toList) (Bd k);rw[gM] at this;exact(Gh this).1
      rfl';refine YX ?_;rfl';by_cases z:x = "0";rw[Ci z];rfl';refine oK O L ?_;rfl';exact⟨(oG g (Y.mpr λ_=>by rw[z,gM]) O).symm,Z⟩;rw[Bo z];rfl';exact⟨(JP λs=>z (v8 (by rw[Y.mp s k1,gM]))).symm,Z⟩
     .rfl';refine oK O L ?_;rfl';refine⟨(oG g (Y.mpr λz=>?_) O).symm,Z⟩;exact absurd (show (⟨#[c]⟩:Ah) = "0" from v8 (by rw[z,gM])) (Ef k)
    .rw[Bo q];rfl';refine⟨(mK λg=>q ?_).symm,Z⟩;exact Ug.mpr λc J=>by rw[Bg.mp g.2.2 c J];decide
 have H:(Txt.slice x Zw (Aa 1) = "-")↔∃ r,x.cps.toList=45::r:=by
  rw[E7,qBv,YQ];cases x.cps.toList with
  |nil=>simp
  |cons c r=>simp
 refine⟨λq=>?_,λq=>?_⟩;obtain⟨r,w⟩:=H.mp (Bd q);rfl';refine yN ?_;rfl';refine v7 li ?_;rfl';exact N _ (by rw[E2,w];rfl) S
 .rfl';refine N x ?_ S;rcases u9 x.cps.toList with⟨r,A,E⟩|⟨A,E⟩
  .exact absurd (H.mpr ⟨r,A⟩) (Ef q)
  .exact E.symm
def zi (h:fg x)(i j:Aj):fg (Qp x i j):=λc Y=>by have:c∈(x.cps.extract i j).toList:=Y;rw[Array.toList_extract] at this;exact h c (Vn (Lv this))
theorem nG (h:fg x)(w:Aj):∀ (Y:Ab Aj) (a:Aj),∀ p∈Rz x w a Y,fg p
 |[],a,p,hp=>by
  have:p=Qp x a x.length:=by simpa [Rz] using hp
  rw[this];exact zi h _ _
 |c::r,a,p,hp=>by
  rcases Av.mp (show p∈Qp x a c::Rz x w (c+w) r from hp) with e|hp
  .rw[e];exact zi h _ _
  .exact nG h w r _ p hp
def uU {x y a:Ah}(h:fg x)(Y:a∈Txt.split x y):fg a:=by
 unfold Txt.split at Y;split at Y;rw[Bz.mp Y];exact h
 .split at Y
  .rw[Bz.mp Y];exact h
  .rw[Nn] at Y;exact nG h _ _ _ a Y
def pZ (x y:Ah)(h:1<=y.length):(Txt.split x y).length<=x.length+1:=by have:=PyProof.Rows.split_weight x y h;lia
def qAV {S:ag}{w y:Ah}(e:ac[i]? = Aa (Aa (.str w)))(J:w.length<=1000000)(Y:1<=y.length):ki "str" y0 (qB i) (qA (dC (.str y)) qC) ac S=.ok (.lst ((Txt.split w y).map .str)) S:=by refine zA (qCe (o_v e ?_));refine⟨Z,pR (o_c (aJ ⟨_,_,?_,Z,Z⟩))⟩;exact Au ⟨by unfold bb;lia,Ff.mpr li⟩
def lY {S:ag}{w y:Ah}(e:ac[i]? = Aa (Aa (.str w)))(J:w.length<=1000000)(Y:1<=y.length):je (ki "str" y0 (qB i) (qA (dC (.str y)) qC)) ac S=.ok (Zw,(Txt.split w y).map .str) S:=by unfold je;rw[qAV e J Y];rfl
def oU (x:Ah):Pn (mf x):=by
 unfold mf;split
 .split
  .exact⟨.int _,Z⟩
  .exact⟨.none,Z⟩
 .exact⟨.none,Z⟩
def mr (w:Ah):D:=if xG (.tup ((Txt.split w ",").map mf))=Vp then .tup ((Txt.split w ",").map mf) else .non
def OW (w:Ah):Pn (mr w):=by
 unfold mr;split;exact oV λd Y=>by obtain⟨x,_,rfl⟩:=Cf.mp Y;exact oU x
 .exact⟨.none,Z⟩
def rd (t:Ah):D:=.tup ((Txt.split t " ").map mr)
def TY (t:Ah):Pn (rd t):=oV λd Y=>by obtain⟨x,_,rfl⟩:=Cf.mp Y;exact OW x
def oY (O:fg w)(B:w.length<=640)(S:ag):fq [.str w] S=.ok (mr w) S:=by
 rw[fN];refine zA (zB (ac:=[Aa (.str w),Zw]) Z ?_);rfl';refine xC (cq:=D.str) (o:=Zw) (Txt.split w ",") mf (λac Y=>Y=S/\∃ a,ac=[a]) (lY Z li aC) ⟨Z,Zw,Z⟩ (by have:=pZ w "," aC;unfold bb;lia) (λ_ _ _=>trivial) (λx U ac Y ⟨J,a,N⟩=>?_) λac Y ⟨J,_⟩=>?_;subst J N;rfl';exact qD (V5 (uU O U) (Ca (Ib U) B) _) ⟨Z,Z,_,Z⟩
 .subst J;rfl';refine vC ?_;rfl';refine qD (jR (oV λd G=>by
   obtain⟨x,_,rfl⟩:=Cf.mp G;exact oU x) _) ?_
  rfl';refine⟨λq=>?_,λq=>?_⟩;rfl';exact⟨(Au q).symm,Z⟩;rfl';exact⟨(AT (by rw[q];decide)).symm,Z⟩
def XR (O:fg w)(B:w.length<=640)(S:ag):ba [.str w] S=.ok (mr w) S:=by
 rw[uT];refine zA (zB (ac:=[Aa (.str w),Zw]) Z ?_);rfl';refine xC (cq:=D.str) (o:=Zw) (Txt.split w ",") mf (λac Y=>Y=S/\∃ a,ac=[a]) (lY Z li aC) ⟨Z,Zw,Z⟩ (by have:=pZ w "," aC;unfold bb;lia) (λ_ _ _=>trivial) (λx U ac Y ⟨J,a,N⟩=>?_) λac Y ⟨J,_⟩=>?_;subst J N;rfl';exact qD (KD (uU O U) (Ca (Ib U) B) _) ⟨Z,Z,_,Z⟩
 .subst J;rfl';refine vC ?_;rfl';refine qD (nD (oV λd G=>by
   obtain⟨x,_,rfl⟩:=Cf.mp G;exact oU x) _) ?_
  rfl';refine⟨λq=>?_,λq=>?_⟩;rfl';exact⟨(Au q).symm,Z⟩;rfl';exact⟨(AT (by rw[q];decide)).symm,Z⟩
def RS (N:fg w)(O:w.length<=640)(S:ag):f_ [.str w] S=.ok (if wA (rd w)=Vp then rd w else .non) S:=by
 rw[p9];refine zA (zB (ac:=[Aa (.str w),Zw]) Z ?_);rfl';refine xC (cq:=D.str) (o:=Zw) (Txt.split w " ") mr (λac Y=>Y=S/\∃ a,ac=[a]) (lY Z li aC) ⟨Z,Zw,Z⟩ (by have:=pZ w " " aC;unfold bb;lia) (λ_ _ _=>trivial) (λx U ac Y ⟨J,a,G⟩=>?_) λac Y ⟨J,_⟩=>?_;subst J G;rfl';exact qD (XR (uU N U) (Ca (Ib U) O) _) ⟨Z,Z,_,Z⟩
 .subst J;rfl';refine vC ?_;rfl';refine qD (cA (TY w) _) ?_;rfl';refine⟨λq=>?_,λq=>?_⟩
  .rfl';exact⟨(Au q).symm,Z⟩
  .rfl';exact⟨(AT (by rw[q];decide)).symm,Z⟩
def K0 {Q:ik->Prop}(c:Cl){w:Ah}(N:fg w)(O:w.length<=640)(S:ag)(k1:wA (rd w)=Vp->Q (.rt (rd w) S))(k2:wA (rd w)=Yp->∀ ac,Q (.ex (.ref c.NoText) .non ac S)):Wo Q (qu c [Aa (.str w),Zw] S):=by
 rfl';refine qD (d:=.bl Vp) (S:=S) (by kernel_rfl!) ?_;rfl';refine xC (cq:=D.str) (o:=Zw) (Txt.split w " ") mr (λac Y=>Y=S/\∃ a,ac=[a]) (lY Z li aC) ⟨Z,Zw,Z⟩ (by have:=pZ w " " aC;unfold bb;lia) (λ_ _ _=>trivial) (λx U ac Y ⟨J,a,G⟩=>?_) λac Y ⟨J,_⟩=>?_;subst J G;rfl';exact qD (oY (uU N U) (Ca (Ib U) O) _) ⟨Z,Z,_,Z⟩
 .subst J;rfl';refine qD (oX (TY w) _) ?_;rfl';cases h:wA (rd w) with
  |true =>
   rfl';exact k1 h
  |false =>
   rfl';exact wK (k2 h _)
def FR (c:Cl){w:Ah}(Y:fg w)(J:w.length<=640)(S:ag)(h:wA (rd w)=Vp):jo c [.str w] S=.ok (rd w) S:=by rw[fV];refine zA (zB (ac:=[Aa (.str w),Zw]) rfl ?_);exact K0 c Y J S (λ_=>⟨rfl,rfl⟩) λz=>by rw[h] at z;cases z
def RT (c:Cl){w:Ah}(Y:fg w)(J:w.length<=640)(S:ag)(h:wA (rd w)=Yp):jo c [.str w] S=.ex (.ref c.NoText) .non S:=by rw[fV];refine wI (ac:=[Aa (.str w),Zw]) rfl ?_;exact K0 c Y J S (λz=>by rw[h] at z;cases z) λ_ ac=>⟨ac,rfl⟩
noncomputable def kj (i:Aq):Ah:=Fb (toString i)
def pw (p:Pt):Ah:=kj p.1 ++ "," ++ kj p.2
def tx (l:Ab Pt):Ah:=Txt.join " " (l.map pw)
def qS (a b:Ah):(a++b).length=a.length+b.length:=Array.size_append ..
def zS (a b:Ah):(a++b).cps.toList=a.cps.toList++b.cps.toList:=by show (a.cps++b.cps).toList=_;simp
def wH (h:fg a)(k:fg b):fg (a++b):=λc Y=>by rw[zS] at Y;exact(Ch.mp Y).elim (h c) (k c)
def zj (m:Aj):∀ c∈(Je 10 m).map Jf,c<128:=λc Y=>by obtain⟨J,h,rfl⟩:=Cf.mp Y;have:=Sk (Qh aC aC h);lia
def JT {m:Aj}(h:m<=1000):fg (kj m)/\(kj m).length<=4:=⟨λc Y=>by
 unfold kj at Y;rw[dW] at Y;exact zj m c Y,Aaa li aC li⟩
def vF {i:Aq}(h : -1000<=i/\i<=1000):fg (kj i)/\(kj i).length<=5/\i.natAbs.log2<1920:=by
 have J:i.natAbs.log2<1920:=by have:=Nat.log2_le_self i.natAbs;lia
 by_cases e:0<=i;obtain⟨m,rfl⟩:=Nm e;have:=JT (m:=m) li;exact⟨this.1,by lia,J⟩
 .obtain⟨m,rfl⟩:∃ m:Aj,i = -((m+1:Aj):Aq):=⟨(-i).toNat-1,by lia⟩
  have k:=JT (m:=m+1) li;have Y:(kj (-((m+1:Aj):Aq))).cps.toList=45::(Je 10 (m+1)).map Jf:=aL m;refine⟨λc hc=>?_,?_,J⟩
  .rw[Y] at hc;rcases Av.mp hc with rfl|hc
   .decide
   .exact zj _ c hc
  .rw[<- zY,Y,Aw];have U:(kj ((m+1:Aj):Aq)).cps.toList=(Je 10 (m+1)).map Jf:=dW (m+1);have:=k.2;rw[<- zY,U] at this;lia
def dO (h:gu 1000 p):fg (pw p)/\(pw p).length<=11:=by
 have a:=vF (i:=p.1) ⟨h.1,h.2.1⟩;have b:=vF (i:=p.2) ⟨h.2.2.1,h.2.2.2⟩;refine⟨wH (wH a.1 (by intro c Y;revert c;decide)) b.1,?_⟩;unfold pw;rw[qS,qS];have:(("," : Ah)).length=1:=by decide
 lia
def nJ (U:fg y):∀ {l:Y8},(∀ a∈l,fg a)->fg (Txt.join y l):=by
 intro l h;show fg (Sa y l);rw[Oq]
 induction l with
 |nil=>intro c J;cases J
 |cons a l G =>
  cases l with
  |nil=>exact h a (Cr ..)
  |cons b l =>
   show fg (a++y++Str.join y (b::l));exact wH (wH (h a (Cr ..)) U) (G λx Y=>h x (Bn _ Y))
theorem sD {J:Type}(f:J->Aj)(m:Aj):∀ {l:Ab J},(∀ a∈l,f a<=m)->(l.map f).sum<=l.length*m
 |[],_=>by simp
 |a::l,h=>by have U:=h a (Cr ..);have G:=sD f m (l:=l) λx Y=>h x (Bn _ Y);rw[Ej,List.sum_cons,Aw,Nat.add_mul];lia
def o2 (y:Ah)(l:Y8):(Txt.join y l).length<=(l.map (·.length)).sum+l.length*y.length:=by
 show (Sa y l).length<=_;rw[Oq];cases l with
 |nil=>exact EQ _
 |cons a l =>
  rw[PyProof.Rows.len_join_cons,Aw,Nat.add_mul];lia
def lK:fg " ":=by intro c Y;revert c;decide
def kM:(" " : Ah).length=1:=by decide
def N4 {M:Aj}{l:Ab Pt}(G:M<=41)(N:l.length<=M)(J:∀ p∈l,gu 1000 p):fg (tx l)/\(tx l).length<=492:=by
 refine⟨nJ lK λa U=>?_,?_⟩;obtain⟨p,Y,rfl⟩:=Cf.mp U;exact(dO (J p Y)).1;refine Ca (o2 _ _) ?_;have:=sD (λp:Pt=>(pw p).length) 11 (l:=l) λp Y=>(dO (J p Y)).2;rw[Dl,Ao,kM];show (l.map λp=>(pw p).length).sum+_<=_;lia
def JW {x:Ah}{ys:Y8}{S:ag}(J:(ys.map (·.length)).sum+ys.length*x.length<=bb)(h:Q (.str (Txt.join x ys)) S):Ok (jM (.str x) [.lst (ys.map .str)] S) Q:=by refine⟨_,_,?_,h⟩;show (match (Aa (ys.map D.str)).bind gI with|some (Y:Y8)=>if (xL Jy Y).sum+Gm Y*x.length<=bb then ax.ok (D.str (Txt.join x Y)) S else .bad|none=>.bad)=_;rw[On,KZ];exact Au J
def XF {l:Ab Pt}(U:l.length<=41)(J:∀ p∈l,gu 1000 p){S:ag}(h:Q (.str (tx l)) S):Ok (jM (.str " ") [.lst (l.map λp=>.str (pw p))] S) Q:=by
 have e:(l.map λp=>D.str (pw p))=(l.map pw).map .str:=by rw[Dl];rfl
 rw[e];refine JW ?_ h;have:=sD (λp:Pt=>(pw p).length) 11 (l:=l) λp Y=>(dO (J p Y)).2;rw[Dl,Ao,kM];show (l.map λp=>(pw p).length).sum+_<=_;unfold bb;lia
def rB {p:DE}{ps:Ab DE}{Y y:Ah}{S:ag}(h:p ac S=.ok (.str y) S)(J:(Y++y).length<=bb):bO Y (p::ps) ac S=bO (Y++y) ps ac S:=by show (p ac S).bind _=_;rw[h];exact Au J
def UO {S:ag}(e:ac[i]? = Aa (Aa (.int n)))(h:n.natAbs.log2<1920):d1 bI (qB i) ac S=.ok (.str (kj n)) S:=by show (qB i ac S).bind _=_;rw[mY e];exact Au h
def AR (h:gu 1000 p)(S:ag):cZ [d1 bI (qB 0),dC (.str ","),d1 bI (qB 1)] [Aa (.int p.1),Aa (.int p.2)] S=.ok (.str (pw p)) S:=by
 have a:=vF (i:=p.1) ⟨h.1,h.2.1⟩;have b:=vF (i:=p.2) ⟨h.2.2.1,h.2.2.2⟩;have U:(("," : Ah)).length=1:=by decide
 have J:Pa.length=0:=Z;have Y:Pa++kj p.1=kj p.1:=v8 (by rw[zS];rfl);show bO Pa _ _ _=_;rw[rB (UO Z a.2.2) (by rw[qS];unfold bb;lia),rB (show dC (.str ",") _ S=.ok (.str ",") S from Z) (by rw[qS,qS];unfold bb;lia),rB (UO Z b.2.2) (by rw[qS,qS,qS];unfold bb;lia)];rw[Y];exact Au (by rw[qS,qS];unfold bb;lia)
def FZ (c:Cl){M:Aj}(U:M<=40){l:Ab Pt}(L:fw M l)(S:ag):kg c [qK l] S=.ok (.str (tx l)) S:=by
 rw[lI];refine zA (zB (ac:=[Aa (qK l)]) Z ?_);rfl';refine qD (uQ c S (mP l) (kK U L)) ?_;rfl';refine xC (cq:=az) (o:=Zw) l (λp=>.str (pw p)) (λac Y=>Y=S/\∃ a b,ac=[a,b]) (vL Z) ⟨Z,Zw,Zw,Z⟩ (by have:=L.len;unfold bb;lia) (λ_ _ _=>trivial) (λx G ac Y ⟨J,a,b,N⟩=>?_) λac Y ⟨J,_⟩=>?_;subst J N;rfl';exact qD (AR (L.box x G) _) ⟨Z,Z,_,_,Z⟩;subst J;rfl';refine XF (by have:=L.len;lia) (λp O=>L.box p O) ?_;rfl';exact⟨Z,Z⟩
def zH {a b:Ah}{S:ag}(Y:a.length+b.length<=1000000)(h:Q (.str (a++b)) S):Ok (qR (.str a) (.str b) S) Q:=⟨_,_,Au (by unfold bb;lia),h⟩
def pT {l:Ab Pt}(O:l.length<=41)(U:∀ p∈l,gu 1000 p){d:D}{S:ag}(e:je (qB 0) [Aa d] S=.ok (Zw,l.map az) S)(q:Q (.str (tx l)) S):Ok (bq [d] S) Q:=by
 rw[pB];refine zB (ac:=[Aa d]) Z ?_;rfl';refine xC (cq:=az) (o:=Zw) l (λp=>.str (pw p)) (λac Y=>Y=S/\∃ a b,ac=[a,b]) e ⟨Z,Zw,Zw,Z⟩ (by unfold bb;lia) (λ_ _ _=>trivial) (λx G ac Y ⟨J,a,b,N⟩=>?_) λac Y ⟨J,_⟩=>?_
 .subst J N;have h:=U x G;have a:=vF (i:=x.1) ⟨h.1,h.2.1⟩;have b:=vF (i:=x.2) ⟨h.2.2.1,h.2.2.2⟩;have B:(("," : Ah)).length=1:=by decide
  rfl';refine mM a.2.2 ?_;rfl';refine zH (a:=kj x.1) li ?_;rfl';refine mM b.2.2 ?_;rfl';refine zH (a:=kj x.1 ++ ",") (b:=kj x.2) (by rw[qS];lia) ?_;exact⟨Z,Z,_,_,Z⟩
 .subst J;rfl';refine XF O U ?_;rfl';exact q
def aW (h:fg x)(l:Ab Aj):fg ⟨(l.filterMap (x.cps[·]?)).toArray⟩:=λc Y=>by
 have:c∈l.filterMap (x.cps[·]?):=by simpa using Y
 obtain⟨i,_,e⟩:=Ir.mp this;rw[<- By] at e;exact h c (Cd e)
def g9 (h:fg x)(lo hi:Al Aq):fg (Txt.slice x lo hi):=by
 unfold Txt.slice;split;exact h;exact aW h _
def HC (h:fg x)(lo hi:Al (Aq × Mx))(st:Aq × Mx):fg (Txt.sliceBy x lo hi st):=by
 unfold Txt.sliceBy;split;exact h;exact aW h _
def ND (h:fg x)(hz:fg z):fg (Txt.replace x y z):=by
 unfold Txt.replace;split;exact h;refine nJ hz λa Y=>?_;rw[Nn] at Y;exact nG h _ _ _ a Y
def rF (x y z:Ah)(Y:x.length+(x.length+1)*z.length<=16777216):(Txt.replace x y z).length<=bb:=by
 unfold Txt.replace;split;unfold bb;lia;rw[zP];exact PySem.fits_replaced y Y
def DR (x:Ah):(Txt.slice x Zw (Aa 600)).length<=600:=by rcases PyProof.Rows.slice_ns_cases x 600 aC with⟨_,h⟩|⟨_,h⟩ <;> lia
def Tm (x:Ah):Prop:=fg x/\x.length<=bb
def Wd (x:Ah):Prop:=fg x/\x.length<=492
def TR {x:Ah}{S:ag}(Y:x.length<=bb)(h:Q (.str (Txt.slice x lo hi)) S):Ok (mB (.str x) lo hi S) Q:=⟨_,_,Au Y,h⟩
def tP {x y:Ah}{S:ag}(J:x.length<=1000000)(Y:1<=y.length)(h:Q (.lst ((Txt.split x y).map .str)) S):Ok (y0 (.str x) [.str y] S) Q:=⟨_,_,Au ⟨by unfold bb;lia,Ff.mpr li⟩,h⟩
def qBU {S:ag}{y z:Ah}(h:Ok (f ac S) λd S1=>∃ x,d=.str x/\x.length+(x.length+1)*z.length<=bb/\Q (.str (Txt.replace x y z)) S1):Ok (fZ y z f ac S) Q:=zD (zU h λd S1 ⟨x,e,Y,q⟩=>by
 subst e;exact⟨_,_,Au Y,q⟩)
def XH {g:DE}{S:ag}(h:Ok (f ac S) λa S1=>Ok (g ac S1) λb Y=>Ok (lR a b Y) Q):Ok (pH f g ac S) Q:=o_2 h
def TM {x:Ah}{S:ag}(Y:x.length<=1000000)(h:Q (.str (Txt.sliceBy x Zw Zw (-1,0))) S):Ok (lR (.str x) (.int (-1)) S) Q:=⟨_,_,Au ⟨by decide,by unfold bb;lia⟩,h⟩
def sO (ys:Y8)(lo hi:Al Aq):∃ Y:Ab Ah,wN (ys.map .str) lo hi=Y.map .str/\(∀ z∈Y,z∈ys)/\Y.length<=ys.length:=by unfold wN;refine⟨_,by rw[<- Wr,<- Rx],λz J=>Vn (Lv J),?_⟩;rw[Fo,Gq];lia
def W4 (x y:Ah):0<(Txt.split x y).length:=by
 unfold Txt.split;split;exact Nat.one_pos
 .split
  .exact Nat.one_pos
  .rw[Nn];obtain⟨p,r,e⟩:=StrLaws.partsFrom_ne x y.length 0 (Gu x y 0 x.length (x.length+1));rw[e];exact Ki _
def JA {l:Y8}{n:Aj}(G:l.length<=n)(h:∀ z∈l,Wd z)(O:n<=3000):Tm (Txt.join " " l)/\(l.map (·.length)).sum+l.length*(" " : Ah).length<=bb:=by have N:=sD Jy 492 (l:=l) λz Y=>(h z Y).2;have J:=o2 " " l;have U:l.length*492<=3000*492:=Vm _ li;rw[kM] at J ⊢;exact⟨⟨nJ lK λz Y=>(h z Y).1,by unfold bb;lia⟩,by unfold bb;show (l.map Jy).sum+_<=_;lia⟩
def W1:("0123456789 ,-+.\nx_:;" : Ah).cps.toList=[48,49,50,51,52,53,54,55,56,57,32,44,45,43,46,10,120,95,58,59]:=by decide
def IvB (p j:Aj)(w U:Ah)(ge:Y8)(a b k:Aj)(sg:Ah)(S0:ag)(J:Ab (Ab Ah))(ac:qF)(S:ag):Prop:=(∀ l∈J,(∀ z∈l,Wd z)/\l.length<=494)/\Kp p S0 S/\∃ (G:Al D) (Y:Y8),ac=[Aa (.loc p),Aa (.str w),Aa (.int (a:Aq)),Aa (.int (b:Aq)),Aa (.str sg),Aa (.lst (ge.map .str)),Aa (.int (k:Aq)),Aa (.str U),Aa (.loc j),G]/\S[j]? = Aa (.lst (Y.map .str))/\(∀ y∈Y,Tm y)/\Y.length+J.length=12
def NH {p j:Aj}{w Y:Ah}{ge:Y8}{a b k:Aj}{sg:Ah}(ha:a<12)(hw:∀ z∈ge,Wd z)(G:Wd Y)(hn:ge.length<=493){S0 S:ag}{ys:Y8}(N:Kp p S0 S)(t:S0.length<=j)(E:p≠j)(e:S[j]? = Aa (.lst (ys.map .str)))(U:∀ y∈ys,Tm y)(J:ys.length=9)
  (q:∀ x o,Kp p S0 o->fg x->x.length<=600->Q (.str x) o) :
  Wo (wf Q) ((qE (gS (uW (zL (qA (zL (qA (qB 7) (qA (qB 7) qC))) (qA (zL (qA (pH (qB 7) (d1 yB (dC (.int 1)))) qC)) (qA (d2 qR (nv (qB 5) (zF (d2 qR (qB 6) (dC (.int 1)))) (zF (d2 qR (qB 6) (dC (.int 2))))) (zL (qA (qB 7) qC))) qC))))) (bc 9) (wC (ki "list" wZ (qB 8) (qA (ki "str" jM (dC (.str " ")) (qA (d2 qR (d2 qR (nv (qB 5) zM (zF (qB 6))) (qB 9)) (nv (qB 5) (zF (d2 qR (qB 6) (dC (.int 1)))) zM)) qC)) qC)))) (qN (yP (d2 bx (qB 8) (qB 2)) zM (zF (dC (.int 600)))))) [Aa (.loc p),Aa (.str w),Aa (.int (a:Aq)),Aa (.int (b:Aq)),Aa (.str sg),Aa (.lst (ge.map .str)),Aa (.int (k:Aq)),Aa (.str Y),Aa (.loc j),Zw] S):=by
 rfl';refine XH ?_;rfl';refine TM (by have:=G.2;lia) ?_;rfl';obtain⟨A,m,H,l1⟩:=sO ge (Aa ((k:Aq)+1)) (Aa ((k:Aq)+2));rw[m];refine wL (by rw[Ao];show _+1<=bb;unfold bb;lia) ?_;rfl';have O:Wd (Txt.sliceBy Y Zw Zw (-1,0)):=⟨HC G.1 _ _ _,Ca (Txt.sliceBy_le Y Zw Zw (-1,0) aC) G.2⟩
 have v:A.map D.str++[.str Y]=(A++[Y]).map .str:=by rw[Ds];rfl
 rw[v];refine j9 (cq:=λl:Ab Ah=>D.lst (l.map .str)) (IvB p j w Y ge a b k sg S0) (λl aw ac S I=>?_) (λac S I=>?_) (xs:=[[Y,Y],[Txt.sliceBy Y Zw Zw (-1,0)],A++[Y]]) ?_
 .obtain⟨O,N,h,ys,rfl,e,U,J⟩:=I;have L:=O l (Cr ..);rfl';refine⟨VL e,?_⟩;rfl';obtain⟨M,d,H,n1⟩:=sO ge Zw (Aa (k:Aq));obtain⟨g,s,c,n2⟩:=sO ge (Aa ((k:Aq)+1)) Zw;rw[d];refine wL (by rw[Ao,Ao];unfold bb;lia) ?_;rfl';rw[s,<- Ds];refine wL (by rw[Ao,Ao,Az];unfold bb;lia) ?_;rfl';rw[<- Ds];have u:=JA (l:=M++l++g) (n:=1480) (by rw[Az,Az];lia) (λz hz=>by
   rcases Ch.mp hz with hz|hz
   .rcases Ch.mp hz with hz|hz
    .exact hw z (H z hz)
    .exact L.1 z hz
   .exact hw z (c z hz)) li
  refine JW u.2 ?_;rfl';refine aH e (by rw[Ao];rw[Aw] at J;unfold bb;lia) ?_;refine sH ⟨λl J=>O l (Bn _ J),N.set t _ E,_,ys++[Txt.join " " (M++l++g)],Z,?_,λy hy=>?_,?_⟩;rw[Fn (Bw.mp e).1,Ds];rfl
  .rcases Ch.mp hy with hy|hy
   .exact U y hy
   .rw[Bz.mp hy];exact u.1
  .rw[Az,Cu];rw[Aw] at J;lia
 .obtain⟨_,N,h,ys,rfl,e,U,J⟩:=I;rw[Cy] at J;rfl';refine yN ?_;rfl';have B:a<(ys.map D.str).length:=by rw[Ao];lia
  refine uR e (WU B) ?_;rw[Kc];have hy:=U (ys[a]' li) (Fx _);rfl';refine TR hy.2 ?_;rfl';exact q _ _ N (g9 hy.1 _ _) (DR _)
 .refine⟨λl J=>?_,N,Zw,ys,Z,e,U,by rw[J];rfl⟩;simp only[Av,Cz,Fu] at J;rcases J with rfl|rfl|rfl
  .exact⟨λz hz=>by
    simp only[Av,Cz,Fu,or_self] at hz;rw[hz];exact G,Bv Z⟩
  .exact⟨λz hz=>by rw[Bz.mp hz];exact O,Bv Z⟩
  .exact⟨λz hz=>by
    rcases Ch.mp hz with hz|hz
    .exact hw z (H z hz)
    .rw[Bz.mp hz];exact G,by rw[Az,Cu];lia⟩
def IY (Y:fg w)(hl:w.length<=492){S:ag}(h:wU S p)(q:∀ x n,Kp p S n->fg x->x.length<=600->Q (.str x) n):Ok (cf [.loc p,.str w] S) Q:=by
 rw[uG];refine zB (ac:=[Aa (.loc p),Aa (.str w),Zw,Zw,Zw,Zw,Zw,Zw,Zw,Zw]) Z ?_;rfl';refine x9 h li λa S1 l zc=>?_;rfl';refine pS li ?_;rfl';refine x9 l.pen li λb S2 M hb=>?_;rfl';refine x9 M.pen li λg S3 v hg=>?_;rfl';have O:g<("0123456789 ,-+.\nx_:;" : Ah).cps.toList.length:=by rw[W1];simp only[Aw,Cy];lia
 refine YW (Bv aC) (t7 O) ?_;have J:fg ⟨#[("0123456789 ,-+.\nx_:;" : Ah).cps.toList[g]]⟩/\(⟨#[("0123456789 ,-+.\nx_:;" : Ah).cps.toList[g]]⟩:Ah).length=1:=⟨λc j=>by
  have:c=("0123456789 ,-+.\nx_:;" : Ah).cps.toList[g]:=by simpa using j
  rw[this];have al:∀ c∈("0123456789 ,-+.\nx_:;" : Ah).cps.toList,c<128:=by rw[W1];decide
  exact al _ (Fx _),Z⟩
 generalize (⟨#[("0123456789 ,-+.\nx_:;" : Ah).cps.toList[g]]⟩:Ah)=sg at J;rfl';refine tP li aC ?_;have E:∀ z∈Txt.split w " ",Wd z:=λz d=>⟨uU Y d,Ca (Ib d) hl⟩;have hn:=pZ w " " aC;have h0:=W4 w " ";generalize Txt.split w " " = ge at E hn h0;rfl';refine x9 v.pen (by rw[Ao];lia) λk S4 L hk=>?_;rw[Ao] at hk;rfl';refine xA (WU (by rw[Ao];lia)) ?_;rw[Kc];have G:=E (ge[k]' li) (Fx _);generalize ge[k]' li=w7 at G;have e:=((l.trans M).trans v).trans L;have hA:=Txt.slice_le w Zw (Aa (b:Aq));have hB:=Txt.slice_le w (Aa (b:Aq)) Zw;have hC:=Txt.slice_le w (Aa ((b:Aq)+1)) Zw;have B:=g9 Y Zw (Aa (b:Aq));have aB:=g9 Y (Aa (b:Aq)) Zw;have t:=g9 Y (Aa ((b:Aq)+1)) Zw;rfl';refine yN ?_;rfl';refine v7 li ?_;rfl';refine zH li ?_;rfl';refine yN ?_;rfl';refine v7 li ?_;rfl';refine zH (by rw[qS];lia) ?_;rfl';refine JY (k:=3) (by unfold bb;exact⟨by simp,by lia⟩) ?_;rfl';refine yN ?_;rfl';refine v7 li ?_;rfl';refine zH li ?_;rfl';refine yN ?_;rfl';refine v7 li ?_;rfl';refine zH (by rw[qS];lia) ?_;rfl';refine JY (k:=2) (by unfold bb;exact⟨by simp,by lia⟩) ?_;refine wL (Bv Z) ?_;rfl';refine yN ?_;rfl';refine v7 li ?_;rfl';refine yN ?_;rfl';refine v7 li ?_;rfl';refine zH li ?_;rfl';refine zH (by rw[kM];lia) ?_;rfl';refine zH (by rw[kM];lia) ?_;rfl';refine qBU ?_;rfl';have l2:("  " : Ah).length=2:=by decide
 have m:w.length+(w.length+1)*("  " : Ah).length<=16777216:=by rw[l2];lia
 refine⟨m,?_⟩;rfl';refine JU rfl rfl (Bv rfl) (qCg (qAm ?_));have A:fg "  ":=by intro c j;revert c;decide
 have N:∀ x:Ah,fg x->x.length<=2000->Tm x:=λx h1 h2=>⟨h1,by unfold bb;lia⟩
 have I:=N _ (wH (wH B J.1) aB) (by rw[qS,qS];lia);have u:=N _ (wH (wH B J.1) t) (by rw[qS,qS];lia);have s:=N _ (wH B t) (by rw[qS];lia);have t4:=N _ (wH Y lK) (by rw[qS,kM];lia);have t5:=N _ (wH lK Y) (by rw[qS,kM];lia);have t6:Tm (Txt.replace w " " "  "):=⟨ND Y A,rF w " " "  " m⟩;have U:a<12:=by lia
 have H:ge.length<=493:=by lia
 refine NH (a:=a) (b:=b) (k:=k) (ge:=ge) (w:=w) (sg:=sg) (S0:=S) (ys:=[_,_,_,_,_,_,_,_,_]) U E G H (e.trans (Kp.pre L.pen (Iu _ _))) e.len (Cm (K8 L.pen)) (vR S4 _) (λy o=>?_) rfl q;simp only[Av,Cz,Fu] at o;rcases o with rfl|rfl|rfl|rfl|rfl|rfl|rfl|rfl|rfl
 .exact I
 .exact I
 .exact I
 .exact u
 .exact u
 .exact s
 .exact t4
 .exact t5
 .exact t6
set_option tactic.hygienic true in
def qAB (h:xG (mr w)=Yp):mr w=.non:=by
 unfold mr at h ⊢;split at h;rename_i k;rw[k] at h;cases h;rename_i k;rw[AT k]
def RF (c:Cl){w:Ah}(Y:fg w)(J:w.length<=640)(S:ag){q:Pt}(h:mr w=az q):df c [.str w] S=.ok (az q) S:=by rw[jC];refine zA (zB (ac:=[Aa (.str w),Zw]) Z ?_);rfl';refine qD (oY Y J S) ?_;rw[h];rfl';refine qD (d:=.bl Yp) (S:=S) Z ?_;rfl';exact⟨Z,Z⟩
def OX (c:Cl){w:Ah}(Y:fg w)(J:w.length<=640)(S:ag)(h:mr w=.non):df c [.str w] S=.ex (.ref c.NoPoint) .non S:=by rw[jC];refine wI (ac:=[Aa (.str w),Zw]) Z ?_;rfl';refine qD (oY Y J S) ?_;rw[h];rfl';refine qD (d:=.bl Vp) (S:=S) Z ?_;rfl';exact wK ⟨_,Z⟩
def SH (c:Cl){w:Ah}(Y:fg w)(J:w.length<=640)(S:ag){n:Aq}(h:mf w=.int n):ci c [.str w] S=.ok (.int n) S:=by rw[uK];refine zA (zB (ac:=[Aa (.str w),Zw]) Z ?_);rfl';refine qD (V5 Y J S) ?_;rw[h];rfl';refine qD (d:=.bl Yp) (S:=S) Z ?_;rfl';exact⟨Z,Z⟩
def IX (c:Cl){w:Ah}(Y:fg w)(J:w.length<=640)(S:ag)(h:mf w=.non):ci c [.str w] S=.ex (.ref c.NoNumber) .non S:=by rw[uK];refine wI (ac:=[Aa (.str w),Zw]) Z ?_;rfl';refine qD (V5 Y J S) ?_;rw[h];rfl';refine qD (d:=.bl Vp) (S:=S) Z ?_;rfl';exact wK ⟨_,Z⟩
def YT (c:Cl){d:D}(S:ag)(h:Pn d)(k:xG d=Vp):dk c [d] S=.ok .non S:=by rw[vY];refine zA (zB (ac:=[Aa d]) Z ?_);rfl';refine qD (jR h S) ?_;rw[k];rfl';exact⟨Z,Z⟩
def YS (c:Cl){d:D}(S:ag)(h:Pn d)(k:xG d=Yp):dk c [d] S=.ex (.ref c.NoPoint) .non S:=by rw[vY];refine wI (ac:=[Aa d]) Z ?_;rfl';refine qD (jR h S) ?_;rw[k];rfl';exact wK ⟨_,Z⟩
def oB (c:Cl)(i:Aq)(S:ag):cx c [.int i] S=.ok .non S:=by rw[kA];refine zA (zB (ac:=[Aa (.int i)]) Z ?_);rfl';refine qD (XS (d:=.int i) ⟨_,Z⟩ S) ?_;rw[show _j (.int i)=Vp from Z];rfl';exact⟨Z,Z⟩
def k_ (a b:Aq)(q:Pt):Pt:=(q.1+a,q.2+b)
def sj (q:Pt):Pt:=(-q.2,q.1)
def tu (q:Pt):Pt:=(q.2,q.1)
def XG {Q:ik->Prop}(c:Cl){l:Ab Pt}(L:fw 40 l)(a b:Aq)(S:ag)(k1:(∀ q∈l,gu 1000 (k_ a b q))->Q (.rt (qK (l.map (k_ a b))) S))(k2:¬ (∀ q∈l,gu 1000 (k_ a b q))->∀ ac,Q (.ex (.ref c.NoPoint) .non ac S)):Wo Q (o_ c [Aa (qK l),Aa (.int a),Aa (.int b),Zw,Zw] S):=by
 rfl';refine qD (uQ c S (mP l) (kK (Ay _) L)) ?_;rfl';refine qD (oB c a S) ?_;rfl';refine qD (oB c b S) ?_;rfl';refine xC (cq:=az) (o:=Zw) l (λq=>az (k_ a b q)) (λac G=>G=S/\∃ x y,ac=[x,y,Aa (.int a),Aa (.int b)]) (vL Z) ⟨Z,Zw,Zw,Z⟩ (by have:=L.len;unfold bb;lia) (λ_ _ _=>trivial) (λx N ac G ⟨U,u,v,J⟩=>?_) λac G ⟨U,_⟩=>?_;subst U J;rfl';exact⟨_,_,Z⟩
 .subst U;rfl';rw[show (l.map λq=>az (k_ a b q))=(l.map (k_ a b)).map az by rw[Dl];rfl];refine j9 (cq:=az) (λI ac H=>H=G/\∃ Y O,l.map (k_ a b)=Y++I/\(∀ q∈Y,gu 1000 q)/\ac=[Aa (qK l),Aa (.int a),Aa (.int b),Aa (qK (l.map (k_ a b))),O]) (λx I ac G ⟨U,Y,O,J,B,E⟩=>?_) (λac G ⟨U,Y,O,J,B,E⟩=>?_) ⟨rfl,[],Zw,rfl,(λ_ h=>by cases h),rfl⟩
  .subst U E;by_cases N:gu 1000 x
   .rfl';refine qD (YT c _ (V3 x) (by rw[jU];exact Ci N)) ?_;rfl';refine⟨Z,Y++[x],_,by rw[J];simp,λq hq=>?_,Z⟩;rcases Ch.mp hq with hq|hq
    .exact B q hq
    .rw[Bz.mp hq];exact N
   .refine⟨_,_,Z,EF ((t9 Z).trans (YS c _ (V3 x) (by rw[jU];exact Bo N))) (k2 (λz=>N ?_) _)⟩;have A:x∈l.map (k_ a b):=by rw[J];simp
    obtain⟨q,hq,e⟩:=Cf.mp A;exact e▸z q hq
  .subst U E;rfl';rw[Hc] at J;exact k1 λq hq=>B _ (J▸Hi hq)
def JL (c:Cl){l:Ab Pt}(L:fw 40 l)(a b:Aq)(S:ag)(h:∀ q∈l,gu 1000 (k_ a b q)):fu c [qK l,.int a,.int b] S=.ok (qK (l.map (k_ a b))) S:=by rw[b9];exact zA (zB (ac:=[Aa (qK l),Aa (.int a),Aa (.int b),Zw,Zw]) Z (XG c L a b S (λ_=>⟨Z,Z⟩) λz=>absurd h z))
def F5 (c:Cl){l:Ab Pt}(L:fw 40 l)(a b:Aq)(S:ag)(h:¬ ∀ q∈l,gu 1000 (k_ a b q)):fu c [qK l,.int a,.int b] S=.ex (.ref c.NoPoint) .non S:=by rw[b9];exact wI (ac:=[Aa (qK l),Aa (.int a),Aa (.int b),Zw,Zw]) Z (XG c L a b S (λz=>absurd z h) λ_ ac=>⟨ac,Z⟩)
def XB (c:Cl)(d:D)(a b:Aq)(S:ag):gt c [d,.lst [.int a,.int b]] S=fu c [d,.int a,.int b] S:=by rw[eF];show jG (pc c [Aa d,Aa (.lst [.int a,.int b])] S)=_;unfold pc qN;rw[show qI 3 (fu c) (qA (qB 0) (qA (d2 bx (qB 1) (dC (.int 0))) (qA (d2 bx (qB 1) (dC (.int 1))) qC))) [Aa d,Aa (.lst [.int a,.int b])] S=fu c [d,.int a,.int b] S from Z];cases fu c [d,.int a,.int b] S <;> rfl
def FM (c:Cl){l:Ab Pt}(L:fw 40 l)(S:ag):de c [qK l] S=.ok (qK (wG (l.map sj))) S:=by
 rw[jJ];refine zA (zB (ac:=[Aa (qK l)]) Z ?_);have N:=L.len;rfl';refine qD (uQ c S (mP l) (kK (Ay _) L)) ?_;rfl';refine xC (cq:=az) (o:=Zw) l (λq=>az (sj q)) (λac Y=>Y=S/\∃ x y,ac=[x,y]) (vL Z) ⟨Z,Zw,Zw,Z⟩ (by unfold bb;lia) (λ_ _ _=>trivial) (λx G ac Y ⟨J,u,v,U⟩=>?_) λac Y ⟨J,_⟩=>?_;subst J U;rfl';exact⟨_,_,Z⟩;subst J;rfl';rw[show (l.map λq=>az (sj q))=(l.map sj).map az by rw[Dl];rfl];refine tQ (by rw[Ao];lia) ?_;rfl';exact⟨Z,Z⟩
def V4 (c:Cl){l:Ab Pt}(L:fw 40 l)(S:ag):gg c [qK l] S=.ok (qK (wG (l.map tu))) S:=by
 rw[fL];refine zA (zB (ac:=[Aa (qK l)]) Z ?_);have N:=L.len;rfl';refine qD (uQ c S (mP l) (kK (Ay _) L)) ?_;rfl';refine xC (cq:=az) (o:=Zw) l (λq=>az (tu q)) (λac Y=>Y=S/\∃ x y,ac=[x,y]) (vL Z) ⟨Z,Zw,Zw,Z⟩ (by unfold bb;lia) (λ_ _ _=>trivial) (λx G ac Y ⟨J,u,v,U⟩=>?_) λac Y ⟨J,_⟩=>?_;subst J U;rfl';exact⟨_,_,Z⟩;subst J;rfl';rw[show (l.map λq=>az (tu q))=(l.map tu).map az by rw[Dl];rfl];refine tQ (by rw[Ao];lia) ?_;rfl';exact⟨Z,Z⟩
def EC (c:Cl){l:Ab Pt}(L:fw 40 l)(v:D)(S:ag):gq c [qK l,v] S=.ok (qK (wG (l.map sj))) S:=by rw[eG];refine zA (zB (ac:=[Aa (qK l),Aa v]) Z ?_);rfl';exact qD (FM c L S) ⟨Z,Z⟩
def JK (c:Cl){l:Ab Pt}(L:fw 40 l)(v:D)(S:ag):dy c [qK l,v] S=.ok (qK (wG (l.map tu))) S:=by rw[tX];refine zA (zB (ac:=[Aa (qK l),Aa v]) Z ?_);rfl';exact qD (V4 c L S) ⟨Z,Z⟩
def EB (c:Cl){l:Ab Pt}(L:fw 40 l)(v:D)(S:ag):ce c [qK l,v] S=.ok (.str (tx l)) S:=by rw[fO];refine zA (zB (ac:=[Aa (qK l),Aa v]) Z ?_);rfl';exact qD (FZ c (Ay _) L S) ⟨Z,Z⟩
def iJ (p q:Pt):gz (az p) (az q)=decide (p=q):=by show (p.1 == q.1&&(p.2 == q.2&&Vp))=_;rw[Kv];simp[Prod.ext_iff]
def dM (l:Ab Pt):(l.map az).all (pl qY)=true:=Bg.mpr λx Y=>by obtain⟨p,_,rfl⟩:=Cf.mp Y;rfl
def ZQ (l:Ab Pt)(q:Pt):tw (az q) (.tup (l.map az))=Aa (decide (q∈l)):=by
 show (if ((l.map az).all (pl qY)&&pl qY (az q))=Vp then Aa ((l.map az).any λx=>gz x (az q)) else Zw)=_;rw[dM,Au (show (Vp&&pl qY (az q))=Vp from Z)];congr 1;rw[Kv,Zx,Bb];constructor;rintro⟨x,J,e⟩;obtain⟨p,U,rfl⟩:=Cf.mp J;rw[iJ,Bb] at e;rw[<- e];exact U;intro Y;exact⟨az q,Hi Y,by rw[iJ];exact Ci Z⟩
def bL (l:Ab Pt)(q:Pt)(S:ag):tz (az q) (.tup (l.map az)) S=.ok (.bl (decide (q∈l))) S:=by unfold tz;rw[ZQ]
def dB (l:Ab Pt)(q:Pt)(S:ag):pL (az q) (.tup (l.map az)) S=.ok (.bl (!decide (q∈l))) S:=by unfold pL;rw[ZQ]
theorem n8 {J β:Type}(f:J->β)(p:J->Ar):∀ l:Ab J,l.flatMap (λx=>if p x=Vp then [f x] else []) = (l.filter p).map f
 |[]=>rfl
 |x::l=>by rw[Ha,n8 f p l,Zp];split <;> rfl
def SM {J:Type}{cq:J->D}{o:Al (Aj × MO)}{fi:qo}{tg:DG}{t:DT}{S S1:ag}(xs:Ab J)(p:J->Ar)(C:qF->ag->Prop)(hi:fi ac S=.ok (o,xs.map cq) S1)(h0:C (xB cr ac) S1)(E:xs.length<=bb)(O:∀ ac S,C ac S->oy o S)
  (step:∀ x∈xs,∀ ac S,C ac S->Ok (tg (cq x) ac S) λY S1=>Ok (t Y S1) λb N=>b=p x/\(p x=Yp->C Y N)/\(p x=Vp->Ok (fe Y N) λd B=>d=cq x/\C Y B)) (q:∀ U G,C U G->Q (.lst ((xs.filter p).map cq)) G):Ok (zC Yp cr fi tg t (z9 fe) ac S) Q:=by
 have I:=n8 cq p xs;have v:(xs.filter p).length<=xs.length:=Lj ..;obtain⟨U,G,e,c⟩:=zb (cq:=cq) (o:=o) (g:=tg) (t:=t) (k:=z9 fe) (λx=>if p x=Vp then [cq x] else []) C O xs (xB cr ac) S1 [] h0 (by rw[I,Ao];show 0+_<=bb;lia) (λx H ac S l z E=>by
  obtain⟨Y,S1,w,b,N,u,rfl,A,y⟩:=step x H ac S z;refine⟨Y,S1,_,N,w,u,?_⟩;cases L:p x with
  |false=>exact .inl ⟨rfl,by simp,A L⟩
  |true =>
   obtain⟨d,B,M,rfl,j⟩:=y L;exact .inr ⟨rfl,Y,B,by rw[Au rfl];exact bP M (by rw[L] at E;simp at E;lia),j⟩)
 rw[I,Ji] at e;exact⟨_,_,gA hi e,q U G c⟩
def qBR {a b:Pt}{S:ag}(h:Q (.bl (!decide (a=b))) S):Ok (io (az a) (az b) S) Q:=by refine⟨_,_,?_,h⟩;unfold io;rw[Au (show (pl qY (az a)&&pl qY (az b))=Vp from Z),iJ]
def MG {P:ik->Prop}{Y:DA}{S S1:ag}(e:Y ac S=.ok ds S1)(l:ds.length=ns.length)(h:P (.ex v (.exl v ns ds) ac S1)):Wo P (pY v ns Y ac S):=by unfold pY;rw[e];show Wo P (if ds.length=ns.length then _ else _);rw[Au l];exact h
def K2 {ps:Ab Pt}{S:ag}(l:ps.length<=63)(h:Q (.lst ((wG ps).map az)) S):Ok (yH [qK ps] S) Q:=by obtain⟨d,Y,e,q⟩:=tQ (S:=S) (Q:=λd Y=>d=.lst ((wG ps).map az)/\Y=S) li ⟨rfl,rfl⟩;obtain⟨rfl,rfl⟩:=q;exact⟨_,_,e,h⟩
def qAD (c:Cl){l:Ab Pt}{q:Pt}(S:ag)(h:q∈l):ii c [qK l,.lst [az q]] S=.ex (.ref c.NoDeed) .non S:=by rw[bA];refine wI (ac:=[Aa (qK l),Aa (.lst [az q])]) Z ?_;rfl';refine xA (d:=az q) Z ?_;rfl';refine qD (bL l q S) ?_;rw[Ci h];rfl';exact wK ⟨_,Z⟩
def FH (c:Cl){l:Ab Pt}{q:Pt}(S:ag)(h:q ∉ l)(Y:l.length=40):ii c [qK l,.lst [az q]] S=.ex (.ref c.TooMany) (.exl (.ref c.TooMany) ["many","most"] [.int 41,.int 40]) S:=by rw[bA];refine wI (ac:=[Aa (qK l),Aa (.lst [az q])]) Z ?_;rfl';refine xA (d:=az q) Z ?_;rfl';refine qD (bL l q S) ?_;rw[Bo h];rfl';refine j6 (a:=l.map az) ?_;rfl';refine x3 (λ_=>?_) λe=>absurd (by rw[Ao,Y];decide) e;refine MG (ds:=[.int (((l.map az).length:Aq)+1),.int 40]) (S1:=S) Z Z ?_;refine⟨[Aa (qK l),Aa (.lst [az q])],?_⟩;rw[Ao,Y];rfl
def RJ (c:Cl){l:Ab Pt}{q:Pt}(S:ag)(h:q ∉ l)(Y:l.length<40):ii c [qK l,.lst [az q]] S=.ok (qK (wG (l++[q]))) S:=by rw[bA];refine zA (zB (ac:=[Aa (qK l),Aa (.lst [az q])]) Z ?_);rfl';refine xA (d:=az q) Z ?_;rfl';refine qD (bL l q S) ?_;rw[Bo h];rfl';refine j6 (a:=l.map az) ?_;rfl';refine x3 (λe=>absurd Y (by rw[Ao] at e;lia)) λ_=>?_;rfl';refine xA (d:=az q) Z ?_;rfl';refine mL (by rw[Ao];unfold bb;simp only[Aw,Cy];lia) ?_;rw[show D.tup (l.map az++[az q])=qK (l++[q]) by unfold qK;rw[Ds];rfl];rfl';refine K2 (ps:=l++[q]) (by rw[Az,Cu];lia) ?_;rfl';exact⟨Z,Z⟩
def M9 (c:Cl){l:Ab Pt}{q:Pt}(S:ag)(h:q ∉ l):gc c [qK l,.lst [az q]] S=.ex (.ref c.NoDeed) .non S:=by rw[g6];refine wI (ac:=[Aa (qK l),Aa (.lst [az q])]) Z ?_;rfl';refine xA (d:=az q) Z ?_;rfl';refine qD (dB l q S) ?_;rw[Bo h];rfl';exact wK ⟨_,Z⟩
def M8 (c:Cl){q:Pt}(S:ag):gc c [qK [q],.lst [az q]] S=.ex (.ref c.NoDeed) .non S:=by rw[g6];refine wI (ac:=[Aa (qK [q]),Aa (.lst [az q])]) Z ?_;rfl';refine xA (d:=az q) Z ?_;rfl';refine qD (dB [q] q S) ?_;rw[Ci (Bz.mpr Z)];rfl';refine j6 (a:=[az q]) ?_;rfl';refine x3 (λ_=>?_) λe=>absurd Z e;exact wK ⟨_,Z⟩
def TH {l:Ab Pt}(N:l.length<=40){ac:qF}{S:ag}{i:Aj}(h0:ac[0]? = Aa (Aa (qK l)))(hi:ac[i]? = Aa (Aa (.lst [az q])))(h:Q (.lst ((l.filter λp=>!decide (p=q)).map az)) S) :
  Ok (zC Yp [Zw,Aa i] (je (qB 0)) (bc 0) (yW (bg (d2 io (qB 0) (d2 bx (qB 1) (dC (.int 0))))) zX) (z9 (qB 0)) ac S) Q:=by
 refine SM (cq:=az) (o:=Zw) l (λp=>!decide (p=q)) (λac Y=>Y=S/\∃ x,ac=[x,Aa (.lst [az q])]) (vL h0) ⟨Z,Zw,by simp[xB,hi]⟩ (by unfold bb;lia) (λ_ _ _=>trivial) (λx G ac Y ⟨J,u,U⟩=>?_) λac Y ⟨J,_⟩=>J▸h;subst J U;rfl';refine oJ ?_;rfl';refine xA (d:=az q) rfl ?_;refine qBR ?_;refine⟨_,rfl,λe=>?_,λe=>?_⟩;rfl';exact⟨e.symm,(λz=>by rw[e] at z;cases z),λ_=>⟨_,_,rfl,rfl,rfl,_,rfl⟩⟩;exact⟨e.symm,(λ_=>⟨rfl,_,rfl⟩),λz=>by rw[e] at z;cases z⟩
def MA (c:Cl){l:Ab Pt}{q:Pt}(S:ag)(h:q∈l)(J:l.length≠1)(Y:l.length<=40):gc c [qK l,.lst [az q]] S=.ok (qK (l.filter λp=>!decide (p=q))) S:=by rw[g6];refine zA (zB (ac:=[Aa (qK l),Aa (.lst [az q])]) Z ?_);rfl';refine xA (d:=az q) Z ?_;rfl';refine qD (dB l q S) ?_;rw[Ci h];rfl';refine j6 (a:=l.map az) ?_;rfl';refine x3 (λe=>absurd e (by rw[Ao];lia)) λ_=>?_;rfl';refine TH Y Z Z ?_;rfl';exact⟨Z,Z⟩
def RI {l:Ab Pt}(L:fw 40 l){q:Pt}(Y:gu 1000 q)(h:q ∉ l)(G:l.length<40):fw 40 (wG (l++[q])):=by
 refine YL aA (by rw[Az,Cu];lia) ?_ λp hp=>?_;rw[Ri];exact⟨sG L.up,Nk _ q,λa J b U e=>h (by rw[<- Bz.mp U,<- e];exact J)⟩
 .rcases Ch.mp hp with hp|hp
  .exact L.box p hp
  .rw[Bz.mp hp];exact Y
def M7 {l:Ab Pt}(L:fw 40 l){q:Pt}(h:q∈l)(U:l.length≠1):fw 40 (l.filter λp=>!decide (p=q)):=by
 refine⟨λz=>?_,Ca (Lj ..) L.len,L.up.filter _,λp J=>L.box p (Ow.mp J).1⟩;have Y:∀ p∈l,p=q:=λp J=>by have:=Ug.mp z p J;simpa using this
 match l,h,U,Y,sG L.up with
 |[],h,_,_,_=>cases h
 |[a],_,U,_,_=>exact U rfl
 |a::b::r,_,_,Y,G =>
  have O:=Y a (.head _);have N:=Y b (.tail _ (.head _));rw[O,N] at G;exact(Hd.mp G).1 (.head _)
def DW (a b c d:Aq):_H.lexLt [a,b] [c,d]=(if a=c then decide (b<d) else decide (a<c)):=by
 rw[_H.dz];by_cases h:a=c
 .rw[Au h,Au h,_H.dz];by_cases Y:b=d
  .rw[Au Y,_H.jh];symm;rw[Nl];fin2
  .rw[AT Y]
 .rw[AT h,AT h]
def N1 {l:Ab Pt}(h:Up l){a b:Aq}:Up (l.map (k_ a b)):=by
 refine Ee.mpr (h.imp λ{x y} e=>?_);have e:_H.lexLt [x.1,x.2] [y.1,y.2]=true:=e;show _H.lexLt [x.1+a,x.2+b] [y.1+a,y.2+b]=Vp;rw[DW] at e ⊢;by_cases z:x.1=y.1;rw[Au z,Bb] at e;rw[Au om,Bb];fin2;rw[AT z,Bb] at e;rw[AT om,Bb];fin2
def oA {l:Ab Pt}(L:fw 40 l){a b:Aq}(h:∀ q∈l,gu 1000 (k_ a b q)):fw 40 (l.map (k_ a b)):=by
 refine⟨λz=>L.ne (Mj.mp z),by rw[Ao];exact L.len,?_,λp J=>?_⟩;exact N1 L.up;obtain⟨q,Y,rfl⟩:=Cf.mp J;exact h q Y
def MD {l:Ab Pt}(L:fw 40 l):fw 40 (wG (l.map sj)):=by
 refine YL (λz=>L.ne (Mj.mp z)) (by rw[Ao];exact L.len) ?_ λp J=>?_;exact Ee.mpr ((sG L.up).imp λ{x y} e z=>e (by unfold sj at z;rw[AaI] at z;exact ZB z.2 (by have:=z.1;lia)));obtain⟨q,Y,rfl⟩:=Cf.mp J;have:=L.box q Y;unfold gu at this ⊢;unfold sj;dsimp only;lia
def YR {l:Ab Pt}(L:fw 40 l):fw 40 (wG (l.map tu)):=by
 refine YL (λz=>L.ne (Mj.mp z)) (by rw[Ao];exact L.len) ?_ λp J=>?_;exact Ee.mpr ((sG L.up).imp λ{x y} e z=>e (by unfold tu at z;rw[AaI] at z;exact ZB z.2 z.1));obtain⟨q,Y,rfl⟩:=Cf.mp J;have:=L.box q Y;unfold gu at this ⊢;unfold tu;dsimp only;lia
def E6 {l:Ab Pt}(h:Up l):wG l=l:=by
 have e:=_S.b7 _S.jF (Ee.mpr h) (Ee.mpr (W9 (sG h))) λx=>((mU l).map kP).mem_iff.symm;have f:∀ m:Ab Pt,(m.map kP).map pK=m:=λm=>by rw[Dl];exact Jc m
 exact(f _).symm.trans ((congrArg (xL pK) e.symm).trans (f l))
def i7 {Q:ik->Prop}{l:Ab Pt}{q:Pt}(J:l.length<=40)(S:ag)(k1:q∈l->Q (.rt (.str "deed") S))(k2:q ∉ l->l.length=40->Q (.rt (.lst [.str "many",.int 41,.int 40]) S))(k3:q ∉ l->l.length<40->Q (.rt (qK (wG (l++[q]))) S)):Wo Q (br [Aa (qK l),Aa (.str "put"),Aa (.lst [az q]),Zw] S):=by
 rfl';refine qD (uY _ S) ?_;rfl';refine xA (d:=az q) Z ?_;rfl';refine qD (bL l q S) ?_;rfl';refine x3 (λe=>?_) λe=>?_;rfl';exact k1 e
 .rfl';refine vC ?_;rfl';refine j6 (a:=l.map az) ?_;rfl';refine⟨λz=>?_,λz=>?_⟩
  .rfl';exact k2 e (by simp at z;lia)
  .rfl';refine xA (d:=az q) Z ?_;rfl';refine mL (by rw[Ao];unfold bb;simp only[Aw,Cy];lia) ?_;rw[show D.tup (l.map az++[az q])=qK (l++[q]) by unfold qK;rw[Ds];rfl];rfl';refine K2 (ps:=l++[q]) (by rw[Az,Cu];lia) ?_;rfl';have Y:¬ l.length=40:=by simp at z;lia
   exact k3 e li
def sL {Q:ik->Prop}{l:Ab Pt}{q:Pt}(Y:l.length<=40)(S:ag)(k1:q ∉ l\/l.length=1->Q (.rt (.str "deed") S))(k2:q∈l->l.length≠1->Q (.rt (qK (l.filter λp=>!decide (p=q))) S)):Wo Q (br [Aa (qK l),Aa (.str "take"),Aa (.lst [az q]),Zw] S):=by
 rfl';refine qD (d:=.bl Yp) (S:=S) (by kernel_rfl!) ?_;rfl';refine qD (uY _ S) ?_;rfl';refine xN ?_;rfl';refine xA (d:=az q) Z ?_;rfl';refine qD (dB l q S) ?_;refine⟨_,Z,λe=>?_,λe=>?_⟩;rfl';exact k1 (.inl (by simpa using e))
 .rfl';refine j6 (a:=l.map az) ?_;rfl';refine x3 (λz=>?_) λz=>?_
  .rfl';exact k1 (.inr (by simp at z;lia))
  .rfl';refine TH Y Z Z ?_;rfl';exact k2 (by simpa using e) (by simp at z;lia)
def ZC {Q:ik->Prop}{l:Ab Pt}(L:fw 40 l)(a b:Aq)(S:ag)(k1:(∀ q∈l,gu 1000 (k_ a b q))->Q (.rt (qK (l.map (k_ a b))) S))(k2:¬ (∀ q∈l,gu 1000 (k_ a b q))->Q (.rt (.str "point") S)):Wo Q (br [Aa (qK l),Aa (.str "move"),Aa (.lst [.int a,.int b]),Zw] S):=by
 have O:=L.len;rfl';refine qD (d:=.bl Yp) (S:=S) (by kernel_rfl!) ?_;rfl';refine qD (d:=.bl Yp) (S:=S) (by kernel_rfl!) ?_;rfl';refine qD (uY _ S) ?_;rfl';refine xC (cq:=az) (o:=Zw) l (λq=>az (k_ a b q)) (λac J=>J=S/\∃ x y,ac=[x,y,Aa (.lst [.int a,.int b])]) (vL Z) ⟨Z,Zw,Zw,Z⟩ (by unfold bb;lia) (λ_ _ _=>trivial) (λx N ac J ⟨Y,u,v,G⟩=>?_) λac J ⟨Y,_⟩=>?_;subst Y G;rfl';refine xA (d:=.int a) Z ?_;rfl';refine xA (d:=.int b) Z ?_;rfl';exact⟨_,_,Z⟩
 .subst Y;rfl';rw[show (l.map λq=>az (k_ a b q))=(l.map (k_ a b)).map az by rw[Dl];rfl];refine tQ (by rw[Ao];lia) ?_;rw[E6 (N1 L.up)];rfl';refine vC ?_;rfl';refine qD (cA (mP (l.map (k_ a b))) _) ?_;rfl';refine⟨λz=>?_,λz=>?_⟩
  .rfl';refine k1 λq U=>Ez λn=>?_;have:=DX (x:=az (k_ a b q)) (Hi (f:=az) (Hi (f:=k_ a b) U)) (by rw[jU];exact Bo n);rw[show wA (.tup ((l.map (k_ a b)).map az))=Vp from z] at this;cases this
  .rfl';refine k2 λh=>?_;rw[kK (Ay _) (oA L h)] at z;cases z
def NO {Q:ik->Prop}{l:Ab Pt}(L:fw 40 l)(v:D)(S:ag)(k:Q (.rt (qK (wG (l.map sj))) S)):Wo Q (br [Aa (qK l),Aa (.str "turn"),Aa v,Zw] S):=by
 have N:=L.len;rfl';refine qD (d:=.bl Yp) (S:=S) (by kernel_rfl!) ?_;rfl';refine qD (d:=.bl Yp) (S:=S) (by kernel_rfl!) ?_;rfl';refine qD (d:=.bl Yp) (S:=S) (by kernel_rfl!) ?_;rfl';refine xC (cq:=az) (o:=Zw) l (λq=>az (sj q)) (λac Y=>Y=S/\∃ x y,ac=[x,y,Aa (.str "turn")]) (vL Z) ⟨Z,Zw,Zw,Z⟩ (by unfold bb;lia) (λ_ _ _=>trivial) (λx G ac Y ⟨J,u,v,U⟩=>?_) λac Y ⟨J,_⟩=>?_;subst J U;rfl';refine vC ?_;rfl';refine qD (uY _ _) ?_;rfl';refine⟨λ_=>?_,λz=>by cases z⟩;rfl';exact⟨by unfold sj az;simp,Z,_,_,Z⟩;subst J;rfl';rw[show (l.map λq=>az (sj q))=(l.map sj).map az by rw[Dl];rfl];refine tQ (by rw[Ao];lia) ?_;rfl';exact k
def U2 {Q:ik->Prop}{l:Ab Pt}(L:fw 40 l)(v:D)(S:ag)(k:Q (.rt (qK (wG (l.map tu))) S)):Wo Q (br [Aa (qK l),Aa (.str "mirror"),Aa v,Zw] S):=by
 have N:=L.len;rfl';refine qD (d:=.bl Yp) (S:=S) (by kernel_rfl!) ?_;rfl';refine qD (d:=.bl Yp) (S:=S) (by kernel_rfl!) ?_;rfl';refine qD (d:=.bl Yp) (S:=S) (by kernel_rfl!) ?_;rfl';refine xC (cq:=az) (o:=Zw) l (λq=>az (tu q)) (λac Y=>Y=S/\∃ x y,ac=[x,y,Aa (.str "mirror")]) (vL Z) ⟨Z,Zw,Zw,Z⟩ (by unfold bb;lia) (λ_ _ _=>trivial) (λx G ac Y ⟨J,u,v,U⟩=>?_) λac Y ⟨J,_⟩=>?_;subst J U;rfl';refine vC ?_;rfl';refine qD (d:=.bl Yp) (S:=Y) (by kernel_rfl!) ?_;rfl';refine⟨(λz=>by cases z),λ_=>?_⟩;rfl';exact⟨_,_,Z⟩;subst J;rfl';rw[show (l.map λq=>az (tu q))=(l.map tu).map az by rw[Dl];rfl];refine tQ (by rw[Ao];lia) ?_;rfl';exact k
structure be (c:Cl)(o j:Aj)(ls:Ab (Ab Pt))(S:ag):Prop where
 ob:S[o]? = Aa (.ins c.Desk [("lots",.loc j)])
 ls:S[j]? = Aa (.lst (ls.map qK))
 ne:o≠j
def dG {S:ag}(h:be c o j ls S)(q:Q (.loc j) S):Ok (yJ c.Desk "lots" (.loc o) S) Q:=by
 refine⟨_,_,?_,q⟩;have e:yZ (.loc o) S=Aa (c.Desk,[(("lots" : Ah),D.loc j)]):=by show (match S[o]? with|some (.ins C Y)=>Aa (C,Y)|_=>Zw)=_;rw[h.ob]
 unfold yJ;rw[e];show (if c.Desk=c.Desk then _ else _)=_;rw[Au Z];rfl
def nU {S:ag}(h:be c o j ls S):be c o j Y (S.set j (.lst (Y.map qK))):=by have J:=(Bw.mp h.ls).1;exact⟨by rw[Di (Dm h.ne)];exact h.ob,by simp[J],h.ne⟩
def DJ (c:Cl){o j:Aj}{ls:Ab (Ab Pt)}{S:ag}(h:be c o j ls S)(J:ls.length<1000)(l:Ab Pt):bn c [.loc o,qK l] S=.ok (.str "ok") (S.set j (.lst ((ls++[l]).map qK))):=by
 rw[gX];refine pX (ac:=[Aa (.loc o),Aa (qK l)]) Z ?_;have e:Wo (λY=>Y=.rt (.str "ok") (S.set j (.lst ((ls++[l]).map qK)))) (jd c [Aa (.loc o),Aa (qK l)] S):=by rfl';refine dG h ?_;rfl';refine⟨by simp[pi,h.ls],?_⟩;rfl';refine aH h.ls (by rw[Ao];unfold bb;lia) ?_;rfl';rw[Ds];rfl
 exact e
def WD (c:Cl){o j:Aj}{l:Ab Pt}{S:ag}(h:be c o j [l] S):bv c [.loc o] S=.ex (.ref c.NoDeed) .non S:=by rw[uI];refine wI (ac:=[Aa (.loc o)]) Z ?_;rfl';refine dG h ?_;rfl';refine JX h.ls ?_;rfl';refine x3 (λ_=>?_) λe=>absurd Z e;exact wK ⟨_,Z⟩
def qBT {j:Aj}{xs:Ab D}{x:D}{S:ag}(h:S[j]? = Aa (.lst (xs++[x])))(q:Q x (S.set j (.lst xs))):Ok (lQ (.loc j) [] S) Q:=by refine⟨_,_,?_,q⟩;simp[lQ,h]
def QM (c:Cl){o j:Aj}{ls:Ab (Ab Pt)}{l:Ab Pt}{S:ag}(h:be c o j (ls++[l]) S)(Y:ls≠[])(U:ls.length<1000):bv c [.loc o] S=.ok (.str "ok") (S.set j (.lst (ls.map qK))):=by
 rw[uI];refine pX (ac:=[Aa (.loc o)]) Z ?_;have e:Wo (λJ=>J=.rt (.str "ok") (S.set j (.lst (ls.map qK)))) (jc c [Aa (.loc o)] S):=by
  rfl';refine dG h ?_;rfl';refine JX h.ls ?_;rfl';refine x3 (λe=>?_) λe=>?_;have:=Gg.mpr Y;rw[Ao,Az,Cu] at e;lia;rfl';refine aI ?_;rfl';refine dG h ?_;refine⟨by simp[pi,h.ls],?_⟩;refine qBT (xs:=ls.map qK) (x:=qK l) (by rw[h.ls,Ds];rfl) ?_;rfl';rfl
 exact e
theorem ZH {c:Aj}:∀ {a b x y:Ab Aj},c ∉ a->c ∉ b->a++c::x=b++c::y->a=b/\x=y
 |[],[],x,y,_,_,h=>⟨rfl,(Gh h).2⟩
 |[],b::r,x,y,_,J,h=>absurd (by rw[(Gh h).1];exact .head _) J
 |a::r,[],x,y,Y,_,h=>absurd (by rw[<- (Gh h).1];exact .head _) Y
 |a::r,b::s,x,y,Y,J,h=>by obtain⟨e,k⟩:=Gh h;obtain⟨U,G⟩:=ZH (λz=>Y (.tail _ z)) (λz=>J (.tail _ z)) k;exact⟨by rw[e,U],G⟩
def jn (c:Aj):Ab (Ab Aj)->Ab Aj
 |[]=>[]
 |[a]=>a
 |a::b::r=>a++c::jn c (b::r)
theorem zz {c:Aj}:∀ {A B:Ab (Ab Aj)},A≠[]->B≠[]->(∀ a∈A,c ∉ a)->(∀ b∈B,c ∉ b)->jn c A=jn c B->A=B
 |[],_,G,_,_,_,_=>absurd rfl G
 |_,[],_,O,_,_,_=>absurd rfl O
 |[a],[b],_,_,_,_,h=>by rw[show a=b from h]
 |[a],b::d::r,_,_,Y,_,h=>absurd (by rw[show a=b++c::jn c (d::r) from h];simp) (Y a (.head _))
 |a::d::r,[b],_,_,_,J,h=>absurd (by rw[show b=a++c::jn c (d::r) from h.symm];simp) (J b (.head _))
 |a::d::r,b::e::s,_,_,Y,J,h=>by obtain⟨N,k⟩:=ZH (Y a (.head _)) (J b (.head _)) h;rw[N,zz aA aA (λz U=>Y z (.tail _ U)) (λz U=>J z (.tail _ U)) k]
theorem X5 (c:Aj):∀ l:Ab Ah,(Str.join ⟨#[c]⟩ l).cps.toList=jn c (l.map (·.cps.toList))
 |[]=>rfl
 |[x]=>rfl
 |x::y::r=>by show (x++⟨#[c]⟩++Str.join ⟨#[c]⟩ (y::r)).cps.toList=x.cps.toList++c::jn c ((y::r).map (·.cps.toList));rw[zS,zS,X5 c (y::r)];simp
def lC {x:Ah}{c:Aj}{ps:Y8}(O:ps≠[])(h:∀ p∈ps,c ∉ p.cps.toList)(e:x.cps.toList=jn c (ps.map (·.cps.toList))):Txt.split x ⟨#[c]⟩=ps:=by
 have G:=X5 c (Txt.split x ⟨#[c]⟩);rw[StrLaws.join_split,e] at G;have N:Txt.split x ⟨#[c]⟩≠[]:=λz=>by have:=W4 x ⟨#[c]⟩;rw[z] at this;cases this
 have k:=zz (by simpa using N) (by simpa using O) (λa Y=>by
  obtain⟨p,J,rfl⟩:=Cf.mp Y;exact StrLaws.split_free x c p J) (λa Y=>by
  obtain⟨p,J,rfl⟩:=Cf.mp Y;exact h p J) G.symm
 have U:∀ A B:Ab Ah,A.map (·.cps.toList)=B.map (·.cps.toList)->A=B:=λA B z=>by
  induction A generalizing B with
  |nil=>cases B with
   |nil=>rfl
   |cons b B=>cases z
  |cons a A L=>cases B with
   |nil=>cases z
   |cons b B =>
    have q:=Gh z;rw[v8 q.1,L B q.2]
 exact U _ _ k
def VG:(" " : Ah)=⟨#[32]⟩:=by decide
structure rq (w:Ah):Prop where
 asc:fg w
 len:w.length<=100
 sp:32 ∉ w.cps.toList
 ne:w ≠ ""
def KS {k:Ah}(J:32 ∉ k.cps.toList):Txt.split k " " = [k]:=by rw[VG];exact lC aA (λp Y=>by rw[Bz.mp Y];exact J) Z
def RC (l:Y8):(l.map D.str).all (pl qY)=true:=Bg.mpr λx Y=>by obtain⟨p,_,rfl⟩:=Cf.mp Y;rfl
def ZS (l:Y8)(y:Ah)(S:ag):tz (.str y) (.lst (l.map .str)) S=.ok (.bl (decide (y∈l))) S:=by
 unfold tz;have e:tw (.str y) (.lst (l.map .str))=Aa (decide (y∈l)):=by
  show (if ((l.map D.str).all (pl qY)&&pl qY (.str y))=Vp then Aa ((l.map D.str).any λx=>gz x (.str y)) else Zw)=_;rw[RC,Au (show (Vp&&pl qY (.str y))=Vp from Z)];congr 1;rw[Kv,Zx,Bb];constructor;rintro⟨x,J,e⟩;obtain⟨p,G,rfl⟩:=Cf.mp J;have U:(p == y)=true:=e;rw[<- eq_of_beq U];exact G;intro Y;exact⟨.str y,Hi Y,(show (y == y)=Vp from Em y)⟩
 rw[e]
def sE (h:Dc k T=Aa d)(S:ag):vB T (.str k) S=.ok d S:=by show (match Dc k T with|some x=>ax.ok x S|none=>ax.bad)=_;rw[h]
def MI (c:Cl){x k f:Ah}{ws:Y8}(sp:Txt.split x " " = k::ws)(U:("" : Ah) ∉ k::ws)(J:Fm k zV=Vp)(Y:Dc k zV=Aa (.str f))(G:f.length=ws.length)(O:x.length<=640)(N:ws.length<=5)(S:ag):ec c [.str x] S=.ok (.lst ((k::ws).map .str)) S:=by rw[jD];refine zA (zB (ac:=[Aa (.str x),Zw]) Z ?_);rfl';refine tP li aC ?_;rw[sp];rfl';refine xN ?_;rfl';refine qD (ZS (k::ws) "" S) ?_;rw[Bo U];rfl';refine⟨(λz=>by cases z),λ_=>?_⟩;refine xN ?_;rfl';refine xA (d:=.str k) (kB (D.str k) (ws.map D.str)) ?_;refine qD (d:=.bl (!PyProof.Rows.KTD.inKeys k zV)) (S:=S) rfl ?_;rw[J];refine⟨_,rfl,(λz=>by cases z),λ_=>?_⟩;rfl';refine xA (d:=.str k) (kB (D.str k) (ws.map D.str)) ?_;rfl';refine qD (sE Y S) ?_;rfl';refine pS li ?_;rfl';refine x3 (λ_=>?_) λe=>absurd (by rw[Ao,Aw,G];lia) e;rfl';exact⟨Z,Z⟩
def EN {S:ag}{k f:Ah}{ws:Y8}(e:ac[0]? = Aa (Aa (.lst ((k::ws).map .str))))(J:Dc k zV=Aa (.str f))(N:ws.length<=5)(U:f.cps.all (· < 128)=Vp):wB (lM (qA (d1 (vB zV) (d2 bx (qB 0) (dC (.int 0)))) (qA (nv (qB 0) (zF (dC (.int 1))) zM) qC))) ac S=.ok (Zw,yL (y9 f) (ws.map .str)) S:=by
 have a:Ok (d1 (vB zV) (d2 bx (qB 0) (dC (.int 0))) ac S) λd Y=>d=.str f/\Y=S:=by refine o_1 (o_2 (o_v e ?_));rfl';refine xA (d:=.str k) (kB (D.str k) (ws.map D.str)) ?_;exact qD (sE J S) ⟨Z,Z⟩
 have b:nv (qB 0) (zF (dC (.int 1))) zM ac S=.ok (.lst (ws.map .str)) S:=by refine zA (O0 (o_v e ?_));rfl';rw[ya];exact⟨Z,Z⟩
 have G:=zA a;simp only[wB,lM,qA,qC,G,b,ax.bind,VS,U,Dr];rfl
def XX (f:DE)(d:D)(S:ag):qM 1 (qN f) [d] S=f [Aa d] S:=by show jG (qN f [Aa d] S)=_;unfold qN;cases f [Aa d] S <;> rfl
theorem ZM {J:Type}{cq:J->D}{g:DG}{S:ag}(dn:J->D)(dc:J->Ar)(B:Ac)(C:qF->Prop):∀ (xs:Ab J) (ac:qF) (aq:Ab D),C ac->aq.length+xs.length<=bb ->
  (∀ x∈xs,∀ ac,C ac->∃ Y,g (cq x) ac S=.ok Y S/\C Y/\fe Y S=(if dc x=Vp then .ok (dn x) S else .ex B .non S)) ->
  ∃ U,iu Zw g zX (z9 fe) (xs.map cq) ac S aq=if xs.all dc=Vp then .ok (U,aq++xs.map dn) S else .ex B .non S
 |[],ac,aq,_,_,_=>⟨ac,by simp[iu,yT.mpr (show oy Zw S from trivial)]⟩
 |x::xs,ac,aq,A,w,step=>by
  have G:lD Zw S=true:=yT.mpr (show oy Zw S from trivial);obtain⟨Y,L,E,N⟩:=step x (.head _) ac A;rw[Aw] at w;cases O:dc x with
  |false =>
   refine⟨ac,?_⟩;rw[O] at N;simp only[Ej,iu,G,Dr,L,zX,z9,N,Bt,Dq,ax.bind,Ik,O,Gv]
  |true =>
   rw[O] at N;obtain⟨U,I⟩:=ZM dn dc B C xs Y (aq++[dn x]) E (by rw[Az,Cu];lia) λy H=>step y (.tail _ H);refine⟨U,?_⟩;have M:aq.length<bb:=by lia
   simp only[Ej,iu,G,Dr,L,zX,z9,N,ax.bind,M,I,Ik,O,AaG,Ia,List.singleton_append]
def wa (w:Ah):Ar:=match mf w with
 |.int _=>Vp
 |_=>Yp
def xx (w:Ah):Ar:=xG (mr w)
def rN (w:Ah):(∃ n:Aq,mf w=.int n)\/mf w=.non:=by
 unfold mf;split
 .split
  .exact .inl ⟨_,Z⟩
  .exact .inr Z
 .exact .inr Z
def XO (w:Ah):(∃ q,mr w=az q/\gu 1000 q)\/mr w=.non:=by
 cases h:xG (mr w) with
 |true =>
  obtain⟨q,e,b⟩:=l5 h;exact .inl ⟨q,e,b⟩
 |false=>exact .inr (qAB h)
abbrev gH (c:Cl):DE:=mh (bg (d2 fx (qB 0) (dC (.str "P")))) (qI 1 (kh (df c)) (qA (qB 1) qC)) (qI 1 (kh (ci c)) (qA (qB 1) qC))
def qAY (c:Cl){w:Ah}(hw:rq w)(S:ag):gH c [Aa (.str "N"),Aa (.str w)] S=if wa w=Vp then .ok (mf w) S else .ex (.ref c.NoNumber) .non S:=by
 have Y:=hw.len;have e:gH c [Aa (.str "N"),Aa (.str w)] S=ci c [.str w] S:=by kernel_rfl!
 rw[e];unfold wa;rcases rN w with⟨n,h⟩|h
 .rw[SH c hw.asc li S h,h];rfl
 .rw[IX c hw.asc li S h,h];rfl
def qAZ (c:Cl){w:Ah}(hw:rq w)(S:ag):gH c [Aa (.str "P"),Aa (.str w)] S=if xx w=Vp then .ok (mr w) S else .ex (.ref c.NoPoint) .non S:=by
 have Y:=hw.len;have e:gH c [Aa (.str "P"),Aa (.str w)] S=df c [.str w] S:=by kernel_rfl!
 rw[e];unfold xx;rcases XO w with⟨q,h,b⟩|h
 .rw[RF c hw.asc li S h,h,jU,Ci b];rfl
 .rw[OX c hw.asc li S h,h];rfl
def WE (c:Cl){k f:Ah}{ws:Y8}(kd:Ah)(dn:Ah->D)(dc:Ah->Ar)(Y:Ac)(U:Dc k zV=Aa (.str f))(G:f.cps.all (· < 128)=Vp)(hz:yL (y9 f) (ws.map .str)=ws.map λp=>D.tup [.str kd,.str p])(O:ws.length<=5)
  (step:∀ w∈ws,∀ S,gH c [Aa (.str kd),Aa (.str w)] S=if dc w=Vp then .ok (dn w) S else .ex Y .non S) (S:ag):bw c [.lst ((k::ws).map .str)] S=if ws.all dc=Vp then .ok (.lst (ws.map dn)) S else .ex Y .non S:=by
 rw[pG,ix,XX];have hi:=EN (ac:=[Aa (.lst ((k::ws).map .str))]) (S:=S) rfl U O G;rw[hz] at hi;unfold zC;rw[hi];obtain⟨J,e⟩:=ZM (S:=S) (cq:=λp:Ah=>D.tup [.str kd,.str p]) (g:=lg 2 (qZ (bc 0) (qZ (bc 1) xF))) (fe:=gH c) dn dc Y (λac=>∃ x y,ac=[x,y]) ws (xB [Zw,Zw] [Aa (.lst ((k::ws).map .str))]) [] ⟨Zw,Zw,rfl⟩ (by unfold bb;simp only[Cy];lia) λw N ac ⟨x,y,h⟩=>by subst h;exact⟨_,rfl,⟨_,_,rfl⟩,step w N S⟩
 show xw Yp (iu Zw (lg 2 (qZ (bc 0) (qZ (bc 1) xF))) zX (z9 (gH c)) (ws.map λp:Ah=>D.tup [.str kd,.str p]) (xB [Zw,Zw] [Aa (.lst ((k::ws).map .str))]) S []) = _;rw[e];cases ws.all dc <;> rfl
def DY (h:wA d=Vp):∃ l,d=qK l/\fw 40 l:=by
 cases d with
 |tup Y =>
  have e:(decide (1<=Y.length/\Y.length<=40)&&Y.all xG&&(match wF Y with|some O=>ph O|none=>Yp))=true:=h;rw[Ax,Ax,Bb] at e;obtain⟨G,rfl,N⟩:=_D.kN e.1.2;have U:=e.2;rw[j3,vW] at U;have u:=(sF _).mp U;rw[Ee] at u;have J:=e.1.1;rw[Ao] at J;exact⟨G,rfl,λz=>by rw[z] at J;exact absurd J.1 aC,J.2,u,N⟩
 |_=>cases h
def N3 {x:Ah}(h:4<=x.length):(Txt.slice x Zw (Aa 4)).cps.toList=x.cps.toList.take 4:=congrArg (·.cps.toList) (Vo (x:=x) (j:=4) ⟨by decide,by rw[zY];lia⟩)
def qBu {x:Ah}(h:4<=x.length):(Txt.slice x (Aa 4) Zw).cps.toList=x.cps.toList.drop 4:=by refine(congrArg (·.cps.toList) (Uh (x:=x) (i:=4) ⟨by decide,by rw[zY];lia⟩)).trans ?_;show Yr _ (x.cps.toList.drop 4)=_;rw[Fy];rw[Gq,zY];show x.length-4<=((x.length:Aq)-4).toNat;lia
def bT:("lot " : Ah).cps.toList=[108,111,116,32]:=by decide
def eI:("back" : Ah).cps.toList=[98,97,99,107]:=by decide
def jS (x:Ah):Txt.startswith x "lot " = decide (x.cps.toList.take 4=[108,111,116,32]):=by
 have e:Nw x "lot " 0=decide (x.cps.toList.take 4=[108,111,116,32]):=by rw[StrLaws.subAt_eq,bT];show (x.cps.toList.take 4 == [108,111,116,32])=_;by_cases h:x.cps.toList.take 4=[108,111,116,32] <;> simp[h]
 show (decide (0+("lot " : Ah).length<=x.length)&&Nw x "lot " 0)=_;rw[e];by_cases h:x.cps.toList.take 4=[108,111,116,32];have:=congrArg Gm h;rw[Fo,zY] at this;rw[Ci h,Ci (show 0+("lot " : Ah).length<=x.length by simp only[Aw,Cy] at this;show 0+4<=_;lia)];rfl;rw[Bo h,Hu]
structure e_ (x t:Ah):Prop where
 cs:x.cps.toList=[108,111,116,32]++t.cps.toList
 asc:fg x
 len:x.length<=640
section
variable {x t:Ah}
def e_.l4 (h:e_ x t):4<=x.length:=by have:=congrArg Gm h.cs;rw[zY,Az] at this;simp only[Aw,Cy] at this;lia
def e_.tasc (h:e_ x t):fg t:=λc Y=>h.asc c (by rw[h.cs];exact Cb _ Y)
def e_.tlen (h:e_ x t):t.length<=640:=by have:=congrArg Gm h.cs;rw[zY,Az,zY] at this;have:=h.len;lia
def e_.t4 (h:e_ x t):Txt.slice x Zw (Aa 4) = "lot ":=v8 (by rw[N3 h.l4,h.cs,bT];rfl)
def e_.f4 (h:e_ x t):Txt.slice x (Aa 4) Zw=t:=v8 (by rw[qBu h.l4,h.cs];rfl)
def e_.st (h:e_ x t):Txt.startswith x "lot " = true:=by rw[jS,h.cs];rfl
def e_.rm (h:e_ x t):Txt.removeprefix x "lot " = t:=by
 rw[Tn,Au (show (decide (0+("lot " : Ah).length<=x.length)&&Nw x "lot " 0)=Vp from h.st)];refine v8 ?_;show Yr _ (x.cps.toList.drop 4)=_;rw[h.cs,Fy];rfl;rw[<- h.cs,Gq,zY];exact Ay _
def e_.nb (h:e_ x t):x ≠ "back":=λz=>by have:=h.cs;rw[z,eI] at this;cases this
end
structure Ln (x k:Ah)(ws:Y8):Prop where
 cs:x.cps.toList=k.cps.toList++ws.flatMap λw=>32::w.cps.toList
 wo:∀ w∈ws,rq w
 two:ws.length<=2
def BO (k:Ah)(ws:Y8):jn 32 ((k::ws).map (·.cps.toList))=k.cps.toList++ws.flatMap λw=>32::w.cps.toList:=by
 induction ws generalizing k with
 |nil=>exact(Hc _).symm
 |cons w ws Y =>
  show k.cps.toList++32::jn 32 ((w::ws).map (·.cps.toList))=_;rw[Y w];rfl
def Ln.spl (h:Ln x k ws)(Y:32 ∉ k.cps.toList):Txt.split x " " = k::ws:=by
 rw[VG];refine lC aA (λp hp=>?_) (h.cs.trans (BO k ws).symm);rcases Av.mp hp with rfl|hp
 .exact Y
 .exact(h.wo p hp).sp
def Ln.len (h:Ln x k ws)(G:k.length<=100):x.length<=640:=by
 have e:=congrArg Gm h.cs;rw[zY,Az,zY] at e;have:∀ l:Ab Ah,(∀ w∈l,rq w)->(l.flatMap λw=>32::w.cps.toList).length<=l.length*101:=λl=>by
  induction l with
  |nil=>intro _;exact EQ _
  |cons w l U =>
   intro Y;have O:=U λy J=>Y y (.tail _ J);have N:=(Y w (.head _)).len;rw[Ha,Az,Aw,Aw,zY];lia
 have:=this ws h.wo;have:=h.two;lia
def Ln.no4 (h:Ln x k ws){a:Aj}(U:k.cps.toList.head? = Aa a)(G:a≠108):Txt.startswith x "lot " = Yp/\(4<=x.length->Txt.slice x Zw (Aa 4) ≠ "lot "):=by
 have Y:x.cps.toList.head? = Aa a:=by rw[h.cs,Ys,U];rfl
 have n:x.cps.toList.take 4≠[108,111,116,32]:=λz=>by
  cases q:x.cps.toList with
  |nil=>rw[q] at z;cases z
  |cons c r =>
   rw[q] at z Y;cases Y;exact G (Gh z).1
 refine⟨by rw[jS,Bo n],λJ z=>n ?_⟩;rw[<- N3 J,z,bT]
def ZY (x:Ah)(S:ag):zQ [.str x,.ty "tuple"] S=.ok (.bl Yp) S:=by kernel_rfl!
def D8 (xs:Ab D)(S:ag):zQ [.lst xs,.ty "tuple"] S=.ok (.bl Yp) S:=by kernel_rfl!
def D9 (xs:Ab D)(S:ag):zQ [.tup xs,.ty "tuple"] S=.ok (.bl Vp) S:=by kernel_rfl!
def xk (c:Cl):(yD c).contains (.ref c.NoPoint)=Vp/\(yD c).contains (.ref c.NoNumber)=Vp/\(yD c).contains (.ref c.NoText)=Vp/\(yD c).contains (.ref c.NoDeed)=Vp/\(yD c).contains (.ref c.TooMany)=true:=by simp only[Ev];simp[yD]
inductive qv (c:Cl)(F:DF)(k:Ah)(l:Ab Pt)(vs:Ab D):Prop
 |yes (l':Ab Pt) (h1:∀ S,F [qK l,.lst vs] S=.ok (qK l') S) (h2:∀ S,bo [qK l,.str k,.lst vs] S=.ok (qK l') S) (L:fw 40 l')
 |no (C:Af) (x r:D) (h1:∀ S,F [qK l,.lst vs] S=.ex (.ref C) x S) (hc:(yD c).contains (.ref C)=Vp) (hk:∀ S,au c [gP (.ref C) x] S=.ok r S) (h2:∀ S,bo [qK l,.str k,.lst vs] S=.ok r S) (h3:∀ S,zQ [r,.ty "tuple"] S=.ok (.bl Yp) S) (h4:v_ 2 r)
section
variable {l:Ab Pt}{k:Ah}{vs:Ab D}{S:ag}
def vD (h:Wo (λo=>o=.rt r S) (br [Aa (qK l),Aa (.str k),Aa (.lst vs),Zw] S)):bo [qK l,.str k,.lst vs] S=.ok r S:=by rw[jH];exact pX (ac:=[Aa (qK l),Aa (.str k),Aa (.lst vs),Zw]) Z h
def rR (c:Cl)(nd:(zN c).Nodup){F:DF}(Y:∀ S,F [qK l,.lst vs] S=.ex (.ref c.NoDeed) .non S)(J:∀ S,bo [qK l,.str k,.lst vs] S=.ok (.str "deed") S):qv c F k l vs:=.no c.NoDeed .non _ Y (xk c).2.2.2.1 (gR c nd) J (ZY _) trivial
def O6 (c:Cl)(nd:(zN c).Nodup)(L:fw 40 l){q:Pt}(U:gu 1000 q):qv c (ii c) "put" l [az q]:=by
 by_cases h:q∈l;exact rR c nd (λS=>qAD c S h) λS=>vD (i7 L.len S (λ_=>rfl) (λz=>absurd h z) λz=>absurd h z)
 .by_cases e:l.length=40
  .exact .no c.TooMany _ _ (λS=>FH c S h e) (xk c).2.2.2.2 (iV c nd _ _) (λS=>vD (i7 L.len S (λz=>absurd z h) (λ_ _=>rfl) λ_ z=>absurd e li)) (D8 _) ⟨Bv Z,λx Y=>by
    simp only[Av,Cz,Fu] at Y;rcases Y with rfl|rfl|rfl <;> trivial⟩
  .have J:l.length<40:=by have:=L.len;lia
   exact .yes _ (λS=>RJ c S h J) (λS=>vD (i7 L.len S (λz=>absurd z h) (λ_ z=>absurd z e) λ_ _=>rfl)) (RI L U h J)
def SR (c:Cl)(nd:(zN c).Nodup)(L:fw 40 l){q:Pt}:qv c (gc c) "take" l [az q]:=by
 by_cases h:q∈l
 .by_cases e:l.length=1
  .have Y:l=[q]:=by
    obtain⟨a,rfl⟩:=List.length_eq_one_iff.mp e;rw[Bz.mp h]
   subst Y;exact rR c nd (λS=>M8 c S) λS=>vD (sL L.len S (λ_=>rfl) λ_ z=>absurd e z)
  .exact .yes _ (λS=>MA c S h e L.len) (λS=>vD (sL L.len S (λz=>absurd z (by simp[h,e])) λ_ _=>rfl)) (M7 L h e)
 .exact rR c nd (λS=>M9 c S h) λS=>vD (sL L.len S (λ_=>rfl) λz=>absurd z h)
def SQ (c:Cl)(nd:(zN c).Nodup)(L:fw 40 l)(a b:Aq):qv c (gt c) "move" l [.int a,.int b]:=by
 by_cases h:∀ q∈l,gu 1000 (k_ a b q);exact .yes _ (λS=>(XB c _ a b S).trans (JL c L a b S h)) (λS=>vD (ZC L a b S (λ_=>rfl) λz=>absurd h z)) (oA L h);exact .no c.NoPoint .non _ (λS=>(XB c _ a b S).trans (F5 c L a b S h)) (xk c).1 (mH c nd) (λS=>vD (ZC L a b S (λz=>absurd z h) λ_=>rfl)) (ZY _) trivial
def SS (c:Cl)(L:fw 40 l):qv c (gq c) "turn" l []:=.yes _ (EC c L _) (λS=>vD (NO L _ S Z)) (MD L)
def K4 (c:Cl)(L:fw 40 l):qv c (dy c) "mirror" l []:=.yes _ (JK c L _) (λS=>vD (U2 L _ S Z)) (YR L)
end
def me (l:Ab Pt)(past:Ab (Ab Pt)):D:=.tup [qK l,.tup (past.map qK)]
def rj (r:D):D:=.lst [.str "no",r]
def P9 (xs:Ab D)(x:D):wN (xs++[x]) Zw (Aa (-1))=xs:=by
 unfold wN;have Y:_H.dj (xs++[x]).length 0 Zw=0:=Z;have J:_H.dj (xs++[x]).length (xs++[x]).length (Aa (-1))=xs.length:=by show (if (-1:Aq)<0 then ((-1:Aq)+((xs++[x]).length:Aq)).toNat else min (-1:Aq).toNat (xs++[x]).length)=_;rw[Au li,Az];simp only[Aw,Cy];lia
 rw[Y,J];simp
def K9 (l:Ab Pt):∀ n,pl (n+3) (qK l)=true:=λn=>by show (l.map az).all (pl (n+2))=Vp;rw[Hm,Bg];exact λp _=>rfl
def oR (past:Ab (Ab Pt))(S:ag):fx (.tup (past.map qK)) (.tup []) S=.ok (.bl (decide (past=[]))) S:=by
 have Y:pl qY (.tup (past.map qK))=true:=by show (past.map qK).all (pl 29)=Vp;rw[Hm,Bg];exact λl _=>K9 l 26
 refine(Au (show (pl qY (.tup (past.map qK))&&pl qY (.tup [])) = Vp by rw[Y];rfl)).trans ?_;cases past <;> rfl
def fF {n:Aj}{l:Ab Pt}{S:ag}(h:Wo (λo=>o=.rt r S) (i_ [Aa (me l past),Aa (.str x),Zw,Zw,Zw,Zw,Zw,Zw] S)):bt [me l past,.str x] S=.ok r S:=by rw[pC];exact pX (ac:=[Aa (me l past),Aa (.str x),Zw,Zw,Zw,Zw,Zw,Zw]) Z h
def VP (l:Ab Pt)(S:ag):bt [me l [],.str "back"] S=.ok (.tup [rj (.str "deed"),me l []]) S:=by refine fF (n:=0) ?_;unfold me;rfl';refine qD (uY _ S) ?_;rfl';refine vC ?_;rfl';refine qD (oR [] S) ?_;rfl';refine⟨λ_=>?_,λz=>by cases z⟩;rfl';rfl
def cR (l m:Ab Pt)(p:Ab (Ab Pt))(S:ag):bt [me l (p++[m]),.str "back"] S=.ok (.tup [.str "ok",me m p]) S:=by refine fF (n:=0) ?_;unfold me;rfl';refine qD (uY _ S) ?_;rfl';refine vC ?_;rfl';refine qD (oR (p++[m]) S) ?_;rw[Bo aA,show (p++[m]).map qK=p.map qK++[qK m] by rw[Ds];rfl];rfl';refine⟨(λz=>by cases z),λ_=>?_⟩;rfl';refine tO (_L.aX _ _) ?_;rfl';rw[P9];rfl
def MH (h:e_ x t)(l:Ab Pt){past:Ab (Ab Pt)}(hp:past.length<1000)(S:ag):bt [me l past,.str x] S=.ok (if wA (rd t)=Vp then .tup [.str "ok",.tup [rd t,.tup ((past++[l]).map qK)]] else .tup [rj (.str "text"),me l past]) S:=by
 refine fF (n:=0) ?_;have Y:=h.len;unfold me;rfl';refine jO ?_;rw[Bo h.nb];rfl';refine yN ?_;rfl';refine v7 li ?_;rw[h.t4];rfl';refine qD (uY _ S) ?_;rfl';refine yN ?_;rfl';refine v7 li ?_;rw[h.f4];rfl';refine qD (RS h.tasc h.tlen S) ?_;cases e:wA (rd t) with
 |false =>
  rw[AT aC,AT aC];rfl';refine vC ?_;rfl';refine qD (d:=.bl Vp) (S:=S) rfl ?_;rfl';refine⟨λ_=>?_,λz=>by cases z⟩;rfl';rfl
 |true =>
  rw[Au rfl,Au rfl];rfl';refine vC ?_;rfl';refine qD (d:=.bl Yp) (S:=S) rfl ?_;rfl';refine⟨(λz=>by cases z),λ_=>?_⟩;rfl';refine mL (by rw[Ao];unfold bb;simp only[Aw,Cy];lia) ?_;rfl';rw[Ds];rfl
def SJ {ws:Y8}(hv:∀ w∈ws,(dc w=Vp/\gz (dn w) .non=Yp/\pl qY (dn w)=Vp)\/(dc w=Yp/\dn w=.non))(S:ag):tz .non (.lst (ws.map dn)) S=.ok (.bl (!ws.all dc)) S:=by
 unfold tz;have e:tw .non (.lst (ws.map dn))=Aa (!ws.all dc):=by
  have p:(ws.map dn).all (pl qY)=true:=by
   rw[Hm,Bg];intro w N;rcases hv w N with⟨_,_,h⟩|⟨_,h⟩
   .exact h
   .show pl qY (dn w)=Vp;rw[h];rfl
  show (if ((ws.map dn).all (pl qY)&&pl qY .non)=Vp then Aa ((ws.map dn).any λx=>gz x .non) else Zw)=_;rw[p,Au (show (Vp&&pl qY .non)=Vp from Z)];congr 1;clear p
  induction ws with
  |nil=>rfl
  |cons w ws G =>
   have:=G λy U=>hv y (.tail _ U);rw[Ej,Wf,this,Ik];rcases hv w (.head _) with⟨Y,J,_⟩|⟨Y,J⟩
   .rw[Y,J];rfl
   .rw[Y,J];rfl
 rw[e]
def GC {x k kd:Ah}(h:Ln x k ws)(N:32 ∉ k.cps.toList)(E:k.length<=100){a:Aj}(G:k.cps.toList.head? = Aa a)(I:a≠108)(H:a≠98)(U:4<=x.length)(hm:(if k = "move" then "number" else "point")=kd){dn:Ah->D}{dc:Ah->Ar}
  (hv:∀ w∈ws,(dc w=Vp/\gz (dn w) .non=Yp/\pl qY (dn w)=Vp)\/(dc w=Yp/\dn w=.non))
  (hs:∀ w∈ws,∀ S,mh (bg (d2 fx (qB 1) (dC (.str "number")))) (qI 1 (kh bh) (qA (qB 0) qC)) (qI 1 (kh ba) (qA (qB 0) qC)) [Aa (.str w),Aa (.str kd)] S=.ok (dn w) S)
  {l:Ab Pt} {past:Ab (Ab Pt)} (hp:past.length<1000) {r:D} {b:Ar} (B:ws.all dc=Vp->(∀ S,bo [qK l,.str k,.lst (ws.map dn)] S=.ok r S)/\∀ S,zQ [r,.ty "tuple"] S=.ok (.bl b) S) (S:ag) :
  bt [me l past,.str x] S=.ok (if ws.all dc=Vp then (if b=Vp then .tup [.str "ok",.tup [r,.tup ((past++[l]).map qK)]] else .tup [rj r,me l past]) else .tup [rj (.str kd),me l past]) S:=by
 refine fF (n:=0) ?_;have u:=h.len E;have O:x ≠ "back":=λz=>by have e:=congrArg List.head? h.cs;rw[z,eI,Ys,G] at e;exact H (Cw e).symm
 unfold me;rfl';refine jO ?_;rw[Bo O];rfl';refine yN ?_;rfl';refine v7 li ?_;rfl';refine jO ?_;rw[Bo ((h.no4 G I).2 U)];rfl';refine tP li aC ?_;rw[h.spl N];rfl';refine qD (d:=.str kd) (S:=S) (zA (vC ?_)) ?_
 .rfl';refine xA (d:=.str k) (kB (D.str k) (ws.map D.str)) ?_;rfl';refine jO ?_;rfl';refine⟨λz=>?_,λz=>?_⟩
  .rfl';rw[Au (Bd z)] at hm;exact⟨by rw[hm],Z⟩
  .rfl';rw[AT (Ef z)] at hm;exact⟨by rw[hm],Z⟩
 rfl';have hi:je (nv (qB 5) (zF (dC (.int 1))) zM) [Aa (.tup [qK l,.tup (past.map qK)]),Aa (.str x),Aa (qK l),Aa (.tup (past.map qK)),Zw,Aa (.lst ((k::ws).map .str)),Aa (.str kd),Zw] S=.ok (Zw,ws.map .str) S:=by
  have e:nv (qB 5) (zF (dC (.int 1))) zM [Aa (.tup [qK l,.tup (past.map qK)]),Aa (.str x),Aa (qK l),Aa (.tup (past.map qK)),Zw,Aa (.lst ((k::ws).map .str)),Aa (.str kd),Zw] S=.ok (.lst (ws.map .str)) S:=by refine zA (O0 ?_);rfl';rw[ya];exact⟨Z,Z⟩
  unfold je;rw[e];rfl
 refine xC (cq:=D.str) (o:=Zw) ws dn (λac Y=>Y=S/\∃ y,ac=[y,Aa (.str kd)]) hi ⟨Z,Zw,Z⟩ (by have:=h.two;unfold bb;lia) (λ_ _ _=>trivial) (λw j ac Y ⟨J,y,M⟩=>?_) λac Y ⟨J,_⟩=>?_;subst J M;rfl';exact qD (hs w j Y) ⟨Z,Z,_,Z⟩
 .subst J;rfl';refine qD (SJ hv Y) ?_;cases e:ws.all dc with
  |false =>
   rw[AT aC];rfl';rfl
  |true =>
   obtain⟨L,A⟩:=B e;rw[Au rfl];rfl';refine xA (d:=.str k) (kB (D.str k) (ws.map D.str)) ?_;rfl';refine qD (L Y) ?_;rfl';refine qD (A Y) ?_;cases b with
   |false =>
    rfl';rfl
   |true =>
    rfl';refine mL (by rw[Ao];unfold bb;simp only[Aw,Cy];lia) ?_;rfl';rw[Ds];rfl
def gG {t:DT}{S Y:ag}(h:t ac S=.ok Yp Y):qE (cw t a qU) g ac S=g ac Y:=by simp only[qE,cw,h,ax.toS,Bt,Dq,qU]
def KW {t:DT}{g:DS}{S Y:ag}(h:t ac S=.ok Vp Y):qE (cw t (qN f) qU) g ac S=qN f ac Y:=by simp only[qE,cw,h,ax.toS,Dr,qN];cases f ac Y <;> rfl
def sA {g:DS}{S Y:ag}(h:f ac S=.ok d Y):qE (qV f (bc i)) g ac S=g (ac.set i (Aa d)) Y:=by simp only[qE,qV,h,ax.toS,bc]
def pO {S:ag}(h:be c o j ls S):yZ (.loc o) S=Aa (c.Desk,[(("lots" : Ah),D.loc j)]):=by show (match S[o]? with|some (.ins C Y)=>Aa (C,Y)|_=>Zw)=_;rw[h.ob]
def qBI {S:ag}(h:be c o j ls S){m:Ah}{F:DF}{ac:qF}(e:ac[i]? = Aa (Aa (.loc o)))(hm:Eu m [(("lots" : Ah),D.loc j)]=Zw):xJ c.Desk m 1 F (qB i) qC ac S=F [.loc o] S:=by
 have Y:qB i ac S=.ok (.loc o) S:=by unfold qB;rw[e]
 unfold xJ;rw[Y];show (match yZ (.loc o) S with|some (J,U)=>_|none=>_)=_;rw[pO h];show (if c.Desk=c.Desk/\Eu m [(("lots" : Ah),D.loc j)]=Zw then _ else _)=_;rw[Au ⟨Z,hm⟩];rfl
def aF {S:ag}(h:be c o j ls S){m:Ah}{F:DF}{ac:qF}{fe:DE}(e:ac[i]? = Aa (Aa (.loc o)))(hm:Eu m [(("lots" : Ah),D.loc j)]=Zw):xJ c.Desk m 2 F (qB i) (qA fe qC) ac S=(fe ac S).bind λd Y=>F [.loc o,d] Y:=by
 have J:qB i ac S=.ok (.loc o) S:=by unfold qB;rw[e]
 unfold xJ;rw[J];show (match yZ (.loc o) S with|some (G,U)=>_|none=>_)=_;rw[pO h];show (if c.Desk=c.Desk/\Eu m [(("lots" : Ah),D.loc j)]=Zw then _ else _)=_;rw[Au ⟨rfl,hm⟩];unfold qA qC;cases fe ac S <;> rfl
def IA (x:Ah)(S:ag):zQ [.str x,.ty "str"] S=.ok (.bl Vp) S:=by kernel_rfl!
def eA (c:Cl)(o:Aj)(x:Ah)(S:ag):a_ c [.loc o,.str x] S=jG (d_ c [Aa (.loc o),Aa (.str x),Zw,Zw,Zw,Zw] S):=by rw[jB];rfl
def rO (c:Cl)(o:Aj)(x:Ah)(e2 e3 e4 e5:Al D)(S:ag):xK (bg (qG zQ (qA (qB 1) (qA (dC (.ty "str")) qC)))) [Aa (.loc o),Aa (.str x),e2,e3,e4,e5] S=.ok Yp S:=by refine zA ?_;rfl';exact qD (IA x S) (by rfl';rfl)
def mV (o:Aj)(x:Ah)(S:ag):bg (ki "str" pM (qB 1) (qA (dC (.str "lot ")) qC)) [Aa (.loc o),Aa (.str x),Zw,Zw,Zw,Zw] S=.ok (Txt.startswith x "lot ") S:=by refine zA ?_;rfl';refine qD (d:=.bl (Txt.startswith x "lot ")) (S:=S) Z ?_;rfl';rfl
def fE (f:DE)(ac:qF)(S:ag):jG (qN f ac S)=f ac S:=by unfold qN;cases f ac S <;> rfl
def W0 (c:Cl){x t:Ah}(h:e_ x t){o j:Aj}{ls:Ab (Ab Pt)}{S:ag}(a:be c o j ls S):a_ c [.loc o,.str x] S=(jo c [.str t] S).bind λd Y=>bn c [.loc o,d] Y:=by
 rw[eA];unfold d_;rw[gG (rO c o x _ _ _ _ S),KW (by rw[mV,h.st]),fE,aF a Z Z];have J:=h.len;have e:ki "str" nX (qB 1) (qA (dC (.str "lot ")) qC) [Aa (.loc o),Aa (.str x),Zw,Zw,Zw,Zw] S=.ok (.str t) S:=by refine zA ?_;rfl';refine TN J ?_;rw[h.rm];exact⟨Z,Z⟩
 rw[t9 e]
def cJ (c:Cl){x k f:Ah}{ws:Y8}(sp:Txt.split x " " = k::ws)(U:("" : Ah) ∉ k::ws)(O:Fm k zV=Vp)(G:Dc k zV=Aa (.str f))(N:f.length=ws.length)(B:x.length<=640)(J:ws.length<=5)(st:Txt.startswith x "lot " = Yp)(o:Aj)(S:ag) :
  a_ c [.loc o,.str x] S=(bw c [.lst ((k::ws).map .str)] S).bind λvs Y=>jG (qE (cw (bg (d2 fx (d2 bx (qB 2) (dC (.int 0))) (dC (.str "back")))) (qN (xJ c.Desk "undo" 1 (bv c) (qB 0) qC)) qU) (qE (cw (bg (d1 (yQ Yp (xV c)) (d2 bx (qB 2) (dC (.int 0))))) (qE (qV (d1 (vB (xV c)) (d2 bx (qB 2) (dC (.int 0)))) (bc 4)) (qN (xJ c.Desk "keep" 2 (bn c) (qB 0) (qA (u7 4 [(c.put,2,ii c),(c.take,2,gc c),(c.move,2,gt c),(c.turn,2,gq c),(c.mirror,2,dy c),(c.tell_lot,2,ce c)] (qA (d2 bx (d1 (yJ c.Desk "lots") (qB 0)) (d1 yB (dC (.int 1)))) (qA (qB 3) qC))) qC)))) qU) (qE (qV (d1 (vB (yI c)) (d2 bx (qB 2) (dC (.int 0)))) (bc 5)) (qN (u7 5 [(c.put,2,ii c),(c.take,2,gc c),(c.move,2,gt c),(c.turn,2,gq c),(c.mirror,2,dy c),(c.tell_lot,2,ce c)] (qA (d2 bx (d1 (yJ c.Desk "lots") (qB 0)) (d1 yB (dC (.int 1)))) (qA (qB 3) qC)))))) [Aa (.loc o),Aa (.str x),Aa (.lst ((k::ws).map .str)),Aa vs,Zw,Zw] Y):=by
 rw[eA];unfold d_;rw[gG (rO c o x _ _ _ _ S),gG (by rw[mV,st]),sA ((t9 Z).trans (MI c sp U O G N B J S))];have e:qI 1 (bw c) (qA (qB 2) qC) [Aa (.loc o),Aa (.str x),Aa (.lst ((k::ws).map .str)),Zw,Zw,Zw] S=bw c [.lst ((k::ws).map .str)] S:=t9 rfl;show jG (qE (qV (qI 1 (bw c) (qA (qB 2) qC)) (bc 3)) _ [Aa (.loc o),Aa (.str x),Aa (.lst ((k::ws).map .str)),Zw,Zw,Zw] S)=_;cases h:bw c [.lst ((k::ws).map .str)] S with
 |ok d Y=>rw[sA (e.trans h)];rfl
 |ex v y Y=>rw[AI (e.trans h)];rfl
 |bad =>
  rw[h] at e;unfold qE qV;rw[e];rfl
theorem bR {β:Type}:∀ (l:Ab (Af × β)) (i:Aj) {p:Af × β},(l.map (·.1)).Nodup->l[i]? = Aa p->l.lookup p.1=Aa p.2
 |[],_,_,_,h=>by simp at h
 |a::r,0,p,_,h=>by
  cases h;rw[En,Em]
 |a::r,i+1,p,Y,h=>by
  rw[Ej,Hd] at Y;have h:r[i]? = Aa p:=h;rw[En];cases q:p.1 == a.1 with
  |true=>exact absurd (Cf.mpr ⟨p,Cd h,eq_of_beq q⟩) Y.1
  |false=>exact bR r i Y.2 h
def E5 {t:DT}{e:DE}{g:DS}{S J Y:ag}(h:t ac S=.ok Vp J)(U:e ac J=.ok d Y):qE (cw t (qE (qV e (bc i)) (qN f)) qU) g ac S=qN f (ac.set i (Aa d)) Y:=by
 have k:cw t (qE (qV e (bc i)) (qN f)) qU ac S=qN f (ac.set i (Aa d)) Y:=by rw[<- sA (i:=i) (g:=qN f) U];simp only[cw,h,ax.toS,Dr]
 unfold qE;unfold qE at k;rw[k];unfold qN;cases f (ac.set i (Aa d)) Y <;> rfl
section
variable {c:Cl}{o j:Aj}{x k:Ah}{ws:Y8}{vs:D}{e4 e5:Al D}{S:ag}{l:Ab Pt}{past:Ab (Ab Pt)}
def eE (o:Aj)(x k:Ah)(ws:Y8)(vs:D)(e4 e5:Al D)(S:ag):bg (d2 fx (d2 bx (qB 2) (dC (.int 0))) (dC (.str "back"))) [Aa (.loc o),Aa (.str x),Aa (.lst ((k::ws).map .str)),Aa vs,e4,e5] S=.ok (decide (k = "back")) S:=by refine zA ?_;rfl';refine xA (d:=.str k) (kB (D.str k) (ws.map D.str)) ?_;rfl';refine jO ?_;rfl';rfl
def N8 (T:Ab (Ah × D))(o:Aj)(x k:Ah)(ws:Y8)(vs:D)(e4 e5:Al D)(S:ag):bg (d1 (yQ Yp T) (d2 bx (qB 2) (dC (.int 0)))) [Aa (.loc o),Aa (.str x),Aa (.lst ((k::ws).map .str)),Aa vs,e4,e5] S=.ok (Fm k T) S:=by refine zA ?_;rfl';refine xA (d:=.str k) (kB (D.str k) (ws.map D.str)) ?_;refine qD (d:=.bl (Fm k T)) (S:=S) Z ?_;rfl';rfl
def N7 (h:Dc k T=Aa d)(o:Aj)(x:Ah)(ws:Y8)(vs:D)(e4 e5:Al D)(S:ag):d1 (vB T) (d2 bx (qB 2) (dC (.int 0))) [Aa (.loc o),Aa (.str x),Aa (.lst ((k::ws).map .str)),Aa vs,e4,e5] S=.ok d S:=by refine zA ?_;rfl';refine xA (d:=.str k) (kB (D.str k) (ws.map D.str)) ?_;exact qD (sE h S) ⟨Z,Z⟩
def X6 (h:be c o j (past++[l]) S){ac:qF}(e:ac[0]? = Aa (Aa (.loc o))):d2 bx (d1 (yJ c.Desk "lots") (qB 0)) (d1 yB (dC (.int 1))) ac S=.ok (qK l) S:=by refine zA (o_2 (o_1 (o_v e (dG h ?_))));rfl';refine uR h.ls (d:=qK l) (by rw[Ds];exact _L.aX _ _) ?_;exact⟨Z,Z⟩
def UQ {n:Aj}{Y:Ab (Af × Aj × DF)}{F:DF}{J:DA}(e:ac[i]? = Aa (Aa (.obj a)))(h:Y.lookup a=Aa (n,F))(G:J ac S=.ok ds S)(U:ds.length=n):u7 i Y J ac S=F ds S:=by unfold u7;rw[e];show (match Y.lookup a with|some (n,F)=>_|none=>_)=_;rw[h];show (J ac S).bind _=_;rw[G];show (if ds.length=n then _ else _)=_;rw[Au U]
abbrev t_ (c:Cl):Ab (Af × Aj × DF):=[(c.put,2,ii c),(c.take,2,gc c),(c.move,2,gt c),(c.turn,2,gq c),(c.mirror,2,dy c),(c.tell_lot,2,ce c)]
def iF {g:DE}(J:f ac S=.ok a S)(Y:g ac S=.ok b S):qA f (qA g qC) ac S=.ok [a,b] S:=by simp only[qA,qC,J,Y,ax.bind]
def G6 (a:be c o j (past++[l]) S){g:DS}:jG (qE (cw (bg (d2 fx (d2 bx (qB 2) (dC (.int 0))) (dC (.str "back")))) (qN (xJ c.Desk "undo" 1 (bv c) (qB 0) qC)) qU) g [Aa (.loc o),Aa (.str x),Aa (.lst ((("back" : Ah)::ws).map .str)),Aa vs,Zw,Zw] S)=bv c [.loc o] S:=by rw[KW (by rw[eE];rfl),fE,qBI a Z Z]
def G7 (G:k ≠ "back"){ad:Af}{F:DF}(J:Dc k (xV c)=Aa (.obj ad))(hi:Fm k (xV c)=Vp)(N:(t_ c).lookup ad=Aa (2,F))(a:be c o j (past++[l]) S){U:DE}{g:DS} :
  jG (qE (cw (bg (d2 fx (d2 bx (qB 2) (dC (.int 0))) (dC (.str "back")))) (qN U) qU) (qE (cw (bg (d1 (yQ Yp (xV c)) (d2 bx (qB 2) (dC (.int 0))))) (qE (qV (d1 (vB (xV c)) (d2 bx (qB 2) (dC (.int 0)))) (bc 4)) (qN (xJ c.Desk "keep" 2 (bn c) (qB 0) (qA (u7 4 (t_ c) (qA (d2 bx (d1 (yJ c.Desk "lots") (qB 0)) (d1 yB (dC (.int 1)))) (qA (qB 3) qC))) qC)))) qU) g) [Aa (.loc o),Aa (.str x),Aa (.lst ((k::ws).map .str)),Aa vs,Zw,Zw] S)=(F [qK l,vs] S).bind λd Y=>bn c [.loc o,d] Y:=by
 rw[gG (by rw[eE,Bo G]),E5 (by rw[N8,hi]) (N7 J _ _ _ _ _ _ _),fE,aF a Z Z];rw[UQ (S:=S) Z N (iF (X6 a Z) Z) Z]
def M6 (a:be c o j (past++[l]) S)(nf:(uh c).Nodup){Y:DE}{b:DS}:jG (qE (cw (bg (d2 fx (d2 bx (qB 2) (dC (.int 0))) (dC (.str "back")))) (qN Y) qU) (qE (cw (bg (d1 (yQ Yp (xV c)) (d2 bx (qB 2) (dC (.int 0))))) b qU) (qE (qV (d1 (vB (yI c)) (d2 bx (qB 2) (dC (.int 0)))) (bc 5)) (qN (u7 5 (t_ c) (qA (d2 bx (d1 (yJ c.Desk "lots") (qB 0)) (d1 yB (dC (.int 1)))) (qA (qB 3) qC)))))) [Aa (.loc o),Aa (.str x),Aa (.lst ((("lot" : Ah)::ws).map .str)),Aa vs,Zw,Zw] S)=ce c [qK l,vs] S:=by rw[gG (by rw[eE];rfl),gG (by rw[N8];rfl),sA (N7 (T:=yI c) (d:=.obj c.tell_lot) Z _ _ _ _ _ _ _),fE];rw[UQ (S:=S) Z (bR (t_ c) 5 nf Z) (iF (X6 a Z) Z) Z]
end
section
variable {c:Cl}{o j:Aj}{S:ag}{ls:Ab (Ab Pt)}
def cI (a:be c o j ls S):xJ c.Desk "say" 2 (a_ c) (qB 0) (qA (qB 1) qC) [Aa (.loc o),Aa e,Zw] S=a_ c [.loc o,e] S:=by rw[aF a Z Z];rfl
def tV {e:D}(a:be c o j ls S){d:D}{Y:ag}(h:a_ c [.loc o,e] S=.ok d Y):bj c [.loc o,e] S=.ok d Y:=by rw[uJ];refine pX (ac:=[Aa (.loc o),Aa e,Zw]) Z ?_;unfold gl;simp only[lB,qN,cI a,h,ax.toS]
def jW {e:D}(a:be c o j ls S){C:Af}{y r:D}{Y:ag}(h:a_ c [.loc o,e] S=.ex (.ref C) y Y)(G:(yD c).contains (.ref C)=Vp)(J:au c [gP (.ref C) y] Y=.ok r Y):bj c [.loc o,e] S=.ok (rj r) Y:=by
 rw[uJ];refine pX (ac:=[Aa (.loc o),Aa e,Zw]) Z ?_;unfold gl;simp only[lB,qN,cI a,h,ax.toS,G,Dr];have z:qI 1 (au c) (qA (qB 2) qC) ((Da 3 Zw).set 2 (Aa (gP (.ref C) y))) Y=.ok r Y:=(t9 Z).trans J;have U:zL (qA (dC (.str "no")) (qA (qI 1 (au c) (qA (qB 2) qC)) qC)) ((Da 3 Zw).set 2 (Aa (gP (.ref C) y))) Y=.ok (rj r) Y:=by refine zA ?_;rfl';refine qD J ?_;rfl';rfl
 rw[U]
end
structure Kd (c:Cl)(kd kt:Ah)(val:Ah->D)(good:Ah->Ar)(C:Af):Prop where
 ca:(yD c).contains (.ref C)=Vp
 kn:∀ S,au c [gP (.ref C) .non] S=.ok (.str kd) S
 pr:∀ w,rq w->∀ S,gH c [Aa (.str kt),Aa (.str w)] S=if good w=Vp then .ok (val w) S else .ex (.ref C) .non S
 lw:∀ w,rq w->∀ S,mh (bg (d2 fx (qB 1) (dC (.str "number")))) (qI 1 (kh bh) (qA (qB 0) qC)) (qI 1 (kh ba) (qA (qB 0) qC)) [Aa (.str w),Aa (.str kd)] S=.ok (val w) S
 va:∀ w,(good w=Vp/\gz (val w) .non=Yp/\pl qY (val w)=Vp)\/(good w=Yp/\val w=.non)
def YG (c:Cl)(nd:(zN c).Nodup):Kd c "point" "P" mr xx c.NoPoint where
 ca:=(xk c).1
 kn:=mH c nd
 pr:=λw Y S=>qAZ c Y S
 lw:=λw Y S=>by
  have e:mh (bg (d2 fx (qB 1) (dC (.str "number")))) (qI 1 (kh bh) (qA (qB 0) qC)) (qI 1 (kh ba) (qA (qB 0) qC)) [Aa (.str w),Aa (.str "point")] S=kh ba [.str w] S:=by kernel_rfl!
  have:=Y.len;exact e.trans (UI (XR Y.asc li S))
 va:=λw=>by
  unfold xx;rcases XO w with⟨q,h,b⟩|h
  .rw[h];exact .inl ⟨by rw[jU,Ci b],Z,Z⟩
  .rw[h];exact .inr ⟨Z,Z⟩
def qCV (c:Cl)(nd:(zN c).Nodup):Kd c "number" "N" mf wa c.NoNumber where
 ca:=(xk c).2.1
 kn:=cT c nd
 pr:=λw Y S=>qAY c Y S
 lw:=λw Y S=>by
  have e:mh (bg (d2 fx (qB 1) (dC (.str "number")))) (qI 1 (kh bh) (qA (qB 0) qC)) (qI 1 (kh ba) (qA (qB 0) qC)) [Aa (.str w),Aa (.str "number")] S=kh bh [.str w] S:=by kernel_rfl!
  have:=Y.len;exact e.trans (UI (KD Y.asc li S))
 va:=λw=>by
  unfold wa;rcases rN w with⟨q,h⟩|h
  .rw[h];exact .inl ⟨Z,Z,Z⟩
  .rw[h];exact .inr ⟨Z,Z⟩
structure Ky (c:Cl)(k f kd:Ah)(n a:Aj)(ad:Af)(F:DF):Prop where
 sp:32 ∉ k.cps.toList
 ne:k ≠ ""
 nb:k ≠ "back"
 hl:k.length<=100
 ha:k.cps.toList.head? = Aa a
 a1:a≠108
 a2:a≠98
 hm:(if k = "move" then "number" else "point")=kd
 fk:Fm k zV=Vp
 fv:Dc k zV=Aa (.str f)
 fa:f.cps.all (· < 128)=Vp
 fl:f.length=n
 d1:Dc k (xV c)=Aa (.obj ad)
 d2:Fm k (xV c)=Vp
 hF:(t_ c).lookup ad=Aa (2,F)
inductive zr (c:Cl)(x:Ah)(l:Ab Pt)(past:Ab (Ab Pt)):Prop
 |mk (due:D) (l':Ab Pt) (p':Ab (Ab Pt)) (hw:∀ S,bt [me l past,.str x] S=.ok (.tup [due,me l' p']) S)
  (hs:∀ o j S,be c o j (past++[l]) S->∃ S',bj c [.loc o,.str x] S=.ok due S'/\be c o j (p'++[l']) S'/\S'.length=S.length/\∀ m,m≠j->S'[m]? = S[m]?)
  (hd:v_ 3 due) (hl:fw 40 l') (hp:∀ m∈p',fw 40 m) (hn:p'.length<=past.length+1):zr c x l past
section
variable {c:Cl}{x:Ah}{l:Ab Pt}{past:Ab (Ab Pt)}
def oQ (L:fw 40 l)(hp:∀ m∈past,fw 40 m):∀ m∈past++[l],fw 40 m:=λm hm=>by
 rcases Ch.mp hm with hm|hm
 .exact hp m hm
 .rw[Bz.mp hm];exact L
def aK (h:v_ 2 r):v_ 3 (rj r):=⟨Bv Z,λx Y=>by
 simp only[Av,Cz,Fu] at Y;rcases Y with rfl|rfl
 .trivial
 .exact h⟩
def keeps {S:ag}(a:be c o j ls S)(U:ls.length<1000)(d:D){Y:Ab Pt}(e:d=qK Y):bn c [.loc o,d] S=.ok (.str "ok") (S.set j (.lst ((ls++[Y]).map qK)))/\be c o j (ls++[Y]) (S.set j (.lst ((ls++[Y]).map qK)))/\(S.set j (.lst ((ls++[Y]).map qK))).length=S.length/\∀ m,m≠j->(S.set j (.lst ((ls++[Y]).map qK)))[m]? = S[m]?:=by subst e;exact⟨DJ c a U Y,nU a,Pb ..,λm J=>Di (Dm J)⟩
def j7 {k f kd I:Ah}{ws:Y8}{ad:Af}{F:DF}(ay:Ky c k f kd ws.length a ad F)(U:Kd c kd I dn dc C)(h:Ln x k ws)(H:4<=x.length)(hz:yL (y9 f) (ws.map .str)=ws.map λp=>D.tup [.str I,.str p])
  (L:fw 40 l) (hp:∀ m∈past,fw 40 m) (hn:past.length<999) (q:ws.all dc=Vp->qv c F k l (ws.map dn)):zr c x l past:=by
 have B:("" : Ah) ∉ k::ws:=λz=>by
  rcases Av.mp z with z|z
  .exact ay.ne z.symm
  .exact(h.wo _ z).ne Z
 have n:=h.two;have say:=λo S=>cJ c (h.spl ay.sp) B ay.fk ay.fv ay.fl (h.len ay.hl) li (h.no4 ay.ha ay.a1).1 o S;have J:=WE c I dn dc (.ref C) ay.fv ay.fa hz li λw E=>U.pr w (h.wo w E);have Y:=λ(r:D) (b:Ar) g S=>GC h ay.sp ay.hl ay.ha ay.a1 ay.a2 H ay.hm (λw _=>U.va w) (λw E=>U.lw w (h.wo w E)) (l:=l) (past:=past) li (r:=r) (b:=b) g S;cases e:ws.all dc with
 |false =>
  rw[e] at J Y;refine⟨rj (.str kd),l,past,λS=>(Y .non Yp (λz=>by cases z) S).trans (by rw[AT aC]),λo j S A=>?_,aK trivial,L,hp,Jx _⟩;have G:=say o S;rw[J S,AT aC] at G;exact⟨S,jW A G U.ca (U.kn S),A,Z,λ_ _=>rfl⟩
 |true =>
  rw[e] at J Y;have q:=q e;have G:∀ o j S,be c o j (past++[l]) S->a_ c [.loc o,.str x] S=(F [qK l,.lst (ws.map dn)] S).bind λd S'=>bn c [.loc o,d] S':=λo j S A=>by have G:=say o S;rw[J S,Au Z] at G;exact G.trans (G7 ay.nb ay.d1 ay.d2 ay.hF A)
  cases q with
  |yes M u O L' =>
   refine⟨.str "ok",M,past++[l],λS=>(Y (qK M) Vp (λ_=>⟨O,D9 _⟩) S).trans (by rw[Au Z,Au Z];rfl),λo j S A=>?_,trivial,L',oQ L hp,by simp⟩;have N:=G o j S A;rw[u] at N;obtain⟨q1,t,s,v⟩:=keeps A (by rw[Az,Cu];lia) (qK M) rfl;exact⟨_,tV A (N.trans q1),t,s,v⟩
  |no C' y r u hC hk O h3 h4 =>
   refine⟨rj r,l,past,λS=>(Y r Yp (λ_=>⟨O,h3⟩) S).trans (by rw[Au Z,AT aC]),λo j S A=>?_,aK h4,L,hp,Jx _⟩;have N:=G o j S A;rw[u] at N;exact⟨S,jW A N hC (hk S),A,Z,λ_ _=>rfl⟩
def M4 (nd:(zN c).Nodup){t:Ah}(h:e_ x t)(L:fw 40 l)(hp:∀ m∈past,fw 40 m)(H:past.length<999):zr c x l past:=by
 have Y:=λS=>MH h l (past:=past) li S;cases e:wA (rd t) with
 |false =>
  refine⟨rj (.str "text"),l,past,λS=>(Y S).trans (by rw[e,AT aC]),λo j S A=>?_,aK trivial,L,hp,Jx _⟩;have J:=W0 c h A;rw[RT c h.tasc h.tlen S e] at J;exact⟨S,jW A J (xk c).2.2.1 (QX c nd S),A,Z,λ_ _=>rfl⟩
 |true =>
  obtain⟨G,U,E⟩:=DY e;refine⟨.str "ok",G,past++[l],λS=>(Y S).trans (by rw[e,Au rfl,U];rfl),λo j S A=>?_,trivial,E,oQ L hp,by simp⟩;have J:=W0 c h A;rw[FR c h.tasc h.tlen S e] at J;obtain⟨O,N,I,B⟩:=keeps A (by rw[Az,Cu];lia) (rd t) U;exact⟨_,tV A (J.trans O),N,I,B⟩
def Q5 (c:Cl){k:Ah}(sp:32 ∉ k.cps.toList)(G:k ≠ "")(J:Fm k zV=Vp)(Y:Dc k zV=Aa (.str ""))(N:k.length<=640)(st:Txt.startswith k "lot " = Yp)(o:Aj)(S:ag) :
  ∃ g,(a_ c [.loc o,.str k] S=jG (g [Aa (.loc o),Aa (.str k),Aa (.lst ([k].map .str)),Aa (.lst []),Zw,Zw] S))/\g=qE (cw (bg (d2 fx (d2 bx (qB 2) (dC (.int 0))) (dC (.str "back")))) (qN (xJ c.Desk "undo" 1 (bv c) (qB 0) qC)) qU) (qE (cw (bg (d1 (yQ Yp (xV c)) (d2 bx (qB 2) (dC (.int 0))))) (qE (qV (d1 (vB (xV c)) (d2 bx (qB 2) (dC (.int 0)))) (bc 4)) (qN (xJ c.Desk "keep" 2 (bn c) (qB 0) (qA (u7 4 (t_ c) (qA (d2 bx (d1 (yJ c.Desk "lots") (qB 0)) (d1 yB (dC (.int 1)))) (qA (qB 3) qC))) qC)))) qU) (qE (qV (d1 (vB (yI c)) (d2 bx (qB 2) (dC (.int 0)))) (bc 5)) (qN (u7 5 (t_ c) (qA (d2 bx (d1 (yJ c.Desk "lots") (qB 0)) (d1 yB (dC (.int 1)))) (qA (qB 3) qC)))))):=by
 refine⟨_,?_,Z⟩;have e:=cJ c (x:=k) (ws:=[]) (KS sp) (by simpa using Dm G) J Y Z N (EQ _) st o S;rw[WE c (ws:=[]) "P" mr xx .none Y kd rfl (EQ _) (λ_ U=>by cases U) S] at e;exact e
def fB {ls:Ab (Ab Pt)}{m:Ab Pt}{S:ag}(A:be c o j (ls++[m]) S):a_ c [.loc o,.str "back"] S=bv c [.loc o] S:=by obtain⟨g,e,rfl⟩:=Q5 c (k:="back") aC aC kd (by rfl) aC kd o S;exact e.trans (G6 A)
def KY (nd:(zN c).Nodup)(L:fw 40 l)(hp:∀ m∈past,fw 40 m)(J:past.length<999):zr c "back" l past:=by
 rcases Uz past with rfl|⟨p,m,rfl⟩
 .refine⟨_,l,[],VP l,λo j S A=>?_,aK trivial,L,hp,Jx _⟩;have Y:=fB A;rw[WD c A] at Y;exact⟨S,jW A Y (xk c).2.2.2.1 (gR c nd S),A,Z,λ_ _=>rfl⟩
 .rw[Va] at hp J ⊢;refine⟨.str "ok",m,p,cR l m p,λo j S A=>?_,trivial,hp m aA,λy U=>hp y (Dh _ U),by simp;lia⟩;have Y:=fB A;rw[QM c A aA li] at Y;exact⟨_,tV A Y,nU A,Pb ..,λq G=>Di (Dm G)⟩
end
def d9 {i:Aq}:32 ∉ (kj i).cps.toList/\kj i ≠ "":=by
 have G:∀ m,32 ∉ (Je 10 m).map Jf:=λm Y=>by obtain⟨N,h,e⟩:=Cf.mp Y;have:=Sk (Qh aC aC h);lia
 by_cases e:0<=i;obtain⟨m,rfl⟩:=Nm e;have U:(kj (m:Aq)).cps.toList=(Je 10 m).map Jf:=dW m;refine⟨by rw[U];exact G m,λz=>?_⟩;rw[z,yX] at U;exact absurd (Mj.mp U.symm) (by simpa using Nat.toDigits_ne_nil)
 .obtain⟨m,rfl⟩:∃ m:Aj,i = -((m+1:Aj):Aq):=⟨(-i).toNat-1,by lia⟩
  have J:(kj (-((m+1:Aj):Aq))).cps.toList=45::(Je 10 (m+1)).map Jf:=aL m;refine⟨λY=>?_,λz=>?_⟩
  .rw[J] at Y;rcases Av.mp Y with h|h
   .cases h
   .exact G _ h
  .rw[z,yX] at J;cases J
def GD {i:Aq}(h : -1000<=i/\i<=1000):rq (kj i):=⟨(vF h).1,by have:=(vF h).2.1;lia,d9.1,d9.2⟩
def VQ (h:gu 1000 q):rq (pw q):=by
 have k:=dO h;refine⟨k.1,by lia,λz=>?_,λz=>?_⟩
 .unfold pw at z;rw[zS,zS] at z;rcases Ch.mp z with z|z
  .rcases Ch.mp z with z|z
   .exact d9.1 z
   .revert z;decide
  .exact d9.1 z
 .have e:=congrArg (·.cps.toList) z;unfold pw at e;rw[zS,zS,yX] at e;have:=(Ui.mp (Ui.mp e).1).2;revert this;decide
def QK (q:Pt):tx [q]=pw q:=v8 (by
 show (Sa " " [pw q]).cps.toList=_;rw[Oq];rfl)
inductive wn (x:Ah):Prop
 |lot (t:Ah) (h:e_ x t)
 |back (e:x = "back")
 |put (w:Ah) (h:Ln x "put" [w])
 |take (w:Ah) (h:Ln x "take" [w])
 |move (v w:Ah) (h:Ln x "move" [v,w])
 |turn (e:x = "turn")
 |mir (e:x = "mirror")
def o3 {x k w:Ah}{ws:Y8}(h:Ln x k (w::ws))(Y:3<=k.length):4<=x.length:=by have e:=congrArg Gm h.cs;rw[zY,Az,zY,Ha,Az,Aw] at e;lia
def step (c:Cl)(nd:(zN c).Nodup)(nf:(uh c).Nodup){x:Ah}(h:wn x){l:Ab Pt}{past:Ab (Ab Pt)}(L:fw 40 l)(hp:∀ m∈past,fw 40 m)(Y:past.length<999):zr c x l past:=by
 have G:∀ {w:Ah},[w].all xx=Vp->∃ q,mr w=az q/\gu 1000 q:=λ{w} e=>by
  have e:xx w=true:=by simpa using e
  exact l5 e
 cases h with
 |lot t h=>exact M4 nd h L hp Y
 |back e=>subst e;exact KY nd L hp Y
 |put w h =>
  refine j7 (k:="put") (f:="P") (a:=112) ⟨by decide,by decide,by decide,by decide,by decide,by decide,by decide,Z,kd,Z,kd,Z,Z,Z,bR (t_ c) 0 nf Z⟩ (YG c nd) h (o3 h aC) Z L hp Y λe=>?_;obtain⟨q,J,U⟩:=G e;rw[show [w].map mr=[mr w] from rfl,J];exact O6 c nd L U
 |take w h =>
  refine j7 (k:="take") (f:="P") (a:=116) ⟨by decide,by decide,by decide,by decide,by decide,by decide,by decide,Z,kd,Z,kd,Z,Z,Z,bR (t_ c) 1 nf Z⟩ (YG c nd) h (o3 h aC) Z L hp Y λe=>?_;obtain⟨q,J,U⟩:=G e;rw[show [w].map mr=[mr w] from rfl,J];exact SR c nd L
 |move v w h =>
  refine j7 (k:="move") (f:="NN") (a:=109) ⟨by decide,by decide,by decide,by decide,by decide,by decide,by decide,Z,kd,Z,kd,Z,Z,Z,bR (t_ c) 2 nf Z⟩ (qCV c nd) h (o3 h aC) Z L hp Y λe=>?_;have J:wa v=Vp/\wa w=true:=by simpa using e
  have kj:∀ {w:Ah},wa w=Vp->∃ a:Aq,mf w=.int a:=λ{w} h=>by
   rcases rN w with h'|h'
   .exact h'
   .unfold wa at h;rw[h'] at h;cases h
  obtain⟨a,O⟩:=kj J.1;obtain⟨b,N⟩:=kj J.2;rw[show [v,w].map mf=[mf v,mf w] from rfl,O,N];exact SQ c nd L a b
 |turn e =>
  subst e;exact j7 (k:="turn") (f:="") (a:=116) (ws:=[]) ⟨by decide,by decide,by decide,by decide,by decide,by decide,by decide,rfl,kd,rfl,kd,rfl,rfl,rfl,bR (t_ c) 3 nf rfl⟩ (YG c nd) ⟨(Hc _).symm,(λ_ h=>by cases h),EQ _⟩ aC rfl L hp Y λ_=>SS c L
 |mir e =>
  subst e;exact j7 (k:="mirror") (f:="") (a:=109) (ws:=[]) ⟨by decide,by decide,by decide,by decide,by decide,by decide,by decide,rfl,kd,rfl,kd,rfl,rfl,rfl,bR (t_ c) 4 nf rfl⟩ (YG c nd) ⟨(Hc _).symm,(λ_ h=>by cases h),EQ _⟩ aC rfl L hp Y λ_=>K4 c L
def BY (c:Cl)(nf:(uh c).Nodup){o j:Aj}{l:Ab Pt}{past:Ab (Ab Pt)}{S:ag}(A:be c o j (past++[l]) S)(L:fw 40 l):a_ c [.loc o,.str "lot"] S=.ok (.str (tx l)) S:=by obtain⟨g,e,rfl⟩:=Q5 c (k:="lot") aC aC kd (by rfl) aC kd o S;exact(e.trans (M6 A nf)).trans (EB c L _ S)
def xj:Ab Pt:=[(0,0)]
def IQ:fw 40 xj:=⟨by decide,by decide,Nk _ _,λq Y=>by rw[Bz.mp Y];exact⟨by decide,by decide,by decide,by decide⟩⟩
def LY {f:Ah}{U J:DE}{S S1 Y:ag}{fs:Ab (Ah × D)}(N:J ac S=.ok d S1)(O:U ac S1=.ok (.loc i) Y)(G:Y[i]? = Aa (.ins C fs))(B:fs.length<1000):dS C f U J ac S=.nx ac (Y.set i (.ins C (tS f d fs))):=by simp only[dS,N,ax.toS,O,G];exact Au ⟨trivial,B⟩
def DZ (c:Cl)(ac:qF)(S:ag):∃ S1,bF c.Desk (ey c) ac S=.ok (.loc S.length) S1/\be c S.length (S.length+1) ([] ++ [xj]) S1/\S1.length=S.length+2/\∀ m,m<S.length->S1[m]? = S[m]?:=by
 have e:ey c [.loc S.length] (S++[MO.ins c.Desk []]) = .ok .non ((S++[MO.ins c.Desk [],MO.lst [qK xj]]).set S.length (.ins c.Desk [("lots",.loc (S.length+1))])):=by
  rw[gW];show jG (gn c [Aa (.loc S.length)] (S++[MO.ins c.Desk []])) = _;have k:gn c [Aa (.loc S.length)] (S++[MO.ins c.Desk []]) = .nx [Aa (.loc S.length)] ((S++[MO.ins c.Desk [],MO.lst [qK xj]]).set S.length (.ins c.Desk [("lots",.loc (S.length+1))])):=by
   have Y:tG (qA (dC (D.tup [D.tup [D.int 0,D.int 0]])) qC) [Aa (.loc S.length)] (S++[MO.ins c.Desk []]) = .ok (.loc (S.length+1)) (S++[MO.ins c.Desk [],MO.lst [qK xj]]):=by refine zA ?_;rfl';exact⟨by simp,by simp;rfl⟩
   have J:(S++[MO.ins c.Desk [],MO.lst [qK xj]])[S.length]? = Aa (.ins c.Desk []):=by simp
   exact LY Y Z J aC
  rw[k];rfl
 refine⟨(S++[MO.ins c.Desk [],MO.lst [qK xj]]).set S.length (.ins c.Desk [("lots",.loc (S.length+1))]),?_,⟨?_,?_,by lia⟩,by simp,λm U=>?_⟩;unfold bF;rw[e];simp;rw[Di li];simp;rw[Di li,Cn U]
def NC:fg "lot ":=by intro c Y;revert c;decide
def X7:("lot " : Ah).length=4:=by decide
def BU (Y:fg t)(J:t.length<=600):wn ("lot " ++ t):=.lot t ⟨by rw[zS,bT],wH NC Y,by rw[qS,X7];lia⟩
def o4 {p k w:Ah}(e:p.cps.toList=k.cps.toList++[32])(hw:rq w):Ln (p++w) k [w]:=⟨by rw[zS,e];simp,(λy Y=>by rw[Bz.mp Y];exact hw),Bv Z⟩
noncomputable def YZ:Ab Ah:=["0","0,01","x","1001,0","0,0,0","-0,0","0,","1,2\n","+1,0","--1,0","01"]
def _b (l:Ab Aj):Ar:=l.all (λc=>decide (c<128)&&decide (c≠32))&&decide (l.length<=100)&&decide (l≠[])
def qB4 {w:Ah}(h:_b w.cps.toList=Vp):rq w:=by
 unfold _b at h;rw[Ax,Ax,Bb,Bb,Bg] at h;obtain⟨⟨U,G⟩,J⟩:=h;have k:∀ c∈w.cps.toList,c<128/\c≠32:=λc Y=>by have:=U c Y;rw[Ax,Bb,Bb] at this;exact this
 exact⟨λc Y=>(k c Y).1,by rw[<- zY];exact G,λz=>(k 32 z).2 rfl,λz=>J (by rw[z];exact yX)⟩
def SX:(YZ.all λw=>_b w.cps.toList)=true:=kd
def GE {w:Ah}(h:w∈YZ):rq w:=qB4 (Bg.mp SX w h)
def IZ {l:Ab Pt}{S:ag}(h:wU S p)(L:fw 40 l)(q:∀ x S',Kp p S S'->wn x->Q (.str x) S'):Ok (gb [.loc p,me l past] S) Q:=by
 rw[gZ];refine zB (ac:=[Aa (.loc p),Aa (me l past),Zw,Zw,Zw,Zw,Zw,Zw,Zw,Zw,Zw,Zw]) Z ?_;unfold me;have hl:=L.len;have zo:=Gg.mpr L.ne;rfl';refine x9 h li λG S1 j zl=>?_;rfl';refine x9 j.pen li λr S2 H h2=>?_;refine jP (show r<4 by lia) λd J=>?_;obtain⟨wide,rfl,I⟩:∃ w:Aq,d=.int w/\1<=w/\w<=1000:=by simp only[Av,Cz,Fu] at J;rcases J with rfl|rfl|rfl|rfl <;> exact⟨_,rfl,by lia⟩
 rfl';refine qBO H.pen λany S3 s La=>?_;rfl';refine j6 (a:=l.map az) ?_;rfl';refine x9 s.pen (by rw[Ao];lia) λn S4 A h4=>?_;rw[Ao] at h4;obtain⟨z,ez,hz⟩:∃ z,_L.jm (l.map az) (n:Aq)=Aa (az z)/\z∈l:=by
  have hn:n<(l.map az).length:=by rw[Ao];lia
  exact⟨l[n]' li,by rw[t7 hn,Kc],Fx _⟩
 refine tO ez ?_;rfl';refine rP I A.pen λy S5 g hy=>?_;have Y:gu 1000 y:=by unfold Bx at hy;unfold gu;lia
 rfl';refine x9 g.pen li λa S6 m h6=>?_;refine jP (show a<10 by lia) λod B=>?_;obtain⟨ow,rfl,N⟩:∃ w:Ah,od=.str w/\rq w:=by simp only[Av,Cz,Fu] at B;rcases B with rfl|rfl|rfl|rfl|rfl|rfl|rfl|rfl|rfl|rfl <;> exact⟨_,rfl,GE (by simp[YZ])⟩
 rfl';refine x9 m.pen li λb S7 k7 h7=>?_;refine jP (show b<2 by lia) λwd E=>?_;have U:Kp p S S7:=(((((j.trans H).trans s).trans A).trans g).trans m).trans k7;clear j H s A g m k7;obtain⟨ww,rfl,O⟩:∃ w:Ah,wd=.str w/\w.length<=5/\∀ v,rq v->wn (w++v):=by
  simp only[Av,Cz,Fu] at E;rcases E with rfl|rfl
  .exact⟨_,Z,by decide,λv hv=>.put v (o4 aC hv)⟩
  .exact⟨_,Z,by decide,λv hv=>.take v (o4 aC hv)⟩
 rfl';refine x3 (λe=>?_) λe=>?_
 .have zn:=La.len;have ta:=N4 (M:=41) (Ay _) (l:=any) li La.box;rfl';refine pT (l:=any) li La.box (vL Z) ?_;rfl';refine IY ta.1 ta.2 U.pen λx S8 k8 c o=>?_;rfl';have hb:∀ p∈l++[(999,999)],gu 1000 p:=λp hp=>by
   rcases Ch.mp hp with hp|hp
   .exact L.box p hp
   .rw[Bz.mp hp];exact⟨by decide,by decide,by decide,by decide⟩
  have tl:=N4 (M:=41) (Ay _) (l:=l++[(999,999)]) (by rw[Az,Cu];lia) hb;refine mL (by rw[Ao];unfold bb;simp only[Aw,Cy];lia) ?_;rw[show D.tup (l.map az++[D.tup [D.int 999,D.int 999]])=qK (l++[(999,999)]) by unfold qK;rw[Ds];rfl];rfl';refine pT (l:=l++[(999,999)]) (by rw[Az,Cu];lia) hb (vL Z) ?_;rfl';refine jP (show G<3 by lia) λd J=>?_;obtain⟨t,rfl,t1,t2⟩:∃ t:Ah,d=.str t/\fg t/\t.length<=600:=by
   simp only[Av,Cz,Fu] at J;rcases J with rfl|rfl|rfl
   .exact⟨_,Z,ta.1,by lia⟩
   .exact⟨_,Z,c,o⟩
   .exact⟨_,Z,tl.1,by lia⟩
  refine zH (a:="lot ") (by rw[X7];lia) ?_;rfl';exact q _ _ (U.trans k8) (BU t1 t2)
 rfl';refine x3 (λe=>?_) λe=>?_;rfl';refine pT (l:=[y]) (Bv Z) (λp hp=>by rw[Bz.mp hp];exact Y) (YE Z) ?_;rw[QK];have k:=VQ Y;refine zH (a:="put ") (by have:=k.len;rw[show ("put " : Ah).length=4 by decide];lia) ?_;rfl';exact q _ _ U (.put _ (o4 aC k))
 rfl';refine x3 (λe=>?_) λe=>?_;rfl';refine pT (l:=[z]) (Bv Z) (λp hp=>by rw[Bz.mp hp];exact L.box z hz) (YE Z) ?_;rw[QK];have k:=VQ (L.box z hz);refine zH (by have:=k.len;lia) ?_;rfl';exact q _ _ U (O.2 _ k)
 rfl';refine x3 (λe=>?_) λe=>?_;rfl';refine zH (by have:=N.len;lia) ?_;rfl';exact q _ _ U (O.2 _ N)
 rfl';refine x3 (λe=>?_) λe=>?_
 .have n1:=vF (i:=y.1) ⟨Y.1,Y.2.1⟩;have n2:=vF (i:=y.2) ⟨Y.2.2.1,Y.2.2.2⟩;have lm:("move " : Ah).length=5:=by decide
  have ls:(" " : Ah).length=1:=by decide
  rfl';refine mM n1.2.2 ?_;refine zH (a:="move ") (b:=kj y.1) li ?_;rfl';refine zH (a:="move " ++ kj y.1) (b:=" ") (by rw[qS];lia) ?_;rfl';refine mM n2.2.2 ?_;rfl';refine x9 U.pen li λu S8 k8 h8=>?_;rfl';refine qD (d:=.int ((if decide ((u:Aq)=0)=Vp then 1 else 0:Aj):Aq)) (S:=S8) (by generalize decide ((u:Aq)=0)=b;cases b <;> rfl) ?_;refine jP (show (if decide ((u:Aq)=0)=Vp then 1 else 0)<2 by split <;> lia) λd J=>?_;obtain⟨t,rfl,ht⟩:∃ t:Ah,d=.str t/\rq t:=by
   simp only[Av,Cz,Fu] at J;rcases J with rfl|rfl
   .exact⟨kj y.2,Z,GD ⟨Y.2.2.1,Y.2.2.2⟩⟩
   .exact⟨_,Z,GE (by simp[YZ])⟩
  refine zH (by have:=ht.len;rw[qS,qS];lia) ?_;rfl';refine q _ _ (U.trans k8) (.move (kj y.1) t ⟨?_,λw I=>?_,Bv Z⟩);rw[zS,zS,zS,show ("move " : Ah).cps.toList=("move" : Ah).cps.toList++[32] by decide,show (" " : Ah).cps.toList=[32] by decide];simp
  .simp only[Av,Cz,Fu] at I;rcases I with rfl|rfl
   .exact GD ⟨Y.1,Y.2.1⟩
   .exact ht
 rfl';have zc:((G:Aq)-15)=((G-15:Aj):Aq):=by simp at *;lia
 rw[zc];refine jP (show G-15<5 by lia) λd J=>?_;simp only[Av,Cz,Fu] at J;rfl';rcases J with rfl|rfl|rfl|rfl|rfl
 .exact q _ _ U (.turn Z)
 .exact q _ _ U (.mir Z)
 all_goals exact q _ _ U (.back Z)
def spl:Ab Aj->Ab (Ab Aj)
 |[]=>[[]]
 |a::l=>if a=32 then [] :: spl l else match spl l with
  |[]=>[[a]]
  |p::r=>(a::p)::r
def KR:∀ l,spl l≠[]
 |[]=>by simp[spl]
 |a::l=>by
  unfold spl;split;simp
  .split <;> simp
set_option tactic.hygienic true in
theorem Q9:∀ l,∀ p∈spl l,32 ∉ p
 |[],p,h=>by
  rw[Bz.mp h];simp
 |a::l,p,h=>by
  have Y:=Q9 l;unfold spl at h;split at h
  .rcases Av.mp h with rfl|h
   .simp
   .exact Y p h
  .rename_i J;split at h
   .rw[Bz.mp h];simpa using Dm J
   .rename_i q r e;rw[e] at Y;rcases Av.mp h with rfl|h
    .intro z;rcases Av.mp z with z|z
     .exact J z.symm
     .exact Y q (.head _) z
    .exact Y p (.tail _ h)
set_option tactic.hygienic true in
theorem KQ:∀ l,jn 32 (spl l)=l
 |[]=>rfl
 |a::l=>by
  have Y:=KQ l;have U:=KR l;unfold spl;cases e:spl l with
  |nil=>exact absurd e U
  |cons p r =>
   rw[e] at Y;split;rename_i J;rw[J,<- Y];rfl
   .rw[<- Y];cases r <;> rfl
def dl:D->Aj
 |.str f=>f.length
 |_=>0
def ft:Ab (Ab Aj × Aj):=[([112,117,116],1),([116,97,107,101],1),([109,111,118,101],2),([116,117,114,110],0),([109,105,114,114,111,114],0),([98,97,99,107],0),([108,111,116],0),([102,97,114,115],0),([109,97,110,121],0),([111,102,116,101,110],1),([116,104,114,101,101,115],0),([117,110,108,105,107,101],0),([114,111,117,110,100],0),([115,113,117,97,114,101],0),([102,105,116,115],1),([98,97,114],0),([115,112,97,114,101],0)]
def qA6:zV.map (λp=>(p.1.cps.toList,dl p.2))=ft:=kd
def BA:∀ p∈zV,∃ f:Ah,p.2=.str f:=λp Y=>by have h:=Bg.mp (show (zV.all λp=>match p.2 with|.str _=>Vp|_=>Yp)=Vp from rfl) p Y;cases e:p.2 <;> rw[e] at h <;> first|exact⟨_,rfl⟩|cases h
set_option tactic.hygienic true in
theorem iG:∀ {T:Ab (Ah × D)},Dc k T=Aa d->(k,d)∈T
 |[],h=>by cases h
 |(x,e)::T,h=>by
  have h:(if decide (k=x)=Vp then Aa e else Dc k T)=Aa d:=h;split at h;rename_i Y;cases h;rw[Bd Y];exact .head _;exact .tail _ (iG h)
def WJ (ps:Ab (Ab Aj)):Prop:=[]∈ps\/∃ k Y,ps=k::Y/\∀ q∈ft,q.1=k->q.2≠Y.length
def GF (c:Cl){x:Ah}{ws:Y8}(sp:Txt.split x " " = ws)(L:x.length<=640)(h:WJ (ws.map (·.cps.toList)))(S:ag):ec c [.str x] S=.ex (.ref c.NoLine) .non S:=by
 rw[jD];refine wI (ac:=[Aa (.str x),Zw]) Z ?_;rfl';refine tP li aC ?_;rw[sp];rfl';refine xN ?_;rfl';refine qD (ZS ws "" S) ?_;rcases Decidable.em (("" : Ah)∈ws) with e|e
 .rw[Ci e];rfl';refine⟨λ_=>?_,λz=>by cases z⟩;rfl';exact wK ⟨_,Z⟩
 rw[Bo e];rfl';refine⟨(λz=>by cases z),λ_=>?_⟩;rcases h with h|⟨B,O,J,G⟩
 .obtain⟨y,Y,z⟩:=Cf.mp h;rw[show y = "" from v8 (z.trans aC)] at Y;exact absurd Y e
 cases ws with
 |nil=>cases J
 |cons k r =>
  obtain⟨rfl,rfl⟩:=Gh J;refine xN ?_;rfl';refine xA (d:=.str k) (kB (D.str k) (r.map D.str)) ?_;refine qD (d:=.bl (!PyProof.Rows.KTD.inKeys k zV)) (S:=S) rfl ?_;cases f:Dc k zV with
  |none =>
   rw[<- Os,f];refine⟨_,rfl,λ_=>?_,λz=>by cases z⟩;rfl';exact wK ⟨_,Z⟩
  |some d =>
   rw[<- Os,f];refine⟨_,rfl,(λz=>by cases z),λ_=>?_⟩;have hi:=iG f;obtain⟨g,rfl⟩:=BA _ hi;have N:=G (k.cps.toList,g.length) (by rw[<- qA6];exact Cf.mpr ⟨_,hi,rfl⟩) rfl;have U:g.length<=2:=by have:=Bg.mp (show (zV.all λp=>decide (dl p.2<=2))=Vp from kd) _ hi;exact Bd this
   rfl';refine xA (d:=.str k) (kB (D.str k) (r.map D.str)) ?_;rfl';refine qD (sE f S) ?_;rfl';refine pS li ?_;rfl';refine x3 (λe=>absurd e ?_) λ_=>?_;rw[Ao,Aw];rw[Ao] at N;lia;rfl';exact wK ⟨_,Z⟩
structure ou (x:Ah):Prop where
 hl:x.length<=640
 st:Txt.startswith x "lot " = Yp
 ps:∃ ps,ps≠[]/\(∀ p∈ps,32 ∉ p)/\x.cps.toList=jn 32 ps/\WJ ps
def ou.wd (c:Cl){x:Ah}(h:ou x)(S:ag):ec c [.str x] S=.ex (.ref c.NoLine) .non S:=by
 obtain⟨Y,G,f,e,b⟩:=h.ps;have m:(Y.map λl=>(⟨l.toArray⟩:Ah)).map (·.cps.toList)=Y:=by rw[Dl];exact(Ke λp _=>by simp).trans (Jc _)
 refine GF c (ws:=Y.map λl=>⟨l.toArray⟩) ?_ h.hl (by rw[m];exact b) S;rw[VG];refine lC (by simpa using G) (λp U=>?_) (by rw[m];exact e);obtain⟨l,J,rfl⟩:=Cf.mp U;simpa using f l J
def gN (l:Ab Aj):Ar:=!(l.take 4 == [108,111,116,32])&&((spl l).contains [] || match spl l with
 |[]=>Yp
 |k::Y=>ft.all λq=>!(q.1 == k)||!(q.2 == Y.length))
set_option tactic.hygienic true in
def gE {x:Ah}(G:x.length<=640)(h:gN x.cps.toList=Vp):ou x:=by
 unfold gN at h;rw[Ax,Kt] at h;refine⟨G,?_,spl x.cps.toList,KR _,Q9 _,(KQ _).symm,?_⟩;rw[jS];refine Bo λz=>?_;rw[z] at h;exact absurd h.1 aC
 .rcases h.2 with h|h
  .exact .inl (by simpa using h)
  .split at h
   .cases h
   .rename_i k J e;refine .inr ⟨k,J,e,λq Y U=>?_⟩;have:=Bg.mp h q Y;simp only[Kt,Jn,Ff] at this;exact this.elim (λz=>absurd U z) id
def aG {x:Ah}(J:x.length<=640){ps:Ab (Ab Aj)}(U:ps≠[])(f:∀ p∈ps,32 ∉ p)(e:x.cps.toList=jn 32 ps)(b:WJ ps)(Y:x.cps.toList.head?≠Aa 108):ou x:=by
 refine⟨J,?_,ps,U,f,e,b⟩;rw[jS];refine Bo λz=>?_;cases q:x.cps.toList with
 |nil=>rw[q] at z;cases z
 |cons c r =>
  rw[q] at z Y;exact Y (congrArg Aa (Gh z).1)
inductive oj (d:D):Prop
 |odd (h:∀ S,zQ [d,.ty "str"] S=.ok (.bl Yp) S)
 |txt (x:Ah) (e:d=.str x) (h:ou x)
def E4 {S Y:ag}(h:f ac S=.ex v x Y):qE (qV f t) g ac S=.ex v x ac Y:=by simp only[qE,qV,h,ax.toS]
def RW (c:Cl){d:D}(h:oj d)(o:Aj)(S:ag):a_ c [.loc o,d] S=.ex (.ref c.NoLine) .non S:=by
 cases h with
 |odd h =>
  rw[jB];refine wI (ac:=[Aa (.loc o),Aa d,Zw,Zw,Zw,Zw]) Z ?_;unfold d_;rfl';refine qD (h S) ?_;rfl';exact wK ⟨_,Z⟩
 |txt x e h =>
  subst e;rw[eA];unfold d_;rw[gG (rO c o x _ _ _ _ S),gG (by rw[mV,h.st]),E4 ((t9 rfl).trans (h.wd c S))];rfl
def qAS {x:Ah}{j:Aj}(h:j<=x.length):(Txt.slice x Zw (Aa (j:Aq))).cps.toList=x.cps.toList.take j:=congrArg (·.cps.toList) (Vo (x:=x) (j:=(j:Aq)) ⟨by lia,by rw[zY];lia⟩)
def qAR {x:Ah}{j:Aj}(h:j<=x.length):(Txt.slice x (Aa (j:Aq)) Zw).cps.toList=x.cps.toList.drop j:=by refine(congrArg (·.cps.toList) (Uh (x:=x) (i:=(j:Aq)) ⟨by lia,by rw[zY];lia⟩)).trans ?_;show Yr _ (x.cps.toList.drop j)=_;rw[Fy];rw[Gq,zY];show x.length-j<=((x.length:Aq)-(j:Aq)).toNat;lia
def m4:Ab Ah:=["put","take","fits","often"]
def uF:Ab Ah:=["turn","mirror","back","lot","fars","many","threes","unlike","round","square","bar","spare"]
def mR:Ah:="!\"#$&'()*+,-./0123456789:;<=>?@ABCDEFGHIJKLMNOPQRSTUVWXYZ[\\]^_`" ++ "abcdefghijklmnopqrstuvwxyz{|}~ \n"
def up (x:Ah):Ah:=Txt.upper x
def WV (x:Ah):Ah:=Txt.sliceBy x Zw Zw (-1,0)
def W2:mR.cps.toList.length=95/\mR.length<=200:=kd
def OE:(uF.all λw=>(Cp w.length).all λj=>mR.cps.toList.all λs=>gN (w.cps.toList.take j++s::w.cps.toList.drop j))=true:=kd
def EK:(uF.all λw=>gN (up w).cps.toList&&gN (WV w).cps.toList&&gN (w ++ "\n").cps.toList&&(decide (w = "lot")||gN (w ++ " ").cps.toList&&gN (w ++ " 1").cps.toList&&gN (w ++ " 0,0").cps.toList)&&decide (0<w.length/\w.length<=6/\(up w).length<=20/\(WV w).length<=20))=true:=kd
def nV:∀ k∈m4,k.length<=5/\(up k).length<=5/\32 ∉ k.cps.toList/\32 ∉ (up k).cps.toList/\k.cps.toList≠[]/\(up k).cps.toList≠[]/\k.cps.toList.head?≠Aa 108/\(up k).cps.toList.head?≠Aa 108/\(∀ q∈ft,q.1=k.cps.toList->q.2≠2)/\(∀ q∈ft,q.1=(up k).cps.toList->q.2≠1)/\∀ q∈ft,q.1=k.cps.toList++[115]->q.2≠1:=kd
def qA5:∀ q∈ft,44 ∉ q.1:=by decide
def lT {a b:Ab Aj}(Y:a≠[]):(a++b).head? = a.head?:=by
 cases a with
 |nil=>exact absurd rfl Y
 |cons _ _=>rfl
section
variable {x w:Ah}{a:Ab Aj}
def dD (G:x.length<=640)(hw:32 ∉ w.cps.toList)(e:x.cps.toList=a++32::w.cps.toList)(U:32 ∉ a)(Y:a≠[])(J:a.head?≠Aa 108)(b:∀ q∈ft,q.1=a->q.2≠1):ou x:=aG G (ps:=[a,w.cps.toList]) aA (by simp[U,hw]) e (.inr ⟨_,_,Z,b⟩) (by rw[e,lT Y];exact J)
def JQ (B:x.length<=640)(hw:32 ∉ w.cps.toList)(N:44∈w.cps.toList)(e:x.cps.toList=a++w.cps.toList)(G:32 ∉ a)(Y:a≠[])(U:a.head?≠Aa 108):ou x:=aG B (ps:=[a++w.cps.toList]) aA (by simp[G,hw]) e (.inr ⟨_,_,Z,λq J O=>absurd (by rw[O];exact Cb _ N) (qA5 q J)⟩) (by rw[e,lT Y];exact U)
def YU {ps:Ab (Ab Aj)}(U:x.length<=640)(e:x.cps.toList=jn 32 (a::ps))(f:∀ p∈a::ps,32 ∉ p)(Y:a≠[])(J:a.head?≠Aa 108)(b:WJ (a::ps)):ou x:=aG U aA f e b (by
 rw[e];cases ps with
 |nil=>exact J
 |cons p r =>
  show (a++_).head?≠_;rw[lT Y];exact J)
end
def w8 (ds:Ab D):Prop:=∀ d∈ds,oj d
def bB (J:w8 a)(U:w8 b):w8 (a++b):=λd Y=>(Ch.mp Y).elim (J d) (U d)
def uL:w8 []:=λ_ h=>by cases h
def x8 (h:oj d)(hs:w8 ds):w8 (d::ds):=λe he=>by
 rcases Av.mp he with rfl|he
 .exact h
 .exact hs e he
def x5 (h:ou x)(hs:w8 ds):w8 (.str x::ds):=x8 (.txt x Z h) hs
def bC {l:Y8}(h:(l.all λx=>gN x.cps.toList&&decide (x.length<=640))=Vp):w8 (l.map .str):=λd Y=>by obtain⟨x,J,rfl⟩:=Cf.mp Y;have:=Bg.mp h x J;rw[Ax,Bb] at this;exact .txt x rfl (gE this.2 this.1)
def oH {S:ag}(Y:w8 a)(J:w8 b)(l:a.length+b.length<=100)(q:∀ c:Ab D,w8 c->c.length=a.length+b.length->Q (.lst c) S):Ok (qR (.lst a) (.lst b) S) Q:=wL (by unfold bb;lia) (q _ (bB Y J) (Az ..))
def qCX:w8 [.non,.int 7,.bl Vp,.lst [.str "back"],.tup [.str "turn"],.dct0,.str "",.str " ",.str "put",.str "take",.str "move",.str "often",.str "fits",.str "put ",.str "fits "]:=by have k:w8 (([D.str "",.str " ",.str "put",.str "take",.str "move",.str "often",.str "fits",.str "put ",.str "fits "])):=bC (l:=[""," ","put","take","move","often","fits","put ","fits "]) kd;refine x8 (.odd ?_) (x8 (.odd ?_) (x8 (.odd ?_) (x8 (.odd ?_) (x8 (.odd ?_) (x8 (.odd ?_) k))))) <;> intro S <;> kernel_rfl!
def qCY:w8 [.str "move 1",.str "move 1 ",.str "move 1  2",.str "move 1 2 3",.str " move 1 2",.str "Move 1 2",.str "moves 1 2",.str "move  1"]:=bC (l:=["move 1","move 1 ","move 1  2","move 1 2 3"," move 1 2","Move 1 2","moves 1 2","move  1"]) kd
def TU {S:ag}(Y:(up x).length<=1000000)(h:Q (.str (up x)) S):Ok (pN (.str x) [] S) Q:=⟨_,_,Au (show (Txt.upper x).length<=bb by unfold bb;exact Ca Y aC),h⟩
structure Z3 (w:Ah):Prop where
 sp:32 ∉ w.cps.toList
 cm:44∈w.cps.toList
 l:w.length<=11
def qAC (h:gu 1000 q):Z3 (pw q):=⟨(VQ h).sp,by
 unfold pw;rw[zS,zS];exact Dh _ (Cb _ aC),(dO h).2⟩
def sN (a b:Ah)(l:Ab Aj)(h:b.cps.toList=l):(a++b).cps.toList=a.cps.toList++l:=by rw[zS,h]
def qCZ {k w:Ah}(U:k∈m4)(hw:Z3 w):w8 [.str (k ++ "  " ++ w),.str (k ++ " " ++ w ++ " "),.str (" put " ++ w),.str (k ++ " 0 " ++ w)]:=by
 obtain⟨l,H,s,N,J,B,Y,L,G,E,A⟩:=nV k U;have O:=hw.l;have I:("  " : Ah).length=2/\(" " : Ah).length=1/\(" put " : Ah).length=5/\(" 0 " : Ah).length=3:=by decide
 refine x5 (YU (a:=k.cps.toList) (ps:=[[],w.cps.toList]) ?_ ?_ ?_ J Y (.inl aA)) (x5 (YU (a:=k.cps.toList) (ps:=[w.cps.toList,[]]) ?_ ?_ ?_ J Y (.inl aA)) (x5 (aG (ps:=[[],[112,117,116],w.cps.toList]) ?_ aA ?_ ?_ (.inl aA) ?_) (x5 (YU (a:=k.cps.toList) (ps:=[[48],w.cps.toList]) ?_ ?_ ?_ J Y (.inr ⟨_,_,Z,G⟩)) uL)));rw[qS,qS];lia;rw[zS,sN _ _ [32,32] aC];simp[jn];simp[s,hw.sp];rw[qS,qS,qS];lia;rw[sN _ _ [32] aC,zS,sN _ _ [32] aC];simp[jn];simp[s,hw.sp];rw[qS];lia;simp[hw.sp];rw[zS,show (" put " : Ah).cps.toList=[32,112,117,116,32] by decide];simp[jn];rw[zS,show (" put " : Ah).cps.toList=[32,112,117,116,32] by decide];simp;rw[qS,qS];lia;rw[zS,sN _ _ [32,48,32] aC];simp[jn];simp[s,hw.sp]
def qCa {k w:Ah}(U:k∈m4)(hw:Z3 w):w8 [.str (up k ++ " " ++ w),.str (k ++ "s " ++ w),.str (k++w),.str ("took " ++ w),.str ("put\n" ++ w)]:=by
 obtain⟨l,A,s,G,J,N,Y,O,H,B,L⟩:=nV k U;have E:=hw.l;have I:("s " : Ah).length=2/\(" " : Ah).length=1/\("took " : Ah).length=5/\("put\n" : Ah).length=4:=by decide
 refine x5 (dD ?_ hw.sp ?_ G N O B) (x5 (dD (a:=k.cps.toList++[115]) ?_ hw.sp ?_ (by simp[s]) aA (by rw[lT J];exact Y) L) (x5 (JQ ?_ hw.sp hw.cm (zS _ _) s J Y) (x5 (dD (a:=[116,111,111,107]) ?_ hw.sp ?_ aC aC aC aC) (x5 (JQ ?_ hw.sp hw.cm (zS _ _) aC aC aC) uL))));rw[qS,qS];lia;rw[zS,sN _ _ [32] aC];simp;rw[qS,qS];lia;rw[zS,sN _ _ [115,32] aC];simp;rw[qS];lia;rw[qS];lia;rw[zS,show ("took " : Ah).cps.toList=[116,111,111,107,32] by decide];rfl;rw[qS];lia
def b8 {w:Ah}(h:w∈uF):ou (up w)/\ou (WV w)/\ou (w ++ "\n")/\(w ≠ "lot" -> ou (w ++ " ")/\ou (w ++ " 1")/\ou (w ++ " 0,0"))/\0<w.length/\w.length<=6/\(up w).length<=20:=by
 have k:=Bg.mp EK w h;simp only[Ax,Kt,Bb] at k;obtain⟨⟨⟨⟨U,O⟩,B⟩,Y⟩,J,G,N,L⟩:=k;have E:("\n" : Ah).length=1/\(" " : Ah).length=1/\(" 1" : Ah).length=2/\(" 0,0" : Ah).length=4:=by decide
 refine⟨gE li U,gE li O,gE (by rw[qS];lia) B,λz=>?_,J,G,N⟩;obtain Y:=Y.resolve_left z;exact⟨gE (by rw[qS];lia) Y.1.1,gE (by rw[qS];lia) Y.1.2,gE (by rw[qS];lia) Y.2⟩
def OD {w:Ah}(h:w∈uF){j n:Aj}(J:j<w.length)(Y:n<mR.cps.toList.length):ou (Txt.slice w Zw (Aa (j:Aq))++⟨#[mR.cps.toList[n]]⟩++Txt.slice w (Aa (j:Aq)) Zw):=by
 have k:=Bg.mp (Bg.mp (Bg.mp OE w h) j (Fe.mpr J)) _ (Fx Y);have N:=(b8 h).2.2.2.2.2.1;have G:=Txt.slice_le w Zw (Aa (j:Aq));have U:=Txt.slice_le w (Aa (j:Aq)) Zw;refine gE ?_ ?_;rw[qS,qS];show _+1+_<=_;lia;rw[zS,zS,qAS li,qAR li];simpa using k
def qCb {o w:Ah}(hw:Z3 w)(Y:ou (o ++ " 1"))(J:ou (o ++ " 0,0")):w8 [.str ("fit " ++ w),.str "often 1 2",.str "oftens 1",.str (o ++ " 1"),.str (o ++ " 0,0"),.str "Lot 0,0",.str "lots 0,0"]:=by
 have U:=hw.l;have G:("fit " : Ah).length=4:=by decide
 have k:w8 [.str "often 1 2",.str "oftens 1",.str "Lot 0,0",.str "lots 0,0",.str " lot 0,0"]:=bC (l:=["often 1 2","oftens 1","Lot 0,0","lots 0,0"," lot 0,0"]) kd;refine x5 (dD (a:=[102,105,116]) ?_ hw.sp ?_ aC aC aC aC) (x8 (k _ aA) (x8 (k _ aA) (x5 Y (x5 J (x8 (k _ aA) (x8 (k _ aA) uL))))));rw[qS];lia;rw[zS,show ("fit " : Ah).cps.toList=[102,105,116,32] by decide];rfl
def YK:oj (.str " lot 0,0")/\oj (.str "lot\n0,0")/\oj (.str "0,0")/\oj (.str "bar "):=by have k:w8 [.str " lot 0,0",.str "lot\n0,0",.str "0,0",.str "bar "]:=bC (l:=[" lot 0,0","lot\n0,0","0,0","bar "]) kd;exact⟨k _ aA,k _ aA,k _ aA,k _ aA⟩
def SO {S:ag}(e:ac[7]? = Aa (Aa (.str v)))(hv:v∈uF)(q:∀ o:Ah,ou (o ++ " 1")->ou (o ++ " 0,0")->o.length<=6->Q (.str o) S):Ok (mh (bg (d2 io (qB 7) (dC (.str "lot")))) (qB 7) (dC (.str "many")) ac S) Q:=by
 obtain⟨B,G,N,Y,U,J,O⟩:=b8 hv;have m:=(b8 (w:="many") (by simp[uF])).2.2.2.1 aC;refine vC (YY (o_2 (o_v e (o_c (YX ⟨_,Z,λz=>?_,λz=>?_⟩)))))
 .have z:v ≠ "lot":=by simpa using z
  exact o_v e (q v (Y z).2.1 (Y z).2.2 J)
 .exact o_c (q "many" m.2.1 m.2.2 aC)
def SK {S:ag}(e:ac[7]? = Aa (Aa (.str v)))(hv:v∈uF)(q:∀ d,oj d->Q d S):Ok (mh (bg (d2 io (qB 7) (dC (.str "lot")))) (d2 qR (qB 7) (dC (.str " "))) (dC (.str "bar ")) ac S) Q:=by
 obtain⟨B,G,N,Y,J,U,O⟩:=b8 hv;have L:(" " : Ah).length=1:=by decide
 refine vC (YY (o_2 (o_v e (o_c (YX ⟨_,Z,λz=>?_,λz=>?_⟩)))))
 .have z:v ≠ "lot":=by simpa using z
  exact o_2 (o_v e (o_c (zH li (q _ (.txt _ Z (Y z).1)))))
 .exact o_c (q _ YK.2.2.2)
def XE {S:ag}(e1:lstM a S=Aa xs)(e2:lstM b S=Aa ys)(J:w8 xs)(Y:w8 ys)(l:xs.length+ys.length<=100)(q:∀ c:Ab D,w8 c->c.length=xs.length+ys.length->Q (.loc S.length) (S++[.lst c])):Ok (jL a b S) Q:=JU e1 e2 (by unfold bb;lia) (q _ (bB J Y) (Az ..))
def JZ {l:Ab Pt}{S:ag}(h:wU S p)(L:fw 40 l)(q:∀ d S',Kp p S S'->oj d->Q d S'):Ok (di [.loc p,qK l] S) Q:=by
 rw[jI];refine zB (ac:=[Aa (.loc p),Aa (qK l),Zw,Zw,Zw,Zw,Zw,Zw,Zw,Zw,Zw,Zw]) Z ?_;have hl:=L.len;have zn:=Gg.mpr L.ne;rfl';refine j6 (a:=l.map az) ?_;rfl';refine x9 h (by rw[Ao];lia) λn S1 u U=>?_;rw[Ao] at U;obtain⟨z,ez,hz⟩:∃ z,_L.jm (l.map az) (n:Aq)=Aa (az z)/\z∈l:=by
  have U:n<(l.map az).length:=by rw[Ao];lia
  exact⟨l[n]' li,by rw[t7 U,Kc],Fx _⟩
 refine tO ez ?_;rfl';refine pT (l:=[z]) (Bv Z) (λp hp=>by rw[Bz.mp hp];exact L.box z hz) (YE Z) ?_;rw[QK];have N:=qAC (L.box z hz);generalize pw z=w at N;have lw:=N.l;rfl';refine x9 u.pen li λr S2 A hr=>?_;refine jP (show r<4 by lia) λd J=>?_;obtain⟨k,rfl,c⟩:∃ k:Ah,d=.str k/\k∈m4:=by simp only[Av,Cz,Fu] at J;rcases J with rfl|rfl|rfl|rfl <;> exact⟨_,rfl,by simp[m4]⟩
 have fk:=nV k c;rfl';refine x9 A.pen li λt S3 e zc=>?_;rfl';refine x9 e.pen li λY S4 y zl=>?_;rfl';refine x9 y.pen li λwide S5 g x=>?_;rfl';refine wL (Bv Z) ?_;rfl';refine x9 g.pen li λm S6 k6 hm=>?_;refine jP (show m<12 by lia) λd J=>?_;have kp:Kp p S S6:=((((u.trans A).trans e).trans y).trans g).trans k6;clear u A e y g k6;obtain⟨v,rfl,hv⟩:∃ v:Ah,d=.str v/\v∈uF:=by simp only[Zu,Ji,Av,Cz,Fu] at J;rcases J with rfl|rfl|rfl|rfl|rfl|rfl|rfl|rfl|rfl|rfl|rfl|rfl <;> exact⟨_,rfl,by simp[uF]⟩
 obtain⟨w1,w2,w3,w4,w5,w6,w7⟩:=b8 hv;rfl';refine zH (a:="!\"#$&'()*+,-./0123456789:;<=>?@ABCDEFGHIJKLMNOPQRSTUVWXYZ[\\]^_`") kd ?_;rw[show ("!\"#$&'()*+,-./0123456789:;<=>?@ABCDEFGHIJKLMNOPQRSTUVWXYZ[\\]^_`" : Ah) ++ "abcdefghijklmnopqrstuvwxyz{|}~ \n" = mR from rfl];rfl';refine pS li ?_;refine qBQ li ?_;rw[show ((Y:Aq) % (v.length:Aq))=((Y % v.length:Aj):Aq) by lia];have hj:Y % v.length<v.length:=Oa _ w5;generalize Y % v.length=j at hj;rfl';refine SO Z hv λo b s lo=>?_;have hs:wide<mR.cps.toList.length:=by rw[W2.1];lia
 have s1:=Txt.slice_le v Zw (Aa (j:Aq));have s2:=Txt.slice_le v (Aa (j:Aq)) Zw;have B:=OD hv hj hs;rfl';refine yN ?_;rfl';refine v7 li ?_;rfl';refine YW (by have:=W2.2;lia) (t7 hs) ?_;refine zH (by show _+1<=_;lia) ?_;rfl';refine yN ?_;rfl';refine v7 li ?_;refine zH (by rw[qS];show _+1+_<=_;lia) ?_;generalize Txt.slice v Zw (Aa (j:Aq))++⟨#[mR.cps.toList[wide]]⟩++Txt.slice v (Aa (j:Aq)) Zw=od at B;rfl';refine oH qCX qCY (Bv Z) λc1 a1 E=>?_;replace E:c1.length=23:=E;have ll:("  " : Ah).length=2/\(" " : Ah).length=1/\(" put " : Ah).length=5/\(" 0 " : Ah).length=3/\("s " : Ah).length=2/\("took " : Ah).length=5/\("put\n" : Ah).length=4/\("fit " : Ah).length=4/\(" 1" : Ah).length=2/\(" 0,0" : Ah).length=4/\("\n" : Ah).length=1:=by decide
 rfl';refine zH li ?_;rfl';refine zH (by rw[qS];lia) ?_;rfl';refine zH li ?_;rfl';refine zH (by rw[qS];lia) ?_;rfl';refine zH (by rw[qS,qS];lia) ?_;rfl';refine zH li ?_;rfl';refine zH li ?_;rfl';refine zH (by rw[qS];lia) ?_;rfl';refine oH a1 (qCZ c N) (by rw[E];exact Bv Z) λc2 a2 O=>?_;replace O:c2.length=27:=by rw[O,E];rfl
 rfl';refine aI ?_;rfl';refine TU li ?_;rfl';refine zH li ?_;rfl';refine zH (by rw[qS];lia) ?_;rfl';refine zH li ?_;rfl';refine zH (by rw[qS];lia) ?_;rfl';refine zH li ?_;rfl';refine zH li ?_;rfl';refine zH li ?_;rfl';refine oH a2 (qCa c N) (by rw[O];exact Bv Z) λc3 a3 I=>?_;replace I:c3.length=32:=by rw[I,O];rfl
 rfl';refine zH li ?_;rfl';refine zH li ?_;rfl';refine zH li ?_;rfl';refine XE Z Z a3 (qCb N b s) (by rw[I];exact Bv Z) λc4 a4 G=>?_;replace G:c4.length=39:=by rw[G,I];rfl
 rfl';refine⟨VL (vR _ _),?_⟩;rfl';refine aH (xs:=c4) (vR _ _) (by rw[G];exact Bv Z) ?_;rw[Q7];rfl';refine zH (by have:=ll.2.2.2.2.2.2.2.2.2.2;lia) ?_;rfl';refine aI ?_;rfl';refine TU li ?_;rfl';refine XH ?_;rfl';refine TM li ?_;rfl';refine XE (qBF (vR _ _)) Z (bB a4 (x8 YK.1 uL)) (x8 YK.2.1 (x8 YK.2.2.1 (x5 B (x5 B (x5 B (x5 w3 (x5 w1 (x5 w2 uL)))))))) (by rw[Az,G];exact Bv Z) λH a5 M=>?_;replace M:H.length=48:=by rw[M,Az,G];rfl
 rfl';refine⟨VL (vR _ _),?_⟩;rfl';refine SK Z hv λd J=>?_;rfl';refine aH (xs:=H) (vR _ _) (by rw[M];exact Bv Z) ?_;rw[Q7];rfl';have U:t<(H++[d]).length:=by rw[Az,Cu];lia
 refine uR (vR _ _) (t7 U) ?_;refine N9 (q _ _ (kp.trans (Kp.pre kp.pen ?_)) (bB a5 (x8 J uL) _ (Fx U)));rw[Ia];exact Iu _ _
section
variable {c:Cl}{o j p:Aj}{S S':ag}
def sS (h:be c o j ls S)(k:Kp p S S')(J:o≠p)(Y:j≠p):be c o j ls S':=⟨(k.same o (Bw.mp h.ob).1 J).trans h.ob,(k.same j (Bw.mp h.ls).1 Y).trans h.ls,h.ne⟩
def JF {J:Ab (Ab Pt)}{Y:Ab Pt}{a s:Aj}(nf:(uh c).Nodup)(A:be c o j (J++[Y]) S)(L:fw 40 Y)(U:ac[a]? = Aa (Aa (.loc o)))(es:ac[s]? = Aa (Aa (me Y J))):d2 io (xJ c.Desk "say" 2 (a_ c) (qB a) (qA (dC (.str "lot")) qC)) (qI 1 bq (qA (d2 bx (qB s) (dC (.int 0))) qC)) ac S=.ok (.bl Yp) S:=by refine zA (o_2 (qD ((aF A U Z).trans (BY c nf A L)) (JV (pR (o_2 (o_v es (o_c (tO (d:=qK Y) Z (aJ ⟨Z,?_⟩)))))))));exact pT (l:=Y) (by have:=L.len;lia) L.box (vL Z) (qD (JN _ _) ⟨Z,Z⟩)
def FV (nd:(zN c).Nodup){ls:Ab (Ab Pt)}{d:D}(A:be c o j ls S)(h:oj d):bj c [.loc o,d] S=.ok (rj (.str "line")) S:=jW A (RW c h o S) (by simp[yD]) (QV c nd S)
def GS {p:Ab (Ab Pt)}{m l:Ab Pt}(A:be c o j ((p++[m])++[l]) S)(Y:p.length<998):∃ S',bj c [.loc o,.str "back"] S=.ok (.str "ok") S'/\be c o j (p++[m]) S':=by have e:=fB A;rw[QM c A aA (by rw[Az,Cu];lia)] at e;exact⟨_,tV A e,nU A⟩
def NG (nd:(zN c).Nodup){l:Ab Pt}(A:be c o j [l] S):bj c [.loc o,.str "back"] S=.ok (rj (.str "deed")) S:=by have e:=fB (ls:=[]) A;rw[WD c A] at e;exact jW A e (xk c).2.2.2.1 (gR c nd S)
def R5 (past:Ab (Ab Pt))(S:ag):io (.tup (past.map qK)) (.tup []) S=.ok (.bl (!decide (past=[]))) S:=by
 have Y:pl qY (.tup (past.map qK))=true:=by show (past.map qK).all (pl 29)=Vp;rw[Hm,Bg];exact λl _=>K9 l 26
 refine(Au (show (pl qY (.tup (past.map qK))&&pl qY (.tup [])) = Vp by rw[Y];rfl)).trans ?_;cases past <;> rfl
end
def IvL (ns:Ab Aq)(_:Ab Aq)(ac:qF)(_:ag):Prop:=∃ O E Y J G U N B L,ac=[Aa (.lst (ns.map D.int)),O,E,Y,J,G,U,N,B,L]
def BS (c:Cl)(nd:(zN c).Nodup)(nf:(uh c).Nodup):∀ ns:Ab Aq,ns.length<=63->∃ S,qM 10 (uk c) [.lst (ns.map D.int)] [] = .ok (.bl Vp) S:=λns hl=>by
 have zc:Ok (qM 10 (uk c) [.lst (ns.map D.int)] []) λd _=>d=.bl true:=by
  refine zB (ac:=[Aa (.lst (ns.map D.int)),Zw,Zw,Zw,Zw,Zw,Zw,Zw,Zw,Zw]) Z ?_;unfold uk;refine VN (qB2 (RQ ns hl 6 rfl λms=>?_));refine j9 (IvL ns) ?_ ?_ ⟨_,_,_,_,_,_,_,_,_,Z⟩
  .rintro y xs _ S ⟨e1,e2,e3,e4,B,O,G,J,U,rfl⟩;rfl';refine qBS λp N p2=>?_;rfl';obtain⟨S3,e,A,zo,hm⟩:=DZ c [Aa (.lst (ns.map D.int)),Aa (.int y),Aa (.loc p),e3,e4,B,O,G,J,U] N;refine qD e ?_;rfl';have lp:=K8 p2;have p3:wU S3 p:=by
    obtain⟨v,f,e⟩:=p2;exact⟨v,f,(hm p lp).trans e⟩
   refine x9 p3 li λn S4 k4 H=>?_;rfl';refine⟨by lia,by lia,?_⟩;refine j9 (cq:=λ(i:Aj)=>D.int (i:Aq)) (λys ac M=>∃ l Y B O G J U,ac=[Aa (.lst (ns.map D.int)),Aa (.int y),Aa (.loc p),Aa (.loc N.length),Aa (me l Y),B,O,G,J,U]/\be c N.length (N.length+1) (Y++[l]) M/\wU M p/\fw 40 l/\(∀ m∈Y,fw 40 m)/\Y.length+ys.length<=900) ?_ ?_ ⟨xj,[],B,O,G,J,U,rfl,sS A k4 li li,k4.pen,IQ,(λ_ h=>by cases h),by rw[Fl,Cy];lia⟩
   .rintro i ys _ S5 ⟨l,Y,B,O,G,J,U,rfl,g,p5,L,I,H⟩;rw[Aw] at H;rfl';refine IZ p5 L λx w k6 hx=>?_;obtain⟨t,j,E,hw,hs,hd,L',o,zn⟩:=step c nd nf hx L I li;rfl';refine qD (hw w) ?_;rfl';obtain⟨u,e,k,-,h7⟩:=hs _ _ _ (sS g k6 li li);refine qD e ?_;rfl';refine qD (qAM u hd) ?_;rfl';have p7:wU u p:=by
     obtain⟨v,f,e⟩:=k6.pen;exact⟨v,f,(h7 p li).trans e⟩
    refine⟨by lia,by lia,?_⟩;refine j9 (cq:=λ(i:Aj)=>D.int (i:Aq)) (λ_ ac M=>∃ J U,ac=[Aa (.lst (ns.map D.int)),Aa (.int y),Aa (.loc p),Aa (.loc N.length),Aa (me j E),Aa (.int (i:Aq)),Aa (.str x),Aa t,J,U]/\be c N.length (N.length+1) (E++[j]) M/\wU M p) ?_ ?_ ⟨_,_,Z,k,p7⟩;rintro i2 _ _ S8 ⟨J,U,rfl,b,p8⟩;rfl';refine tO (a:=[qK j,.tup (E.map qK)]) (d:=qK j) Z ?_;rfl';refine JZ p8 L' λzl S9 k9 hb=>?_;have s:=sS b k9 li li;rfl';refine xN ?_;rfl';refine qD (FV nd s hb) ?_;rfl';refine qD (d:=.bl Yp) (S:=S9) (by kernel_rfl!) ?_;rfl';refine⟨(λz=>by cases z),λ_=>?_⟩;refine YY (qD (JF nf s L' Z Z) ⟨Yp,Z,?_⟩);rfl';exact sH ⟨_,_,Z,s,k9.pen⟩;rintro _ S8 ⟨J,U,rfl,b,p8⟩;exact sH ⟨j,E,_,_,_,_,_,Z,b,p8,L',o,by lia⟩
   .rintro _ S5 ⟨l,Y,B,O,G,J,U,rfl,g,p5,L,I,H⟩;rw[Cy] at H;refine qAm (VN ?_);refine EG (λn ac M=>∃ l Y G,ac=[Aa (.lst (ns.map D.int)),Aa (.int y),Aa (.loc p),Aa (.loc N.length),Aa (me l Y),B,O,G,J,U]/\be c N.length (N.length+1) (Y++[l]) M/\fw 40 l/\(∀ m∈Y,fw 40 m)/\Y.length=n/\n<=900) ?_ (n:=Y.length) (by rw[HE];lia) ⟨l,Y,G,Z,g,L,I,Z,by lia⟩;rintro n _ w ⟨l,Y,G,rfl,A6,L,I,rfl,H⟩;rfl';refine tO (a:=[qK l,.tup (Y.map qK)]) (d:=.tup (Y.map qK)) rfl ?_;rfl';refine qD (R5 Y w) ?_;refine⟨_,rfl,λz=>?_,λz=>?_⟩
    .rcases Uz Y with rfl|⟨E,m,rfl⟩
     .cases z
     .rw[Va] at I H A6 ⊢;rw[Az,Cu] at H ⊢;obtain⟨u,e,k⟩:=GS A6 li;rfl';refine qD (cR l m E w) ?_;rfl';refine xN ?_;rfl';refine qD e ?_;rfl';refine qD (JN "ok" u) ?_;rfl';refine⟨(λz=>by cases z),λ_=>?_⟩;refine YY (qD (JF nf k (I m aA) Z Z) ⟨Yp,Z,?_⟩);rfl';exact⟨E.length,Fv _,m,E,_,Z,k,I m aA,λq hq=>I q (Dh _ hq),Z,by lia⟩
    .obtain rfl:Y=[]:=by simpa using z
     rfl';refine qD (NG nd A6) ?_;rfl';refine qD (d:=.bl Yp) (S:=w) (by kernel_rfl!) ?_;rfl';exact sH ⟨_,_,_,_,_,_,_,_,_,Z⟩
  .rintro _ S ⟨e1,e2,e3,e4,B,O,G,J,U,rfl⟩;rfl';exact N9 Z
 obtain⟨d,S,e,rfl⟩:=zc;exact⟨S,e⟩
end _K
namespace _K
open _L _D
set_option hygiene false
end _K
set_option hygiene false in
local macro_rules|`(tactic|subst_eqs)=>do
 let I (x:String):=Lean.mkIdent (if x.contains '.' then x else "_D."++x).toName
 let F (s:String):Lean.MacroM (Lean.TSyntax `Lean.Parser.Tactic.tacticSeq):=do
  let l←(s.splitOn " ").toArray.mapM λx=>match x.splitOn ":" with
   |[a,b]=>do
    let s:=I ("PySem.F.slot_"++a)
    `(Lean.Parser.Tactic.tacticSeq|first|(apply _D.qEb;(case slot=>apply $s);(case' hm=>apply $(I b)))|(apply _D.qDl;(case slot=>apply $s);(case' hm=>apply $(I b))))
   |_=>`(Lean.Parser.Tactic.tacticSeq|apply $(I x))
  `(Lean.Parser.Tactic.tacticSeq|first $[|$l]*)
 `(tactic|(intros; repeat' first | ((with_reducible intro z); revert z; first | exact λ_ => ⟨rfl, rfl, rfl⟩ | (intro h; cases h; done) | exact _D.qEO U (.head _) _D.ck | exact _D.qEO U (.tail _ (.head _)) _D.ck | exact T.cls | exact V.dk_Desk.fld _ (.head _) | (intros; rfl) | (intro _ h; cases h <;> rfl) | intros) | with_reducible exact _D.ck | ((with_reducible show _D.QE _ _ _); with_reducible first | $(←F "aV qDq qDv qEe qCk aN") | (apply _D.aB; first | $(←F "qEu qEs qEo qDC qEI")) | $(←F "qEd qDr qDw") | (apply _D.aT; first | $(←F "qDW qEK qEr qEN qEH")) | $(←F "qCm aBt qDs qEa qEc qDm aCl qB5 qCn qEf qDu qDk aGi qDn qDo qDp qDH str_split:qDV list_append:qDA qDJ qCo qCl qDt qDI qAp str_join:qEJ str_removeprefix:qE0 str_upper:qDX list_count:qDS list_index:qDT list_pop:qEM str_isdecimal:qEp str_startswith:qDD")) | ((with_reducible show _D.QA _ _ _); with_reducible $(←F "qDh qDF qDg")) | ((with_reducible show _ = _); first | exact T.nb _D.ck | with_reducible apply PySem.F.plainAttrs_dict | with_reducible apply PySem.F.plainAttrs_list | with_reducible apply PySem.F.plainAttrs_str | with_reducible apply PySem.F.type_dict_get | with_reducible apply PySem.F.type_dict_setdefault | with_reducible apply PySem.F.type_list_append | with_reducible apply PySem.F.type_list_count | with_reducible apply PySem.F.type_list_index | with_reducible apply PySem.F.type_list_pop | with_reducible apply PySem.F.type_str_isdecimal | with_reducible apply PySem.F.type_str_join | with_reducible apply PySem.F.type_str_removeprefix | with_reducible apply PySem.F.type_str_split | with_reducible apply PySem.F.type_str_startswith | with_reducible apply PySem.F.type_str_upper | exact nomark _ | exact rfl | with_unfolding_all rfl) | ((with_reducible show _D.ZOp _ _ _); with_reducible $(←F "qEn qEG qE2 qEL qEx qEq qEw qEz qFT qFS qFO qFN qFM qFU qFQ qEv qDB qFP qDU")) | ((with_reducible show _D.RoomC _ _ _); first | assumption | exact _D.RoomC.mono (by assumption) | exact _D.RoomC.mono (_D.RoomC.any (by assumption)) | exact _D.RoomC.mark (by assumption) _ | exact _D.RoomC.mono (_D.RoomC.mark (by assumption) _)) | ((with_reducible show _D.St1 _ _ _ _); exact ⟨rfl, rfl⟩) | ((with_reducible show _D.DfS _ _ _ _ _ _ _ _ _ _); assumption) | ((with_reducible show _D.QS _ _ _); first | (with_reducible first | $(←F "qD7 qEg qDP aRs qD6 aP2 qCt") | apply _D.aRf (cm := Vp) | $(←F "aP3 qD5 aTr")) | ((with_reducible apply _D.qE3); case hsw => exact rfl) | ((with_reducible apply _D.aSt); case hs => exact rfl) | with_reducible apply _D.qD4) | ((with_reducible show _D.Fn1 _); first | exact ⟨rfl, rfl, rfl⟩ | exact T.ct) | (with_reducible first | $(←F "qDj qDG aNm qFR qDi qCp qDQ qCs qDO qDy qDK qDN qDz qD9 jTi jTn qD8 qCu") | (apply _D.qEh; first | $(←F "qDR qEC qEB qEi")) | $(←F "qEA qDR qEC qEB qEi PySem.F.plainAttrs_str qEy PySem.F.plainAttrs_list qDM qD1 qD0 PySem.F.type_str_split PySem.F.type_list_append iMt qCq iTx qCv PySem.F.type_str_join aFv qDx qEt qE1 PySem.F.plainAttrs_dict iGs qD3 qD2 PySem.F.type_dict_setdefault PySem.F.type_str_removeprefix PySem.F.type_str_upper iGt iMk qE6 qCr qDL PySem.F.type_dict_get PySem.F.type_list_count PySem.F.type_list_index PySem.F.type_list_pop PySem.F.type_str_isdecimal PySem.F.type_str_startswith qEP")) | exact T.cl (by kernel_rfl) | exact T.rz (by kernel_rfl) | exact T.ct | exact T.gi (by kernel_rfl) | ((with_reducible apply _D.aLm1); (case _D.D => assumption)) | ((with_reducible show _D.ClA _ _ _ _); first | assumption | exact _D.ClA.tr (by assumption)) | ((with_reducible show _D.LmX _ _ _ _ _ _ _ _ _ _); assumption) | ((with_reducible show _D.DfL _ _ _ _ _ _ _ _ _ _ _ _ _); assumption) | ((with_reducible show _D.LmK _ _); refine _D.lmK N (by assumption) ?_ rfl) | ((with_reducible show _D.ZF _ _ _ _); first | apply _D.aFn | apply _D.qE4) | exact λ_ => ⟨rfl, rfl, rfl⟩ | (intro h; cases h; done) | ((with_reducible show _D.FcOk _ _ _ _ _); exact (U _ (.head _)).toFcOk) | ((with_reducible show _D.FcOk _ _ _ _ _); exact (U _ (.tail _ (.head _))).toFcOk) | exact _D.qEO U (.head _) _D.ck | exact _D.qEO U (.tail _ (.head _)) _D.ck | exact T.cls | ((with_reducible show _D.DkK _ _); exact ⟨V.dk_Desk.cls⟩) | exact V.dk_Desk.fld _ (.head _) | ((with_reducible show _D.MDfS _ _ _ _ _ _ _ _ _ _ _); assumption) | ((with_reducible show _D.MIfS _ _ _ _ _ _ _ _); assumption) | exact V.tab_FORMS | exact V.tab_DEEDS | exact V.tab_QUESTIONS | exact V.str_LOT_AND_BLANK | exact V.tup_FIRST_LOT | ((with_reducible show _D.ZPass _); first | assumption | exact _D.qDY) | exact ⟨rfl, rfl⟩ | exact ⟨rfl, rfl, rfl⟩ | apply _D.qDj | apply _D.qDG | decide | (intros; rfl) | (intro _ h; cases h <;> rfl) | intro _))
namespace _K
open _D
set_option hygiene true
variable {K:Ag}{mg:J8}{P:Ba}{w:Bu}{c:Cl}
def uC {base:Bc}(T:Txt K mg c){k:Aj}{F:DF}(d:DfS F P w K mg base Vp k "_law_same" 2):DfS (qM 4 (eh F)) P w K mg base Vp (k+1) "_law_same" 2:=by
 refine dq P w base k 67 T Z ck Z ?_
 subst_eqs
abbrev Ed (P:Ba)(w:Bu)(K:Ag)(mg:J8)(base:Bc)(F:DF)(k:Aj)(x:Ah)(n:Aj):Prop:=DfS F P w K mg base Vp k x n
def G0 (P:Ba)(w:Bu)(K:Ag)(mg:J8)(base:Bc)(c:Cl):Prop:=Ed P w K mg base ao 1 "_law_draw" 2/\MIfS (ey c) P w K mg base 1 c.Desk/\Ed P w K mg base bq 1 "_law_text" 1/\Ed P w K mg base di 2 "_law_no_line" 2/\DfS (au c) P w K mg base Yp 1 "_law_kind_of" 1/\Ed P w K mg base er 1 "number_in" 1/\Ed P w K mg base fr 1 "is_whole" 1/\Ed P w K mg base fy 2 "is_within" 3/\Ed P w K mg base ef 3 "is_point" 1/\Ed P w K mg base fq 4 "point_in" 1/\Ed P w K mg base fz 1 "is_rising" 1/\Ed P w K mg base gw 4 "is_lot" 1/\Jk
def qBg {base:Bc}(T:Txt K mg c)(nd:(zN c).Nodup)(V:yx K mg c)(nf:(uh c).Nodup)(U:vt K mg (yp c))(N:(rC.all λy=>(Do K y).isSome)=Vp):G0 P w K mg base c:=by
 have d:=@V_ _ _ _ _ _ _ _ _ _ _ P w base T;refine d 0 65 Z ck p6 (λE=>?_) ?_;refine hv (λH=>?_) (iq (P:=P) (w:=w) (mg:=mg) (base:=base) 0 (DB V.m_Desk_init V.dk_Desk o7) ck (gW c) ?_);refine d 0 73 Z ck pB (λC=>?_) ?_;refine d 1 82 Z ck jI (λJ=>?_) ?_;refine hv (λG=>?_) (dq (cm:=Yp) P w base 0 68 T Z ck (vA c) ?_);refine d 0 33 Z ck pF (λB=>?_) ?_;refine d 0 0 rfl ck fK (λA=>?_) ?_;refine d 1 1 rfl ck pE (λL=>?_) ?_;refine d 2 5 rfl ck fJ (λI=>?_) ?_;refine d 3 34 Z ck fN (λO=>?_) ?_;refine d 0 2 rfl ck pD (λY=>?_) ?_;refine d 3 6 rfl ck tW (λQ=>?_) ?_;refine⟨E,H,C,J,G,B,A,L,I,O,Y,Q,trivial⟩
 all_goals subst_eqs
def G1 (P:Ba)(w:Bu)(K:Ag)(mg:J8)(base:Bc)(c:Cl):Prop:=Ed P w K mg base (jo c) 5 "read" 1/\MDfS (bn c) P w K mg base Vp 1 c.Desk "keep" 2/\Ed P w K mg base (ci c) 2 "number_of" 1/\Ed P w K mg base (df c) 5 "point_of" 1/\Ed P w K mg base (bw c) 6 "values_of" 1/\Ed P w K mg base (ec c) 1 "words_of" 1/\Ed P w K mg base (cx c) 2 "need_number" 1/\Ed P w K mg base (dk c) 4 "need_point" 1/\Ed P w K mg base (dh c) 5 "need_lot" 1/\Ed P w K mg base (fu c) 6 "moved" 3/\Ed P w K mg base (gt c) 7 "move" 2/\Ed P w K mg base (kg c) 6 "shown" 1/\Ed P w K mg base (ce c) 7 "tell_lot" 2/\Jk
def qBh {base:Bc}(T:Txt K mg c)(nd:(zN c).Nodup)(V:yx K mg c)(nf:(uh c).Nodup)(U:vt K mg (yp c))(N:(rC.all λy=>(Do K y).isSome)=Vp)(M:G0 P w K mg base c): G1 P w K mg base c:=by
 obtain⟨_,_,_,_,_,_,_,_,_,_,_,_,_⟩:=M;have d:=@V_ _ _ _ _ _ _ _ _ _ _ P w base T;refine d 4 36 rfl ck (fV c) (λC=>?_) ?_;refine hv (λA=>?_) (mq (P:=P) (w:=w) (mg:=mg) (base:=base) (cm:=Vp) 0 (rM V.m_Desk_keep o8) ck (gX c) ?_);refine d 1 43 rfl ck (uK c) (λO=>?_) ?_;refine d 4 42 rfl ck (jC c) (λG=>?_) ?_;refine d 5 62 rfl ck (pG c) (λL=>?_) ?_;refine d 0 61 rfl ck (jD c) (λI=>?_) ?_;refine d 1 3 rfl ck (kA c) (λz=>?_) ?_;refine d 3 7 rfl ck (vY c) (λH=>?_) ?_;refine d 4 8 rfl ck (fM c) (λB=>?_) ?_;refine d 5 30 rfl ck (b9 c) (λE=>?_) ?_;refine d 6 46 rfl ck (eF c) (λQ=>?_) ?_;refine d 5 35 rfl ck (lI c) (λY=>?_) ?_;refine d 6 50 rfl ck (fO c) (λJ=>?_) ?_;refine⟨C,A,O,G,L,I,z,H,B,E,Q,Y,J,trivial⟩
 all_goals subst_eqs
def G2 (P:Ba)(w:Bu)(K:Ag)(mg:J8)(base:Bc)(c:Cl):Prop:=MDfS (bv c) P w K mg base Vp 1 c.Desk "undo" 1/\Ed P w K mg base (de c) 6 "turned_about" 1/\Ed P w K mg base (gq c) 7 "turn" 2/\Ed P w K mg base (gg c) 6 "mirrored" 1/\Ed P w K mg base (dy c) 7 "mirror" 2/\Ed P w K mg base (gc c) 1 "take" 2/\Ed P w K mg base (ii c) 3 "put" 2/\MDfS (a_ c) P w K mg base Vp 12 c.Desk "say" 2/\Ed P w K mg base (bj c) 13 "_law_said" 2/\Ed P w K mg base et 1 "_law_cell" 2/\Ed P w K mg base cn 2 "_law_point" 2/\Ed P w K mg base cf 2 "_law_bent_text" 2/\Jk
def qBi {base:Bc}(T:Txt K mg c)(nd:(zN c).Nodup)(V:yx K mg c)(nf:(uh c).Nodup)(U:vt K mg (yp c))(N:(rC.all λy=>(Do K y).isSome)=Vp)(M:G0 P w K mg base c)(A:G1 P w K mg base c): G2 P w K mg base c:=by
 obtain⟨_,_,_,_,_,_,_,_,_,_,_,_,_⟩:=M;obtain⟨_,_,_,_,_,_,_,_,_,_,_,_,_,_⟩:=A;have d:=@V_ _ _ _ _ _ _ _ _ _ _ P w base T;refine hv (λO=>?_) (mq (P:=P) (w:=w) (mg:=mg) (base:=base) (cm:=Vp) 0 (rM V.m_Desk_undo o9) ck (uI c) ?_);refine d 5 31 rfl ck (jJ c) (λH=>?_) ?_;refine d 6 47 rfl ck (eG c) (λG=>?_) ?_;refine d 5 32 rfl ck (fL c) (λJ=>?_) ?_;refine d 6 48 rfl ck (tX c) (λB=>?_) ?_;refine d 0 45 rfl ck (g6 c) (λE=>?_) ?_;refine d 2 44 rfl ck (bA c) (λz=>?_) ?_;refine hv (λI=>?_) (mq (P:=P) (w:=w) (mg:=mg) (base:=base) (cm:=Vp) 11 (rM V.m_Desk_say QY) ck (jB c) ?_);refine d 12 78 rfl ck (uJ c) (λC=>?_) ?_;refine d 0 63 rfl ck gY (λL=>?_) ?_;refine d 1 69 rfl ck kY (λQ=>?_) ?_;refine d 1 77 rfl ck uG (λY=>?_) ?_;refine⟨O,H,G,J,B,E,z,I,C,L,Q,Y,trivial⟩
 all_goals subst_eqs
def G3 (P:Ba)(w:Bu)(K:Ag)(mg:J8)(base:Bc)(c:Cl):Prop:=Ed P w K mg base gj 3 "_law_lot" 2/\Ed P w K mg base gb 4 "_law_deed" 2/\Ed P w K mg base ff 1 "_law_whole" 1/\Ed P w K mg base b_ 2 "_law_is_point" 1/\Ed P w K mg base bh 1 "_law_number" 1/\Ed P w K mg base ba 3 "_law_point_in" 1/\Ed P w K mg base cy 3 "_law_is_lot" 1/\Ed P w K mg base f_ 4 "_law_read" 1/\Ed P w K mg base bo 4 "_law_changed" 3/\Ed P w K mg base bt 5 "_law_went" 2/\Ed P w K mg base cj 4 "_law_same" 2/\Ed P w K mg base gh 1 "_law_pen" 1/\Jk
def qBj {base:Bc}(T:Txt K mg c)(nd:(zN c).Nodup)(V:yx K mg c)(nf:(uh c).Nodup)(U:vt K mg (yp c))(N:(rC.all λy=>(Do K y).isSome)=Vp)(z:G0 P w K mg base c)(M:G1 P w K mg base c)(k:G2 P w K mg base c): G3 P w K mg base c:=by
 obtain⟨_,_,_,_,_,_,_,_,_,_,_,_,_⟩:=z;obtain⟨_,_,_,_,_,_,_,_,_,_,_,_,_,_⟩:=M;obtain⟨_,_,_,_,_,_,_,_,_,_,_,_,_⟩:=k;have d:=@V_ _ _ _ _ _ _ _ _ _ _ P w base T;refine d 2 70 rfl ck fG (λO=>?_) ?_;refine d 3 81 rfl ck gZ (λA=>?_) ?_;refine d 0 66 rfl ck kZ (λG=>?_) ?_;refine d 1 71 rfl ck uS (λJ=>?_) ?_;refine d 0 74 rfl ck jZ (λB=>?_) ?_;refine d 2 75 rfl ck uT (λI=>?_) ?_;refine d 2 72 rfl ck jY (λj=>?_) ?_;refine d 3 76 rfl ck p9 (λH=>?_) ?_;refine d 3 79 rfl ck jH (λC=>?_) ?_;refine d 4 80 rfl ck pC (λL=>?_) ?_;have E:DfS (dX 0) P w K mg base Vp 0 "_law_same" 2:=⟨L5 (T.src 67 rfl)⟩;have Q:DfS cj P w K mg base Vp 4 "_law_same" 2:=pA▸uC T (uC T (uC T (uC T E)));refine d 0 64 rfl ck fH (λY=>?_) ?_;refine⟨O,A,G,J,B,I,j,H,C,L,Q,Y,trivial⟩
 all_goals subst_eqs
def DP {base:Bc}(T:Txt K mg c)(nd:(zN c).Nodup)(V:yx K mg c)(nf:(uh c).Nodup)(U:vt K mg (yp c))(N:(rC.all λy=>(Do K y).isSome)=Vp):∃ F,aR P w K mg base Vp 15 "law" ["_law_script"] F/\∀ ns:Ab Aq,ns.length<=63->∃ S,F [.lst (ns.map D.int)] [] = .ok (.bl Vp) S:=by
 have g0:=qBg (base:=base) (P:=P) (w:=w) T nd V nf U N ;have g1:=qBh (base:=base) (P:=P) (w:=w) T nd V nf U N g0;have g2:=qBi (base:=base) (P:=P) (w:=w) T nd V nf U N g0 g1;have g3:=qBj (base:=base) (P:=P) (w:=w) T nd V nf U N g0 g1 g2;obtain⟨_,_,_,_,_,_,_,_,_,_,_,_,_⟩:=g0;obtain⟨_,_,_,_,_,_,_,_,_,_,_,_,_,_⟩:=g1;obtain⟨_,_,_,_,_,_,_,_,_,_,_,_,_⟩:=g2;obtain⟨_,_,_,_,_,_,_,_,_,_,_,_,_⟩:=g3;refine⟨_,dqP 14 83 T rfl ck ?_,BS c nd nf⟩
 subst_eqs
end _K
namespace _K
open _L _D
variable {K:Ag}
def bdf:_a top tab:=by
 repeat (refine⟨?_,?_⟩;(intro _ _ _ _ _ _ Q h;first|(obtain⟨_,rfl⟩:=O_ h;rfl)|(obtain⟨_,_,rfl⟩:=N_ h;rfl)|(obtain⟨_,_,_,rfl⟩:=_c h;rfl)))
 exact trivial
def qAq {g y k d c q u p o l G z U Y C w I E j N H T A M J Q L B O:Af}(q0:Br K Bi "FarError" = Aa (Aa (.ref g)))(q1:Br K Bi "NoPoint" = Aa (Aa (.ref y)))(q2:Br K Bi "NoLot" = Aa (Aa (.ref k)))(q3:Br K Bi "NoNumber" = Aa (Aa (.ref d)))(q4:Br K Bi "NoCircle" = Aa (Aa (.ref c)))(q5:Br K Bi "NoMarks" = Aa (Aa (.ref q)))(q6:Br K Bi "NoFars" = Aa (Aa (.ref u)))(q7:Br K Bi "NoText" = Aa (Aa (.ref p)))(q8:Br K Bi "NoLine" = Aa (Aa (.ref o)))(q9:Br K Bi "NoDeed" = Aa (Aa (.ref l)))(q10:Br K Bi "Alike" = Aa (Aa (.ref G)))(q11:Br K Bi "TooMany" = Aa (Aa (.ref z)))(q12:Br K Bi "Desk" = Aa (Aa (.ref U)))(q13:Br K Bi "put" = Aa (Aa (.ref Y)))(q14:Br K Bi "take" = Aa (Aa (.ref C)))(q15:Br K Bi "move" = Aa (Aa (.ref w)))(q16:Br K Bi "turn" = Aa (Aa (.ref I)))(q17:Br K Bi "mirror" = Aa (Aa (.ref E)))(q18:Br K Bi "tell_lot" = Aa (Aa (.ref j)))(q19:Br K Bi "tell_fars" = Aa (Aa (.ref N)))(q20:Br K Bi "tell_many" = Aa (Aa (.ref H)))(q21:Br K Bi "tell_often" = Aa (Aa (.ref T)))(q22:Br K Bi "tell_threes" = Aa (Aa (.ref A)))(q23:Br K Bi "tell_unlike" = Aa (Aa (.ref M)))(q24:Br K Bi "tell_round" = Aa (Aa (.ref J)))(q25:Br K Bi "tell_square" = Aa (Aa (.ref Q)))(q26:Br K Bi "tell_fits" = Aa (Aa (.ref L)))(q27:Br K Bi "tell_bar" = Aa (Aa (.ref B)))(q28:Br K Bi "tell_spare" = Aa (Aa (.ref O))):WK K (qt ⟨g,y,k,d,c,q,u,p,o,l,G,z,U,Y,C,w,I,E,j,N,H,T,A,M,J,Q,L,B,O⟩):=⟨q0,q1,q2,q3,q4,q5,q6,q7,q8,q9,q10,q11,q12,q13,q14,q15,q16,q17,q18,q19,q20,q21,q22,q23,q24,q25,q26,q27,q28,trivial⟩
def qAr (J:Br K Bi "LEAST_NUMBER" = Aa (Aa (.int (-1000) k0)))(Q:Br K Bi "MOST_NUMBER" = Aa (Aa (.int (1000) k1)))(U:Br K Bi "MOST_POINTS" = Aa (Aa (.int (40) k2)))(Y:Br K Bi "MOST_FIGURES" = Aa (Aa (.int (30) k3))):WL K ua:=⟨⟨_,J⟩,⟨_,Q⟩,⟨_,U⟩,⟨_,Y⟩,trivial⟩
def IM {P:Ba}{w:Bu}(T:Txt K mg c)(nd:(zN c).Nodup)(V:yx K mg c)(nf:(uh c).Nodup)(U:vt K mg (yp c))(hT:(rC.all λy=>(Do K y).isSome)=Vp)(hfa:mg "law" = Aa (.ref fa)) :
  ∃ fd:Ft,(∀ (s:Ai) (v:Ac),Oe s fd ⟨[v],[]⟩ [("_law_script",v)])/\∀ base:Bc,K.In base->base.Ns Bi mg->q_ P w K mg base (qe P w) 15 fa fd ["_law_script"] (aM K):=
 DQ (T.src 83 Z) hfa (λkV doc pm an cdv ct s v=>.of_eq Z) λbase=>DP T nd V nf U hT
end _K
structure PySem.W.Fast:Prop where(tw12623424695002831930 tw3328442272078058368 tw2151246521246669506 tw8612338654853030835 tw14726731971074349201 tw17425517748921250804 tw13695186105185283078 tw16889035638047717682 tw9050948269845141822 tw14105058502903280200 tw10790840077596745709 tw6211483242573610797 tw3938426681028850925 tw5775062048401660833 tw17910625146179397348 tw13113827629181658231 tw7866949091257651472 tw9371117562189558613 tw9120575458658377702 tw9701201312344676426 tw713099008680831202 tw7892476039672611027 tw7925396810559052414 tw1407484546770536618 tw17881080269079130246 tw4243642666804835589 tw8409090202638392817 tw14482390962026073035 tw4408380103378889407 tw6736181758220636356 tw8118672418604622224 tw16199352074377269078 tw11570457691193815882 tw8369804230277493978 tw4474107626777475499 tw3429145212620754090 tw4752362772208454880 tw154271142654311129 tw15293687001071941012 tw12940251783995321032 tw18188367673436623250 tw13022782484654900616 tw4975910881909808839 tw891813577041360388 tw7001431455451372235 tw17971080010249264535 tw15855025864697695735 tw6781287334547550620 tw5631661121044441348 tw6338953356609150502 tw3815450873723111022 tw5454976394850032842 tw1077354900797512294 tw6179227703003193137 tw2024324996000379298 tw15038502281772735389 tw10214317812302318227 tw7274005829116357 tw5672825935041613381 tw3037904539802487478 tw2931014204726188547 tw9326082915756980221 tw15615006941330285903 tw15498316525783791240 tw6730497240159719912 tw1564896559908317177 tw14771260532662505224 tw15778128837628688297 tw12845031162713157659 tw5824315299455386875 tw1184753201117714094 tw10718765533827911066 tw3858240685411305385 tw4297263990326201434 tw5459454133744265112 tw2995903587579507847 tw8396755631306664612 tw10896837264563954029 tw16576700320696963292 tw2896241363650203843 tw92602695520448089 tw818943305446155101 tw8926191491710551222 tw15771800892774193836 tw16065529240601303585 tw6728555843785224805 tw6281293966727258383 tw12114605350739454881 tw13999768806140526029 tw15041178735501244558 tw10033473611139885444 tw1748209948968037979 tw9339411662415293829 tw5327264894163638616 tw5166694260078714662 tw7037771310695659966 tw8611067946313330800 tw18035566624599763937 tw16296650297900479418 tw5552622024964122560 tw15539838253913925116 tw5112553189754940776 tw8085997978578560752 tw17425816191978308362 tw15302306190276962187 tw4994008964884368262 tw612149426624957963 tw8296209779538696405 tw3611070976341378138 tw3611281191625341993 tw8014466564868739308 tw12774333118044102404 tw8110820582023752416 tw2688096820170847837 tw1852823476178522350 tw5975049702394961393 tw3083147351124737557 tw695382613495315535 tw2455794407914166253 tw4604099849422196698 tw12170500059835926964 tw12685837485875806640 tw1959043550302483638 tw13054720094035480928 tw5026835291746726364 tw1777346428381727332 tw2311912790588799796 tw2677757043325418961 tw16597406846614959535 tw11607838211959092633 tw17319159248476342133 tw1309417210342393575 tw12256154883971568229 tw3813743459714610750 tw10181897330068992288 tw16463106679005127834 tw10125157460512382504 tw4688994159850693755 tw3283922636132295501 tw7615990689718762852 tw8460294425583927461 tw16821339010786274901 tw6986199787082795839 tw1672722053630227872 tw12989617008073878413 tw4496595728287814829 tw1190960155343144799 tw16603439434601072190 tw1353216241502323477 tw8051923249352202718 tw13411676557286104409 tw6700639138092899842 tw12649341588017621709 tw803298521166515815 tw3051905178423752430 tw759422056706020590 tw17278180047262930224 tw4406336664258092917 tw2584405266306693409 tw2198807520022716423 tw6917809327862383280 tw17775138085857561094 tw16554071917975922170 tw15870372967526024694 tw942929821649742050 tw5429587558579813703 tw15225232140178213813 tw4792061632839770751 tw12180039490240131761 tw17719761586165647884 tw18405153716381254056 tw12888756981572029424 tw8994446916379423271 tw6265409442984960117 tw13285836234816655584 tw14753006316693862923 tw11677664054658843392 tw6770826879794626549 tw16365894961652289592 tw1042852042894136486 tw10237934860834366092 tw5878016657722574201 tw12902636570457056526 tw3042627525681945426 tw16480727468606985729 tw1416181471055321492 tw17602058606286567689 tw4048044453875145468 tw1567471814541951246 tw14590539443750949915 tw7423670084247801586 tw8331413475999802003 tw9564955534047995311 tw11666494295760400938 tw8005081092542737520 tw13578937844221488295 tw2313170760265264854 tw17639974640204318233 tw10474621437926242703 tw3605583942058544423 tw9368950116878647201 tw10178308382582322084 tw2560686739265906931 tw6332802872923585636 tw17405599309103244266:True)
open PySem.W
set_option maxRecDepth 100000 in
set_option maxHeartbeats 0 in
theorem PySem.Challenge.cw_fewdistances_k98_lines_that_are_none_holds : PySem.Challenge.rw_fewdistances_k98_lines_that_are_none.Holds := by
 w_on;o_law;k_head;(case hw=>w_witness2)
 k_fill
 refine _D.qB3 (l:=Pw) (k:=15) (x:="_law_script") Z Z ⟨Z,by decide,by decide,Z⟩ (λ_=>by kernel_rfl) (λw h ay=>PySem.W.km_in_of ay) ?F
 case F =>
  intro w mg fa h KX G hmg;refine' _K.IM (_D.qB0 _K.bdf ?hp Z KX G ?s ?z (_K.qAq ?q0 ?q1 ?q2 ?q3 ?q4 ?q5 ?q6 ?q7 ?q8 ?q9 ?q10 ?q11 ?q12 ?q13 ?q14 ?q15 ?q16 ?q17 ?q18 ?q19 ?q20 ?q21 ?q22 ?q23 ?q24 ?q25 ?q26 ?q27 ?q28) (_K.qAr ?gi0 ?gi1 ?gi2 ?gi3) ?e1 ?e2 ?e3 ?e4 ?e5 ?e6) ?nd ⟨(_D.qA0 ?dk_Desk ?df_Desk),(_D.ul.mk ?ma_Desk_init ?ml_Desk_init ?mc_Desk_init ?mn_Desk_init ?mk_Desk_init),(_D.ul.mk ?ma_Desk_say ?ml_Desk_say ?mc_Desk_say ?mn_Desk_say ?mk_Desk_say),(_D.ul.mk ?ma_Desk_keep ?ml_Desk_keep ?mc_Desk_keep ?mn_Desk_keep ?mk_Desk_keep),(_D.ul.mk ?ma_Desk_undo ?ml_Desk_undo ?mc_Desk_undo ?mn_Desk_undo ?mk_Desk_undo),(_D.BF KX G ?tq_FORMS ?tl_FORMS ?tn_FORMS ?tr_FORMS),(_D.BF KX G ?tq_DEEDS ?tl_DEEDS ?tn_DEEDS ?tr_DEEDS),(_D.BF KX G ?tq_QUESTIONS ?tl_QUESTIONS ?tn_QUESTIONS ?tr_QUESTIONS),(_D.qCP KX G ?sq_LOT_AND_BLANK),(_D.qCQ KX G ?uq_FIRST_LOT ?ul_FIRST_LOT ?um_FIRST_LOT)⟩ ?nf (_D.iO _K.UN KX G ?qx0 ?gx0 (_D.H_.mk ?bx0 ?ix0 ?lx0 ?cx0 ?kx0 ?ex0) (_D.iO _K.QU KX G ?qx1 ?gx1 (_D.H_.mk ?bx1 ?ix1 ?lx1 ?cx1 ?kx1 ?ex1) _D.LX)) ?hT hmg
  (case s=>(repeat (refine' ⟨_D.yc.mk ?a ?l ?c ?k,?_⟩;(case a=>k_is);(case l=>k_is);(case c=>k_is);(case k=>k_is)));exact trivial)
  (case z=>rfl)
  (case q0|q1|q2|q3|q4|q5|q6|q7|q8|q9|q10|q11|q12|q13|q14|q15|q16|q17|q18|q19|q20|q21|q22|q23|q24|q25|q26|q27|q28|gi0|gi1|gi2|gi3=>k_is)
  (case hp=>intro y hy;revert hy;simp;grind)
  (case e1|e2|e3|e4|e5|e6=>rfl)
  (case nd=>decide)
  (case dk_Desk|df_Desk=>rfl)
  (case ma_Desk_init|ml_Desk_init|mc_Desk_init|mn_Desk_init|mk_Desk_init|ma_Desk_say|ml_Desk_say|mc_Desk_say|mn_Desk_say|mk_Desk_say|ma_Desk_keep|ml_Desk_keep|mc_Desk_keep|mn_Desk_keep|mk_Desk_keep|ma_Desk_undo|ml_Desk_undo|mc_Desk_undo|mn_Desk_undo|mk_Desk_undo|tq_FORMS|tl_FORMS=>k_is)
  (case tn_FORMS|tr_FORMS=>rfl)
  (case tq_DEEDS|tl_DEEDS=>k_is)
  (case tn_DEEDS|tr_DEEDS=>rfl)
  (case tq_QUESTIONS|tl_QUESTIONS=>k_is)
  (case tn_QUESTIONS|tr_QUESTIONS=>rfl)
  (case sq_LOT_AND_BLANK|uq_FIRST_LOT|ul_FIRST_LOT|um_FIRST_LOT=>k_is)
  (case nf=>decide)
  (case qx0=>k_is)
  (case gx0=>rfl)
  (case bx0|ix0|lx0|cx0|kx0=>k_is)
  (case ex0=>rfl)
  (case qx1=>k_is)
  (case gx1=>rfl)
  (case bx1|ix1|lx1|cx1|kx1=>k_is)
  (case ex1|hT=>rfl)
