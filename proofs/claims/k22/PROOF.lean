import PyProof.Rows.All
import Wide.All
import OpenK.AllK
import Wide.FinOn
import Lean
import PyProof.EqAt
import PyProof.EqKinds
import PyProof.TupleCall
import KE.KLam
import KE.KTryMore
import KE.KIsAll
import PyProof.NeKinds
import PyProof.Rows.CountFlat
import PyProof.Rows.FStr
import PyProof.ZipIter
import PyProof.EnumMake
import PyProof.EnumStmt
import KE.KDictLaws
import PyProof.DictWalks
import PyProof.Rows.SetFrom
import PyProof.SumWalkG
import PyProof.Rows.SumGenD
import PyProof.SeqI2
import KE.KItemsList
import PyProof.SetKind
import PyProof.TupleKey
import KE.KSortTup
import PyProof.ReprRoads
import PyProof.ReprBulk
import PyProof.TupleOfSeq
import PyProof.WalkInts
import PyProof.SeqI3
import PyProof.Rows.RuleDivmod
import PyProof.ListRange
import KE.KPairComp
import KE.KMinKey
import PyProof.Rows.CallKwBuiltin
import KE.KDictList
import PyProof.DictTruth
import PyProof.DictRoadsH
import PyProof.Rows.Range3
import PySem.Challenge.RW_fewdistances_k22_whole_few_and_many
set_option Elab.async false
set_option linter.all false
set_option maxRecDepth 100000
set_option maxHeartbeats 0
set_option tactic.hygienic false
set_option bootstrap.genMatcherCode false
set_option genSizeOf false
set_option compiler.extract_closed false
open Array renaming getElem?_toList->Bn,length_toList->Bp,toList_append->Dr,getElem?_eq_some_iff->Dv,getElem?_eq_getElem->Dz,toList_push->El,getD_eq_getD_getElem?->EQ,getD->Ge,size_extract->Ix,toList_extract->Js,toList_reverse->Li,forIn_toList->Mu,mem_toList_iff->Oy,perm_iff_toList_perm->Rb,getElem?_eq_none->Tx,size_map->Va,toList->WP,toList_inj->Zg
open Bool renaming and_eq_true->Av,false_eq_true->Br,noConfusion->Dg,false_ne_true->Go,and_eq_true_iff->Hu,not_true->Il,not_eq_true'->Ku,false_and->Lb,or_eq_true->Md,and_true->Om,eq_iff_iff->TW,and_false->Vb,not_false->Vc,true_or->Xc,false_or->Aa3
open Classical renaming byContradiction->Fl,choose_spec->Oo,choose->So
open False renaming elim->Ao
open ForInStep renaming yield->Km
open Int renaming le_trans->Dt,le_of_lt->Hi,toNat_natCast->Hv,emod_lt_of_pos->Iw,emod_nonneg->Kq,le_antisymm->Ks,le_refl->Ky,not_lt->Oa,fdiv_eq_ediv_of_nonneg->Qu,fmod_eq_emod_of_nonneg->Qv
open List renaming getElem?_eq_getElem->Am,length_map->Au,mem_cons->Az,getElem?_eq_some_iff->Bd,getElem?_append_left->Be,prefix_refl->Bg,mem_map->Bj,mem_cons_of_mem->Bl,all_eq_true->Bo,mem_append_right->Bt,mem_of_getElem?->Bu,length_cons->By,size_toArray->Bz,mem_iff_getElem->Cc,append_assoc->Cf,getElem?_map->Cg,mem_append->Cn,getElem?_append_right->Cp,getElem?_set_ne->Cq,mem_cons_self->Cu,map_cons->Dc,range->Dd,length_append->De,pairwise_map->Df,mem_append_left->Dk,pairwise_append->Dl,mem_singleton->Dn,not_mem_nil->Dq,getD_eq_getElem?_getD->Eb,length_nil->Ec,mem_range->Ed,map_map->Eh,getElem?_set_self->Er,pairwise_cons->Ev,mem_filter->Ex,drop_eq_getElem_cons->Fk,length_take->Fn,append_nil->Fw,map_congr_left->Gg,flatMap_cons->Gh,zip_cons_cons->Gp,getD->Hb,foldl_cons->Hd,extract_eq_take_drop->Hm,nil_append->Hw,map_append->Hx,all_map->HT,filterMap_cons->Ig,take_of_length_le->Ir,mem_filterMap->Iu,length->Iy,perm_append_comm->Jd,map_id->Je,pairwise_iff_getElem->Jn,lookup_cons->Jx,cons_append->Ka,find?_cons->Ki,any_cons->Kj,drop_eq_nil_of_le->Kl,length_singleton->Kt,mem_iff_getElem?->Kv,length_drop->Lj,getElem_mem->Lm,reverse_append->Lx,nodup_cons->Lz,of_mem_zip->Ma,forIn_cons->Mc,getElem?_take_of_lt->Mk,prefix_append->Mp,mergeSort_nil->Mv,filter_append->Mw,length_eq_zero_iff->Na,getElem?_cons_succ->Nb,forIn_nil->Ni,nodup_nil->Nk,take_sublist->Nm,nodup_append->No,range_succ_eq_map->Ny,pairwise_lt_range->Nz,drop_of_length_le->NE,lookup->Og,ext_getElem->Os,take_append_drop->Ou,length_filter_le->Ov,mem_flatMap->Ow,mem_of_mem_drop->Pd,mem_of_mem_take->Pe,eq_nil_of_length_eq_zero->Po,find?_eq_none->Qq,set_cons_zero->Qs,perm_ext_iff_of_nodup->Ra,getElem?_zip_eq_some->Rm,all_cons->Ro,getElem_take->Rr,getElem_drop->Ru,mem_of_find?_eq_some->Sc,map_drop->Sd,length_erase_of_mem->Sh,getElem_inj->Sl,zipIdx_cons->Sr,map_fst_zip->Su,getElem?_replicate->Sv,pairwise_mergeSort->Ta,pairwise_singleton->Td,find?_cons_of_neg->Tp,length_pos_of_mem->Ts,length_zip->TD,filter_eq_nil_iff->Ua,countP_mono_left->Um,singleton_append->Uo,pairwise_flatMap->Ut,mem_erase_of_ne->Vh,reverse_reverse->Vl,mem_map_of_mem->We,length_pos_iff->Wf,zip_nil_right->Wm,lookup_append->Wt,getElem?_drop->Wv,set_cons_succ->Wy,ne_nil_of_mem->Wz,map_nil->Xb,zip_nil_left->Xs,ext_getElem?->Yi,foldl_append->Yl,nodup_range->Zc,countP_cons->Zf,map_flatMap->Zh,length_set->Zl,zipIdx_nil->Zm,find?_some->Zu,Nodup->ZB,replicate->sK,take_zero->v6,map_take->AaB,map->AaF
open List.Pairwise renaming filter->Jq,imp_of_mem->Mn,nil->Nn
open List.Perm renaming append_right->Iq,append_left->Jc,refl->Lf,trans->Pq
open Nat renaming le_refl->Ax,lt_of_lt_of_le->Bh,ne_of_lt->Ci,le_trans->Dm,lt_irrefl->Du,le_of_lt->Et,ne_of_gt->Fv,lt_succ_self->Ga,zero_add->Gy,zero_le->Gz,lt_of_le_of_ne->Hq,mul_le_mul->Ht,lt_trans->Hz,add_le_add_left->Im,lt_succ_of_lt->Jo,add_sub_cancel_left->Kc,eq_zero_of_not_pos->Kr,le_of_lt_succ->Kx,add_lt_of_lt_sub'->Kz,one_pos->La,sub_lt->Ly,lt_of_le_of_lt->Mr,pos_of_ne_zero->Mt,not_lt->Nw,le_of_not_lt->Of,le_add_right->On,le_succ->Oq,succ_pos->Pr,mod_lt->Py,add_right_comm->Qp,add_sub_cancel->Qr,lt_of_succ_lt->Rz,sub_pos_of_lt->Sa,min_self->Sx,le_antisymm->Tz,add_le_of_le_sub'->Uq,le_of_sub_eq_zero->Ur,lt_sub_of_add_lt->Vj,add_le_add_right->Vk,add_sub_cancel'->Wb,sub_add_cancel->WF,add_comm->Xg,le_of_eq->Xi,sub_self->Xj,add_zero->Xk,lt_trichotomy->Yf,add_le_add->v4
open Ne renaming symm->Fy
open Option renaming some->Ab,map_eq_some_iff->Co,bind_eq_some_iff->Eg,isSome_iff_exists->Jt,bind_some->Lo,getD_some->Oh,map_some->Tt,isSome_some->Wq,getD_none->Yt,none->AaG
open Option.some renaming inj->Cs
open Or renaming inr->Yv,inl->x0
open Prod renaming ext->Wg
open PyProof renaming noPylong_small->Ti
open PyProof.Rows renaming wpS_bind->Ba,step_dedup->Bi,wpS_pure->Bq,Keyed->Bv,seqObj->En,slot_tuple_getitem->Fb,wpS_forRange->Fe,SortSt->Fp,envOfC->Gb,IntsAre->Gw,callWith_type1->Ha,wpS_mono->He,wpS_modify->Ji,SortKind->Mf,get?_update_seq->Mi,wpS_get->Nc,AllBare->Oc,callWith_builtin1->Ox,lt_int->Pv,IsTup->Qg,assignInOrder_cons->Qn,wpS_lift->Rc,subscriptTail->Rj,subscriptTail_builtinR->Tl,gallopOf->T0,entry_tuple_getitem->Vt,args_tuple_getitem->Wn,assignInOrder_nil->Xn,entry_list_sort->Zs,Subscript_->Zy
open PyProof.Rows.F renaming plain_set_update_loop->Ip,entry_set_update_loop->Me
open PyProof.Rows.IntsAre renaming int_at->wE
open PyProof.Rows.IsTup renaming new->Xo
open PyProof.Rows.SortSt renaming mk'->Dh
open PySem renaming Value->Ac,wpAny_bind->Ad,Addr->Af,Shared->Ag,wpAny_pure->An,wpAny->Ap,Str->Aq,model->As,Program->Bc,Around->Bk,starEach->Bm,Heap->Bs,Expr->Bw,World->Bx,Obj->Cj,compareOp->Ct,mainGlobals->Cy,Comprehension->Dx,wpAny_call_entry->Ea,cLine->Ee,wpAny_callSpecial?_slot->Ef,Scope->Ei,wpAny_field->Ej,wpAny_newObj_type->Ek,foldedSetIterable->Ep,wpAny_setField_rec->Eu,Pos->Ey,mem_of_lookup->Fa,binaryOp->Ff,sizeLine_eq->Fg,FuncData->Fi,wpAny_holding->Fj,SetTable->Fm,Stmt->Fq,backTo->Ft,bootBuiltins->Fu,wpAny_pyIter_tuple->Fx,rawInt->Fz,wpAny_pyIter_list->Gc,wpAny_setState_of->Gf,wpAny_seqItems->Gk,wpAny_mono->Gq,assignEach->Gr,wpAny_rule->Gs,cellsFrom->Hj,wpAny_forIn_list->Hk,NameKind->Hn,wpAny_Call_Name_kw->Ho,Env->Ie,codeAny->Ih,Builtin->Ik,intKind->Is,IsPair->Ja,sysModules->Jf,codeAny_mono->Jh,wpAny_passesOwn->Jj,codeAny_builtin->Jk,wpAny_askSetting->Jz,Sem->Ke,letOwnedTupleGo->Kg,wpAny_specialOf->Kk,wpAny_attempt->Kn,wpAny_isInstance->Ln,swappedStores->Lp,swapsWithSole->Lq,wpAny_standAt->Lr,behindInMarks->Ls,TriplesOk->Lv,sliceBounds->Mb,getItem->My,wpAny_typeOf->Mz,pyNext->Ng,wpAny_setField->Nj,Model->Nl,swapsWith->Np,ofAClassStatement->Nt,richCompare_meets_room->Nu,pyIter->Od,BindsTo->Oe,wpAny_updateSeq_pair->Pc,wpAny_execs_nil->Pi,Arguments->Pj,codeAmong->Pk,codeAny_of_tree->Pm,pickOrder->Pp,builtinsNs->Pu,Tok->Qf,recursionLimit->Qh,firstArgMember->Qj,IsZip->Qk,wpAny_newFunctionEnv_cells->Qw,IsPart->Qx,intItems->Re,PassesOwn->Rg,callerA->Rk,standAt->Rl,attributeBase->Rp,wpAny_onRaise->Rq,setSearchFrom->Rw,plainId_quiet->Rx,wpAny_comprehension_free->Sf,noFill_tuple_add->Sm,closureFor->Sn,IsTupleKey->Ss,bindArgs->Tj,valueAt->Tn,wpAny_ite_split->Tw,tupleKind->Uc,codeAny_call_function->Ud,wpAny_letGo->Uf,IsEnum->Ug,hashByValue->Uh,weight_type_call_type->Uj,builtinLookup_eq_fast->Uk,numAt->Us,wpAny_newTuple->Ux,isSubtype_stop->Uy,newFunctionEnv->Uz,wpAny_runValue->Vd,isSubtype_type->Ve,codeAny_call_builtin->Vi,assignInOrder->Vn,CmpOp->Vo,bindL->Vq,bindC->Vr,seq_tuple_add->Vs,atKey->Vv,reduceHash->Vw,wpAny_call->Vx,wpAny_setEntries_of->Wa,wpAny_newList->Wc,setState->Wi,tupleKind_room_in1->Wr,concat_meets->Xa,wpAny_assign_Name->Xm,wpAny_truthy_bool->Xp,wpAny_sequenceKey->Xt,slot_list_getitem->Xu,list_append->Xv,lastMarks->Xw,ClassData->Xx,pushCells->Xz,wpAny_pyIter_enum->Ya,eqIsQuiet->Yd,searchCouldBeSeen->Ye,wpAny_storeSet_of->Yg,wpAny_pyIter_slot->Yh,wpAny_collect_seq->Yj,wpAny_pyIter_dict->Yk,wpAny_eqBool_int->Yn,wpAny_execs_cons->Yo,unaryOp->Yp,richCompare->Yr,seqIndex_of->Ys,wpAny_of_eq->Yx,wpAny_pyIter_zip->Za,argsOk->Zb,check_set_init_1->Ze,GenState->Zi,bindName->Zj,compTurn->Zn,pushCells_keeps->Zo,wpAny_stack_any->Zp,typeLookup_type->Zq,wpAny_updateSeq->Zr,wpAny_Name->Zv,typeLookup->Zx,call->Zz,intKind_is->dL,setsByText->f8,defaultsOf->sB,Result->xL,Within->AaC,isTrue->AaD
open PySem.Around renaming under_plainId->Jr,frames_deeper->Pa,under_plain->Wx
open PySem.AutoSeq1 renaming wpAny_loadPart'->Gn,sub_tuple_tuple->Ml
open PySem.Builtin.Frozenset renaming updateFrom->Pz,sizeOf->Si,newClass->Aa0
open PySem.Builtin.List renaming listLengthHint->Ql,listExtendWith->Qm,listSameRef->Sj
open PySem.Builtin.Slice renaming slicePlaces->Jm,sliceAdjust->Lu,sliceApplied->Qy,slicePartIndex->Zw
open PySem.Builtin.SmallTypes renaming nextOf->Dy,ownedTupleIsFree->Eo,ownedTupleHandOut->Gm
open PySem.Builtin.Tuple renaming tupleHashOf->Hl,tupleExact->Ju,tupleCompareSizes->Jw,tupleItemsOf->Ll
open PySem.Calls renaming spliced_cons->Mq,Name_function_global->Qt,spliced_nil->Ri,call_function_entry->Sb,callWith_builtin->To,evalArgs_plain->Vg
open PySem.Challenge renaming pw_fewdistances_k22_whole_few_and_many->Qc,rw_fewdistances_k22_whole_few_and_many->Qe
open PySem.CmpOf renaming ints_lt->AaA
open PySem.Code renaming quiet_builtin->Ww,compLoop->Aa5
open PySem.F renaming called_set->Do,slot_tuple_hash->Ib,slot_tuple_iterator_next->IN,slot_enumerate_next->Kw,args_tuple_add_2->Mm,entry_tuple_add->Mx,plainAttrs_dict->Nd,slot_tuple_add->Nv,slot_zip_next->Pl,args_tuple_iterator_next_1->Pw,slot_dict_setdefault->Px,type_dict_setdefault->Qb,entry_tuple_iterator_next->Qi,excBase_ValueError->Qz,type_list_append->Sk,args_tuple_lt_2->Sw,args_enumerate_next_1->Sy,entry_type_call->Sz,plain_list_iadd->Tc,slot_dict_items->Te,plainAttrs_list->Tf,entry_tuple_lt->Tk,entry_enumerate_next->Tq,typeCall_set_1->Tu,entry_set_init->Tv,slot_tuple_lt->Ue,plain_set_new->Ui,slot_set_iter->Ul,args_list_append_2->Vf,entry_list_append->Vu,slot_list_append->Wp,args_zip_next_1->Xy,entry_zip_next->Yz
open PySem.Heap renaming get?_push_of_some->Ah,lt_size->Ay,get?_push_size->AT,get?_update_other->Di,size_push->Dj,SameBut->Fc,get?_update_self->Fo,get?_none_of_le->Jp,FlyingW->Xd,IsTuple->Xe,IsList->Yy,MadeExcOf->t0
open PySem.Heap.IsSliceOf renaming new->AaH
open PySem.Heap.SameBut renaming update->Jy,refl->XV
open PySem.IsL renaming update->Yu
open PySem.NameKind renaming free->Gd,cell->Ol
open PySem.Obj renaming mapSeq->Es,mapFields->Vz,data_mapFields->Wu
open PySem.SeqAt.EqAt renaming same->Aa4
open PySem.SetTable renaming below->Ch,insertAt->DL,sizeAbove->Ew,runEnd->Hg,grown->Hs,insertAt_perm->Ko,Probe->Nq,fill->Rv,toList_insertAt->Sg,laid->Vy,has->Xf,layClean->Yc,tooFull->Zd,slot->Aa6,fits->Aa7
open PySem.SetTable.below renaming go->Yb
open PySem.SetTable.layClean renaming free->Io
open PySem.SetTable.probe renaming go->Nr
open PySem.Shared renaming heap->Op,TypeIs->Ry
open PySem.Str renaming ofString->Hy,empty->Aa2
open PySem.Value renaming ref->Cw,none->Cz,type->Hr,bool->Ic,notImplemented->Pb,int->Pg,str->Xl,isInt->Ym,isStrOf->Aa1
open PySem.W renaming Frag->Aj,tabIn->Ds,kia_one->Ez,nsIn->Fd,fnOf->Gi,keepIn->Gj,cellsFrom_some->Kh,kitOne->Lc,codeIn->Ld,tabObj->Lg,envX->Lh,kla_obj->Mj,findIn->Nh,hideAll->Ph,callWith_K->Qo,methodObj->Rf,kitx_list->Rh,nsMap_none_of_in->Se,instObj->Th,CodeHd->Uu,lookIn->Uw,hideAll_get->Vm,mroIn->Vp,mg_of->Wd,of_hideAll->Wj,kitx_tuple->Wk,codeRec_of->Wl,isNs_of_in->Ws,specialIn->Xq,kitx_dict->Xr,plainGet->Yq,takesIn->Zk,OpenLaw->Zt,nsOkIn->u8,exmOne->wP,kla_fn->wS,WalkO->Aa9
open PySem.W.KatTups renaming cons->AaE
open PySem.W.Looks renaming of_pure->Aa8
open PySem.Walks renaming tuple->Yw,dictKeys->wT
open PySem.pickOrder renaming go->Xh
open Sum renaming inl->Gv,inr->Tg
open Sum.inl renaming inj->Ub
open True renaming intro->Jg
open _root_ renaming List->Aa,Nat->Ai,Int->Ak,Option->Al,Bool->Ar,Array->Aw,if_neg->Bb,if_pos->Bf,of_decide_eq_true->Ca,decide_eq_false->Cb,decide_eq_true->Cd,decide_eq_true_eq->Ce,if_true->Dp,if_false->Dw,String->Em,False->Fh,beq_self_eq_true->Gu,or_false->Hc,decide_eq_false_iff_not->Ia,decide_true->Jb,Decidable->Jl,beq_eq_false_iff_ne->Jv,decide_false->Kb,beq_iff_eq->Lw,of_decide_eq_false->Ms,DecidableEq->Ob,StateT->Ot,True->Ps,Unit->Uv,not_or->Wh
noncomputable section
theorem om {p:Prop}(h:p:=by omega):p:=h
theorem li {p:Prop}(h:p:=by lia):p:=h
theorem kd {p:Prop}[Jl p](h:p:=by decide +kernel):p:=h
section
namespace _L
open PySem PySem.Spec PyProof.Rows
abbrev Key:=Sum Ak Aq
def gI:Key->Ac->Ar
 |.inl k,v=>Ym k v
 |.inr x,v=>Aa1 x v
def OU (w:Bx):Key->Ak
 |.inl k=>hashInt k
 |.inr x=>hashStr w x
theorem zU:∀ {k:Key} {v:Ac},gI k v=true->(∃ i t,k=Gv i/\v=Pg i t)\/(∃ x t,k=Tg x/\v=Xl x t)
 |.inl i,v,h=>by
  obtain⟨t,e⟩:=Value.isInt_shape (k:=i) (v:=v) h;exact .inl ⟨i,t,rfl,e⟩
 |.inr x,v,h=>by
  obtain⟨t,e⟩:=Value.isStrOf_shape (x:=x) (v:=v) h;exact .inr ⟨x,t,rfl,e⟩
theorem XT (i:Ak)(t:Qf):gI (.inl i) (.int i t)=true:=by simp[gI,Ym]
theorem XU (x:Aq)(t:Qf):gI (.inr x) (.str x t)=true:=by simp[gI,Aa1]
theorem D2 (a b:Ak):decide ((Gv a:Key)=Gv b)=(a == b):=by
 by_cases e:a=b
 .subst e;simp
 .have h:¬ (Gv a:Key)=Gv b:=λq=>e (Ub q)
  rw[Cb h];exact(Jv.mpr e).symm
theorem D5 (a b:Aq):decide ((Tg a:Key)=Tg b)=decide (a=b):=by
 by_cases e:a=b
 .subst e;simp
 .have h:¬ (Tg a:Key)=Tg b:=λq=>e (Sum.inr.inj q)
  rw[Cb h,Cb e]
theorem D3 (a:Ak)(b:Aq):decide ((Gv a:Key)=Tg b)=false:=Cb (λq=>nomatch q)
theorem D4 (a:Aq)(b:Ak):decide ((Tg a:Key)=Gv b)=false:=Cb (λq=>nomatch q)
def zH (prog:Bc)(w:Bx):PySem.KeyKind prog w Key where
 is:=gI
 hash:=OU w
 inj:=λv a b ha hb=>by
  rcases zU ha with⟨i,t,rfl,rfl⟩|⟨x,t,rfl,rfl⟩
  .rcases zU hb with⟨j,u,rfl,e⟩|⟨y,u,rfl,e⟩
   .injection e with e1 _;rw[e1]
   .exact nomatch e
  .rcases zU hb with⟨j,u,rfl,e⟩|⟨y,u,rfl,e⟩
   .exact nomatch e
   .injection e with e1 _;rw[e1]
 byValue:=λk v h=>by
  rcases zU h with⟨i,t,rfl,rfl⟩|⟨x,t,rfl,rfl⟩ <;> rfl
 pyHash:=λhv h=>by
  rcases zU hv with⟨i,t,rfl,rfl⟩|⟨x,t,rfl,rfl⟩
  .exact wpAny_pyHash_int h
  .exact wpAny_pyHash_str h
 eqBool:=λhu hv h=>by
  rcases zU hu with⟨i,t,rfl,rfl⟩|⟨x,t,rfl,rfl⟩
  .rcases zU hv with⟨j,u,rfl,rfl⟩|⟨y,u,rfl,rfl⟩
   .rw[D2] at h;exact Yn h
   .rw[D3] at h;exact SeqAt.EqAt.int_str i t y u _ _ _ _ h
  .rcases zU hv with⟨j,u,rfl,rfl⟩|⟨y,u,rfl,rfl⟩
   .rw[D4] at h;exact SeqAt.EqAt.str_int x t j u _ _ _ _ h
   .rw[D5] at h;exact wpAny_eqBool_str h
 «strs»:=λk x t v h=>by
  rcases zU h with⟨i,u,rfl,e⟩|⟨y,u,rfl,e⟩
  .exact nomatch e
  .injection e with e1 _
   subst e1;cases v <;> rfl
theorem cX (prog:Bc)(w:Bx)(i:Ak)(t:Qf):(zH prog w).is (.inl i) (.int i t)=true:=XT i t
theorem cY (prog:Bc)(w:Bx)(x:Aq)(t:Qf):(zH prog w).is (.inr x) (.str x t)=true:=XU x t
end _L
namespace _L
open PySem PySem.Spec PyProof.Rows
inductive V where
 |non|bl (b:Ar)|int (i:Ak)|str (x:Aq)|byt (b:Aw UInt8)|flt (b:UInt64)|ref (a:Af)|ty (n:Em)
 deriving Ob
def qJ:V->Ac->Prop
 |.non,u=>u=Cz
 |.bl b,u=>u=Ic b
 |.int i,u=>∃ t,u=Pg i t
 |.str x,u=>∃ t,u=Xl x t
 |.byt b,u=>∃ t,u=Value.bytes b t
 |.flt b,u=>∃ t,u=Value.float b t
 |.ref a,u=>u=Cw a
 |.ty n,u=>u=Hr n
abbrev qL:Aa V->Aa Ac->Prop:=Paired qJ
theorem qL.length {xs:Aa V}{us:Aa Ac}(r:qL xs us):xs.length=us.length:=Paired.length r
theorem qL.get:∀ {xs:Aa V} {us:Aa Ac} {i:Ai} {x:V},qL xs us->xs[i]? = Ab x->∃ u,us[i]? = Ab u/\qJ x u
 |_,_,_,_,.nil,e=>by simp at e
 |_,_,0,_,.cons r _,e=>by simp at e;subst e;exact⟨_,rfl,r⟩
 |_,_,i+1,x,.cons _ t,e=>by
  obtain⟨u,h1,h2⟩:=qL.get (i:=i) (x:=x) t (by simpa using e)
  exact⟨u,by simpa using h1,h2⟩
theorem qL.set {x:V}{u:Ac}(r:qJ x u):∀ {xs:Aa V} {us:Aa Ac} (i:Ai),qL xs us->qL (xs.set i x) (us.set i u)
 |_,_,_,.nil=>.nil
 |_,_,0,.cons _ t=>.cons r t
 |_,_,i+1,.cons q t=>.cons q (qL.set r i t)
theorem qL.append {xs ys:Aa V}{us ws:Aa Ac}(h:qL xs us)(s:qL ys ws):qL (xs++ys) (us++ws):=by
 induction h with
 |nil=>exact s
 |cons r t ih=>exact .cons r ih
theorem qL.take:∀ {xs:Aa V} {us:Aa Ac} (n:Ai),qL xs us->qL (xs.take n) (us.take n)
 |_,_,0,_=>.nil
 |_,_,_+1,.nil=>.nil
 |_,_,n+1,.cons r t=>.cons r (qL.take n t)
theorem qL.drop:∀ {xs:Aa V} {us:Aa Ac} (n:Ai),qL xs us->qL (xs.drop n) (us.drop n)
 |_,_,0,r=>r
 |_,_,_+1,.nil=>.nil
 |_,_,n+1,.cons _ t=>qL.drop n t
def uE:Al V->Al Ac->Prop
 |some v,Ab u=>qJ v u
 |none,none=>Ps
 |_,_=>Fh
def KV {κ : Type}:Aa (κ × V)->Aa (κ × Ac)->Prop:=Paired λ(p:κ × V) (q:κ × Ac)=>p.1=q.1/\qJ p.2 q.2
def kV:Key->V
 |.inl i=>.int i
 |.inr x=>.str x
inductive HO where
  |lst (xs:Aa V)
  |tup (xs:Aa V)
  |dK (kvs:Aa (Key × V))|dT (kvs:Aa (Aa Key × V))
  |set (S:Ak->Ar) (n:Ai)
  |ins (C dx:Af) (fs:Aa (Aq × V))
  |own (x:Af)
  |xd (fs:Aa (Aq × V))
  |met (f x:Af)
  |rng (lo hi:Ak)
  |frz (o:Cj) (u:HO)
  |tbl (ps:Aw Ac)
  |ext (φ : Bs->Prop)
abbrev Hp:=Af->Al HO
def upd (H:Hp)(a:Af)(o:HO):Hp:=λb=>if b=a then Ab o else H b
theorem qR {H:Hp}{a:Af}{o:HO}:upd H a o a=Ab o:=by unfold upd;rw[Bf rfl]
theorem qH {H:Hp}{a b:Af}{o:HO}(h:b≠a):upd H a o b=H b:=by unfold upd;rw[Bb h]
theorem CN {H:Hp}{a b:Af}{o u:HO}(h:H a=Ab o)(h':H b=Ab u)(d:o≠u):a≠b:=by
 intro e;subst e;rw[h] at h';exact d (Cs h')
theorem qU {H:Hp}{a b:Af}{o:HO}(h:H a=Ab o)(h':H b=none):a≠b:=by
 intro e;subst e;rw[h] at h';cases h'
section
variable (P:Bc)(w:Bx)
def zG (H:Hp)(h:Bs)(a:Af):HO->Prop
 |.lst xs=>xs.length<=sizeLine/\∃ (its:Aa Ac) (n:Ai),qL xs its/\h.get? a=Ab { cls:=.type "list",data:=.seq its.toArray n }
 |.tup xs=>xs.length<=sizeLine/\∃ its:Aa Ac,qL xs its/\Qg h a its.toArray
 |.dK kvs=>kvs.length<=sizeLine/\(a == Jf)=false/\∃ vs,KV kvs vs/\h.DictOf (zH P w) a vs
 |.dT kvs=>kvs.length<=sizeLine/\(a == Jf)=false/\∃ xs:Aa (Aa Key × Af × Ac),
   Paired (λ(p:Aa Key × V) (q:Aa Key × Af × Ac)=>p.1=q.1/\H q.2.1=Ab (.tup (p.1.map kV))/\qJ p.2 q.2.2) kvs xs /\
   ∃ o es ep,h.get? a=Ab o/\o.ExactDict/\o.data=.dict es ep/\es.toList=xs.map (entryOfKey (Uc (zH P w)))/\(xs.map (·.1)).Nodup
 |.set S n=>h.SetOf (Is P w) a S n
 |.ins C dx fs=>H dx=Ab (.own a)/\fs.length<=1000/\dx≠a/\h.get? a=Ab (Th C dx) /\
   ∃ mA,h.Ns1 dx mA/\(∀ f,uE (fs.lookup f) (mA f))/\AaC mA (fs.map (·.1))
 |.own _=>∃ o,h.get? a=Ab o
 |.xd fs=>∃ mA,h.Ns1 a mA/\∀ f,uE (fs.lookup f) (mA f)
 |.rng lo hi=>∃ t u v,h.get? a=Ab { cls:=.type "range",data:=.fields #[.int lo t,.int hi u,.int 1 v] }
 |.frz o u=>h.get? a=Ab o/\zG H h a u
 |.tbl ps=>h.get? a=Ab { cls:=.none,data:=.fields ps }
 |.met f x=>h.get? a=Ab (Rf (.ref f) (.ref x))
 |.ext φ => φ h/\(∃ o,h.get? a=Ab o)/\∀ h1 h2:Bs,φ h1->(∀ o,h1.get? a=Ab o->h2.get? a=Ab o)->φ h2
def HOk (H:Hp)(h:Bs):Prop:=∀ a o,H a=Ab o->zG P w H h a o
end
section
variable {P:Bc}{w:Bx}{H H':Hp}{h h':Bs}{a:Af}{o:HO}
theorem zG.lt (x:zG P w H h a o):a<h.objs.size:=by
 cases o with
 |lst xs=>obtain⟨_,_,_,_,e⟩:=x;exact Ay e
 |tup xs=>obtain⟨_,_,_,p⟩:=x;exact p.lt
 |dK kvs=>obtain⟨_,_,_,_,o,_,_,e,_⟩:=x;exact Ay e
 |dT kvs=>obtain⟨_,_,_,_,o,_,_,e,_⟩:=x;exact Ay e
 |set S n=>obtain⟨o,_,_,_,e,_⟩:=x;exact Ay e
 |ins C dx fs=>obtain⟨_,_,_,e,_⟩:=x;exact Ay e
 |own y=>obtain⟨_,e⟩:=x;exact Ay e
 |xd fs=>obtain⟨_,⟨_,_,_,e,_⟩,_⟩:=x;exact Ay e
 |rng lo hi=>obtain⟨_,_,_,e⟩:=x;exact Ay e
 |frz ob u=>obtain⟨e,_⟩:=x;exact Ay e
 |tbl ps=>exact Ay (show h.get? a=Ab _ from x)
 |met f y=>exact Ay (show h.get? a=Ab _ from x)
 |ext φ => obtain⟨_,⟨_,e⟩,_⟩:=x;exact Ay e
theorem Paired.mapP {α β:Type}{F G:α->β->Prop}{l₁:Aa α}{l₂:Aa β}(h:Paired F l₁ l₂)(f:∀ a b,F a b->G a b):Paired G l₁ l₂:=by
 induction h with
 |nil=>exact .nil
 |cons r t ih=>exact .cons (f _ _ r) ih
theorem zG.stay (x:zG P w H h a o)(k:∀ b u,(b=a\/H b=Ab (.own a))->h.get? b=Ab u->h'.get? b=Ab u)
  (ho:∀ b,H b=Ab (.own a)->H' b=Ab (.own a)) (ht:∀ b xs,H b=Ab (.tup xs)->H' b=Ab (.tup xs)):zG P w H' h' a o:=by
 induction o with
 |lst xs=>obtain⟨z,its,n,r,e⟩:=x;exact⟨z,its,n,r,k _ _ (.inl rfl) e⟩
 |tup xs=>obtain⟨z,its,r,ob,e,c⟩:=x;exact⟨z,its,r,ob,k _ _ (.inl rfl) e,c⟩
 |dK kvs=>obtain⟨z,y,vs,r,ob,es,ep,e,c⟩:=x;exact⟨z,y,vs,r,ob,es,ep,k _ _ (.inl rfl) e,c⟩
 |dT kvs =>
  obtain⟨z,y,xs,r,ob,es,ep,e,c⟩:=x;exact⟨z,y,xs,Paired.mapP r λp q z=>⟨z.1,ht _ _ z.2.1,z.2.2⟩,ob,es,ep,k _ _ (.inl rfl) e,c⟩
 |set S n=>obtain⟨ob,es,ep,t,e,c⟩:=x;exact⟨ob,es,ep,t,k _ _ (.inl rfl) e,c⟩
 |ins C dx fs =>
  obtain⟨d,z,ne,e,mA,⟨od,es,ep,e2,c⟩,r⟩:=x;exact⟨ho _ d,z,ne,k _ _ (.inl rfl) e,mA,⟨od,es,ep,k _ _ (.inr d) e2,c⟩,r⟩
 |own y=>obtain⟨ob,e⟩:=x;exact⟨ob,k _ _ (.inl rfl) e⟩
 |xd fs=>obtain⟨mA,⟨od,es,ep,e,c⟩,r⟩:=x;exact⟨mA,⟨od,es,ep,k _ _ (.inl rfl) e,c⟩,r⟩
 |rng lo hi=>obtain⟨t,u,v,e⟩:=x;exact⟨t,u,v,k _ _ (.inl rfl) e⟩
 |frz ob u ih=>obtain⟨e,q⟩:=x;exact⟨k _ _ (.inl rfl) e,ih q⟩
 |tbl ps =>
  have e:h.get? a=Ab { cls:=.none,data:=.fields ps }:=x;show h'.get? a=Ab { cls:=.none,data:=.fields ps };exact k a _ (.inl rfl) e
 |met f y =>
  have e:h.get? a=Ab (Rf (.ref f) (.ref y)):=x;show h'.get? a=Ab (Rf (.ref f) (.ref y));exact k a _ (.inl rfl) e
 |ext φ => obtain⟨p,⟨o,e⟩,st⟩:=x;exact⟨st _ _ p λo q=>k _ _ (.inl rfl) q,⟨o,k _ _ (.inl rfl) e⟩,st⟩
theorem HOk.lt (x:HOk P w H h)(e:H a=Ab o):a<h.objs.size:=(x a o e).lt
theorem HOk.fresh (x:HOk P w H h)(e:h.objs.size<=a):H a=none:=by
 cases q:H a with
 |none=>rfl
 |some u=>exact absurd (Bh (x.lt q) e) (Du _)
theorem HOk.kept (x:HOk P w H h)(k:∀ b u,h.get? b=Ab u->h'.get? b=Ab u):HOk P w H h':=λa o e =>
 (x a o e).stay (λb u _ q=>k b u q) (λ_ q=>q) λ_ _ q=>q
theorem HOk.laid (x:HOk P w H h)(k:∀ b u,h.get? b=Ab u->h'.get? b=Ab u)(hp:h.objs.size<=a)(new:zG P w (upd H a o) h' a o):HOk P w (upd H a o) h':=λb u e=>by
 have hn:=x.fresh hp;by_cases hb:b=a
 .subst hb;rw[qR] at e;cases e;exact new
 .rw[qH hb] at e
  exact(x b u e).stay (λc v _ q=>k c v q) (λc q=>by rw[qH (qU q hn)];exact q) λc xs q=>by rw[qH (qU q hn)];exact q
end
def Rd (H:Hp)(a:Af)(u:HO):Prop:=H a=Ab u\/∃ o,H a=Ab (.frz o u)
theorem Rd.of {H:Hp}{a:Af}{u:HO}(h:H a=Ab u):Rd H a u:=.inl h
theorem Rd.ok {P:Bc}{w:Bx}{H:Hp}{h:Bs}{a:Af}{u:HO}(r:Rd H a u)(x:HOk P w H h):zG P w H h a u:=by
 rcases r with r|⟨o,r⟩
 .exact x a u r
 .obtain⟨_,q⟩:=x a _ r
  exact q
def Mut:Al HO->Prop
 |some (.lst _)=>Ps
 |some (.dK _)=>Ps
 |some (.dT _)=>Ps
 |some (.set _ _)=>Ps
 |some (.ins _ _ _)=>Ps
 |some (.ext _)=>Ps
 |_=>Fh
section
variable {P:Bc}{w:Bx}{H:Hp}{h h':Bs}{x e:Af}{o':HO}
theorem HOk.write (ok:HOk P w H h)(mu:Mut (H x))(he:e=x\/H e=Ab (.own x))(k:∀ b u,b≠e->h.get? b=Ab u->h'.get? b=Ab u)(heo:∃ u,h'.get? e=Ab u)
  (new:zG P w (upd H x o') h' x o'):HOk P w (upd H x o') h':=λb u q=>by
 have nown:∀ c y,H c=Ab (.own y)->c≠x:=λc y r z=>by subst z;rw[r] at mu;exact mu
 have ntup:∀ c xs,H c=Ab (.tup xs)->c≠x:=λc xs r z=>by subst z;rw[r] at mu;exact mu
 by_cases hb:b=x
 .subst hb;rw[qR] at q;cases q;exact new
 .rw[qH hb] at q
  by_cases hbe:b=e
  .have q':H b=Ab (.own x):=by
    rcases he with z|z
    .exact absurd (hbe.trans z) hb
    .rw[hbe];exact z
   rw[q] at q';cases q';obtain⟨v,hv⟩:=heo;exact⟨v,by rw[hbe];exact hv⟩
  .refine(ok b u q).stay (λc v hc r=>k c v ?_ r) (λc r=>by rw[qH (nown c b r)];exact r) λc xs r=>by rw[qH (ntup c xs r)];exact r
   rcases hc with rfl|hc
   .exact hbe
   .rintro rfl
    rcases he with z|z
    .exact nown c b hc z
    .rw[hc] at z;cases z;exact hb rfl
end
structure Un (fs ex:Aa Af)(H H':Hp)(h h':Bs):Prop where
 keep:∀ b o,h.get? b=Ab o->H b=none->b ∉ fs->b ∉ ex->h'.get? b=Ab o
 slot:∀ b o,h.get? b=Ab o->H b=none->b∈fs->b ∉ ex->∃ sl,h'.get? b=Ab { o with slots:=sl }
 free:∀ b o,h.get? b=Ab o->H b=none->b ∉ ex->H' b=none
 there:∀ b o,h.get? b=Ab o->b ∉ ex->∃ o',h'.get? b=Ab o'
 tups:∀ b xs,H b=Ab (.tup xs)->H' b=Ab (.tup xs)
 frzs:∀ b o u,H b=Ab (.frz o u)->H' b=Ab (.frz o u)
 tbls:∀ b ps,H b=Ab (.tbl ps)->∃ more,H' b=Ab (.tbl (ps++more))
section
variable {fs fs' ex ex':Aa Af}{H H1 H2:Hp}{h h1 h2 h':Bs}{a x e:Af}{o:HO}
theorem Un.any (u:Un fs ex H H1 h h1){b:Af}{ob:Cj}(q:h.get? b=Ab ob)(n:H b=none)(hx:b ∉ ex):∃ sl,h1.get? b=Ab { ob with slots:=sl }:=by
 by_cases hb:b∈fs
 .exact u.slot b ob q n hb hx
 .exact⟨ob.slots,u.keep b ob q n hb hx⟩
theorem Un.kept (k:∀ b u,h.get? b=Ab u->h'.get? b=Ab u):Un fs ex H H h h':=
 ⟨λb ob q _ _ _=>k b ob q,λb ob q _ _ _=>⟨ob.slots,k b ob q⟩,λ_ _ _ n _=>n,λb ob q _=>⟨ob,k b ob q⟩,λ_ _ q=>q,λ_ _ _ q=>q,λ_ ps q=>⟨#[],by rw[q];simp⟩⟩
theorem Un.refl:Un fs ex H H h h:=Un.kept λ_ _ q=>q
theorem Un.laid (k:∀ b u,h.get? b=Ab u->h'.get? b=Ab u)(hp:h.objs.size<=a)(hn:H a=none):Un fs ex H (upd H a o) h h' where
 keep:=λb u q _ _ _=>k b u q
 slot:=λb u q _ _ _=>⟨u.slots,k b u q⟩
 free:=λb u q n _=>by rw[qH (Ci (Bh (Ay q) hp))];exact n
 there:=λb u q _=>⟨u,k b u q⟩
 tups:=λb xs q=>by rw[qH (qU q hn)];exact q
 frzs:=λb u xs q=>by rw[qH (qU q hn)];exact q
 tbls:=λb ps q=>⟨#[],by rw[qH (qU q hn),q];simp⟩
theorem Un.write (mu:Mut (H x))(he:e=x\/H e=Ab (.own x))(k:∀ b u,b≠e->h.get? b=Ab u->h'.get? b=Ab u)(heo:∃ u,h'.get? e=Ab u):Un fs ex H (upd H x o) h h':=by
 have hx:∀ b,H b=none->b≠x:=λb n z=>by subst z;rw[n] at mu;exact mu
 have hb:∀ b,H b=none->b≠e:=λb n z=>by
  subst z;rcases he with r|r
  .exact hx b n r
  .rw[n] at r;cases r
 have hm:∀ b u,H b=Ab u->¬ Mut (Ab u)->b≠x:=λb u q nm z=>by subst z;rw[q] at mu;exact nm mu
 refine⟨λb u q n _ _=>k b u (hb b n) q,λb u q n _ _=>⟨u.slots,k b u (hb b n) q⟩,λb u q n _=>by rw[qH (hx b n)];exact n,λb u q _=>?_,
  λb xs q=>by rw[qH (hm b _ q λz=>z)];exact q,λb u xs q=>by rw[qH (hm b _ q λz=>z)];exact q,λb ps q=>⟨#[],by rw[qH (hm b _ q λz=>z),q];simp⟩⟩
 by_cases hbe:b=e
 .subst hbe;exact heo
 .exact⟨u,k b u hbe q⟩
end
def trk (h:Bs)(H:Hp):Aa Af:=(Dd h.objs.size).filter λa=>(H a).isSome
def gC (h:Bs)(H:Hp):Bs:=Ph h (trk h H)
theorem XJ (h:Bs)(H:Hp):(gC h H).objs.size=h.objs.size:=PySem.W.hideAll_size _ _
theorem VT {h:Bs}{H:Hp}{b:Af}{o:Cj}(e:h.get? b=Ab o)(n:H b=none):(gC h H).get? b=Ab o:=
 Vm _ e λhm=>by
  have q:(H b).isSome=true:=(Ex.mp hm).2;rw[n] at q;simp at q
theorem F7 {h:Bs}{H:Hp}{b:Af}{o:Cj}(e:(gC h H).get? b=Ab o):h.get? b=Ab o/\H b=none:=by
 have e':h.get? b=Ab o:=Wj (trk h H) e;refine⟨e',?_⟩;cases q:H b with
 |none=>rfl
 |some x =>
  have hm:b∈trk h H:=Ex.mpr ⟨Ed.mpr (Ay e'),by simp[q]⟩
  have z:(gC h H).get? b=none:=PySem.W.hideAll_none (trk h H) hm;rw[z] at e;cases e
end _L
namespace _L
open PySem PySem.Spec PyProof.Rows
variable {ch:Aa Af}{E:Ac->Ag->Prop}{t':Ai}{g':Aw Zi}{d':Drawn}{M:Nl}{Q:Uv->Ag->Prop}
def w8:Aa Aq:=["law","_law_right","by_hull","pair_bound","hub","greatest_often"]
def TC (mg:Aq->Al Ac)(h:Bs):Prop:=∃ bm o,mg "__builtins__" = Ab (.ref bm)/\bm≠Pu/\h.get? bm=Ab o/\o.cls=.type "module" /\ o.dict=Ab Pu/\o.data=.plain
structure Mod (K:Aj)(mg:Aq->Al Ac)(base:Bs):Prop where
 kin:K.In base
 glob:base.Ns Cy mg
 blt:∃ mb,base.Ns Pu mb/\∀ x:Aq,x ≠ "__name__" -> mb x=Fu x
 nolimit:base.NoLimit
 bm:TC mg base
 code:∀ x∈w8,∀ c T,Ds K x=Ab (c,T)->Uu base c T
 inj:∀ x∈w8,∀ y∈w8,∀ c d T,Ds K x=Ab (c,T)->Ds K y=Ab (d,T)->x=y
structure Cx where
 prog:Bc
 w:Bx
 K:Aj
 mg:Aq->Al Ac
 base:Bs
 A:Bk
 N:Aa Aq
 s₀:Ag
 H₀:Hp
 env:Ie
 outer:Aa Ie
 stack:Aa Ie
 ex:Aa Af
 fn:Aq->Ar
 calm:Ar
 pn:Aa (Af × Cj)
 xe:Ac->Ag->Prop
def frs (l:Aa Ie):Aa Af:=l.filterMap (·.frame)
abbrev Cx.fs (X:Cx):Aa Af:=frs X.outer
def Vis (sc:Ei)(x:Aq):Prop:=sc.names.lookup x=Ab .local \/ sc.names.lookup x=Ab .cell\/sc.names.lookup x=Ab .free
def Loc (sc:Ei)(x:Aq):Prop:=sc.names.lookup x=Ab .local \/ sc.names.lookup x=Ab .cell
def O1 (env:Ie)(h:Bs)(m:Aq->Al Ac)(x:Aq)(u:Ac):Prop:=
 (env.kindOf x=Ab .local /\ m x=Ab u)\/((env.kindOf x=Ab .cell\/env.kindOf x=Ab .free)/\∃ c,env.cells.lookup x=Ab c/\h.IsCell c (Ab u))
structure Cx.Ok (X:Cx):Prop where
 mod:Mod X.K X.mg X.base
 kind:X.env.scope.kind=.function
 glob:X.env.globals=Cy
 blt:X.env.builtins=Pu
 above:X.s₀.heap.objs.size<=X.env.locals
 inj:∀ x y c,X.env.cells.lookup x=Ab c->X.env.cells.lookup y=Ab c->x=y
 has:∀ x,(X.env.kindOf x=Ab .cell\/X.env.kindOf x=Ab .free)->∃ c,X.env.cells.lookup x=Ab c
 cab:∀ x c,X.fn x=true->X.env.cells.lookup x=Ab c->X.s₀.heap.objs.size<=c
 hd:X.calm=true->X.A.handled=none
 frames:X.A.frames=Ab X.stack
 stk:X.stack=X.outer\/(X.stack=X.env::X.outer/\X.env.frame=Ab X.env.locals)
 exf:∀ b∈X.ex,b≠X.env.locals/\∀ x c,X.env.cells.lookup x=Ab c->c≠b
 bs:∀ b o,X.base.get? b=Ab o->X.s₀.heap.get? b=Ab o/\X.H₀ b=none
 bsz:X.base.objs.size<=X.s₀.heap.objs.size
 noex:∀ b o,X.base.get? b=Ab o->b ∉ X.ex
 exfs:∀ b∈X.ex,b ∉ X.fs
 funs:X.s₀.heap.FunFrames X.base X.outer
 frf:∀ b∈X.fs,X.H₀ b=none
structure Inv (X:Cx)(pins:Aa (Af × Cj))(σ : Aa (Al V))(H:Hp)(s:Ag):Prop where
 ok:X.Ok
 os:s.os=X.s₀.os
 bare:Oc s.gens
 base:Un X.fs X.ex X.H₀ H X.s₀.heap s.heap
 loc:∃ m,s.heap.Ns X.env.locals m/\∀ (i:Ai) (x:Aq) (v:V),X.N[i]? = Ab x->σ[i]? = Ab (Ab v)->Vis X.env.scope x->∃ u,qJ v u/\O1 X.env s.heap m x u
 cell:∀ x c,X.env.cells.lookup x=Ab c->∃ v,s.heap.IsCell c v
 free:H X.env.locals=none
 freeC:∀ x c,X.env.cells.lookup x=Ab c->H c=none
 pin:∀ p∈X.pn++pins,s.heap.get? p.1=Ab p.2/\H p.1=none/\p.1≠X.env.locals/\p.1 ∉ X.fs/\∀ v,p.2.data≠.cell v
 hok:HOk X.prog X.w H s.heap
 len:σ.length=X.N.length
section
variable {X:Cx}{pins:Aa (Af × Cj)}{σ : Aa (Al V)}{H H':Hp}{s:Ag}{h':Bs}
theorem Cx.Ok.nofr (ok:X.Ok){b:Af}{o:Cj}(e:X.base.get? b=Ab o):b ∉ X.fs:=λhb=>by
 have:=(ok.funs.mem hb).1;rw[e] at this;cases this
theorem Inv.bs (I:Inv X pins σ H s):∀ b o,X.base.get? b=Ab o->s.heap.get? b=Ab o/\H b=none:=λb o e =>
 ⟨I.base.keep b o (I.ok.bs b o e).1 (I.ok.bs b o e).2 (I.ok.nofr e) (I.ok.noex b o e),I.base.free b o (I.ok.bs b o e).1 (I.ok.bs b o e).2 (I.ok.noex b o e)⟩
theorem Inv.bk (I:Inv X pins σ H s):∀ b o,X.base.get? b=Ab o->s.heap.get? b=Ab o:=λb o e=>(I.bs b o e).1
theorem Inv.mod (I:Inv X pins σ H s):Mod X.K X.mg X.base:=I.ok.mod
theorem Inv.kIn (I:Inv X pins σ H s):X.K.In s.heap:=I.ok.mod.kin.keeps I.bk
theorem Inv.nolimit (I:Inv X pins σ H s):s.heap.NoLimit:=I.ok.mod.nolimit.keeps I.bk
theorem Inv.lt (I:Inv X pins σ H s):X.env.locals<s.heap.objs.size:=let ⟨_,hn,_⟩:=I.loc;hn.lt
theorem Inv.sz (I:Inv X pins σ H s):X.s₀.heap.objs.size<=s.heap.objs.size:=Dm I.ok.above (Et I.lt)
theorem Inv.nofs (I:Inv X pins σ H s){a:Af}(h:s.heap.objs.size<=a):a ∉ X.fs:=λhb=>by
 obtain⟨_,o,ho,_⟩:=I.ok.funs.mem hb;exact absurd (Bh (Ay ho) (Dm I.sz h)) (Du _)
theorem Inv.cne (I:Inv X pins σ H s):∀ x c,X.env.cells.lookup x=Ab c->c≠X.env.locals:=λx c e z=>by
 obtain⟨v,o,ho,hd⟩:=I.cell x c e;obtain⟨m,⟨o',es,ep,ho',hd',_⟩,_⟩:=I.loc;rw[z,ho'] at ho;cases ho;rw[hd'] at hd;cases hd
theorem Inv.funs (I:Inv X pins σ H s):s.heap.FunFrames X.base X.outer:=by
 have all:∀ (l:Aa Ie),(∀ b∈frs l,b∈X.fs)->X.s₀.heap.FunFrames X.base l->s.heap.FunFrames X.base l:=by
  intro l
  induction l with
  |nil=>intro _ _;trivial
  |cons env r ih =>
   intro hs hl;obtain⟨hk,⟨L,o,hf,hn,ho,hd⟩,hr⟩:=hl;have hL:L∈X.fs:=hs L (by unfold frs;rw[Ig,hf];exact Cu)
   obtain⟨sl,e⟩:=I.base.slot L o ho (I.ok.frf L hL) hL λz=>I.ok.exfs L z hL;exact⟨hk,⟨L,_,hf,hn,e,hd⟩,ih (λb hb=>hs b (by unfold frs;rw[Ig,hf];exact Bl _ hb)) hr⟩
 exact all X.outer (λ_ hb=>hb) I.ok.funs
theorem Inv.stack (I:Inv X pins σ H s):s.heap.FunFrames X.base X.stack:=by
 rcases I.ok.stk with e|⟨e,hf⟩
 .rw[e];exact I.funs
 .rw[e]
  obtain⟨m,hn,_⟩:=I.loc;refine .cons (by rw[I.ok.kind];decide) hf hn ?_ I.funs
  exact Jp (Dm I.ok.bsz I.ok.above)
theorem Inv.stkSub (I:Inv X pins σ H s):∀ b∈frs X.stack,b∈X.env.locals::X.fs:=λb hb=>by
 rcases I.ok.stk with e|⟨e,hf⟩
 .rw[e] at hb;exact Bl _ hb
 .rw[e] at hb
  unfold frs at hb;rw[Ig,hf] at hb;exact hb
theorem Inv.stkFree (I:Inv X pins σ H s):∀ b∈frs X.stack,H b=none:=λb hb=>by
 rcases Az.mp (I.stkSub b hb) with e|hb
 .rw[e];exact I.free
 .obtain⟨_,o,ho,_⟩:=I.ok.funs.mem hb
  exact I.base.free b o ho (I.ok.frf b hb) λz=>I.ok.exfs b z hb
theorem Inv.step {g':Aw Zi}{t':Ai}{d':Drawn}(I:Inv X pins σ H s)
  (hch:∀ b∈ch,(b∈X.ex\/X.s₀.heap.objs.size<=b)/\b≠X.env.locals/\(∀ x c,X.env.cells.lookup x=Ab c->c≠b)/\∀ p∈X.pn++pins,p.1≠b)
  (keep:∀ b o,b≠X.env.locals->b ∉ X.fs->b ∉ ch->s.heap.get? b=Ab o->H b=none->h'.get? b=Ab o)
  (slot:∀ b o,b≠X.env.locals->b∈X.fs->b ∉ ch->s.heap.get? b=Ab o->H b=none->∃ sl,h'.get? b=Ab { o with slots:=sl }) (free:∀ b o,b ∉ ch->s.heap.get? b=Ab o->H b=none->H' b=none)
  (there:∀ b o,b ∉ ch->s.heap.get? b=Ab o->∃ o',h'.get? b=Ab o')
  (tups:∀ b xs,H b=Ab (.tup xs)->H' b=Ab (.tup xs)) (frzs:∀ b o u,H b=Ab (.frz o u)->H' b=Ab (.frz o u)) (tbls:∀ b ps,H b=Ab (.tbl ps)->∃ more,H' b=Ab (.tbl (ps++more)))
  (ns:∀ m,s.heap.Ns X.env.locals m->h'.Ns X.env.locals m) (hok:HOk X.prog X.w H' h') (hg:Oc g') :
  Inv X pins σ H' { s with heap:=h',gens:=g',drawn:=d',toks:=t' }:=by
 have neL:∀ b o,X.s₀.heap.get? b=Ab o->b≠X.env.locals:=λb o e=>Ci (Bh (Ay e) I.ok.above);have neC:∀ b o,X.s₀.heap.get? b=Ab o->b ∉ X.ex->b ∉ ch:=λb o e hx hb=>by
  rcases (hch b hb).1 with z|z
  .exact hx z
  .exact absurd (Bh (Ay e) z) (Du _)
 have cellK:∀ x c,X.env.cells.lookup x=Ab c->∀ v,s.heap.IsCell c v->h'.IsCell c v:=λx c e v ⟨o,ho,hd⟩=>by
  have nch:c ∉ ch:=λz=>(hch c z).2.2.1 x c e rfl;by_cases hc:c∈X.fs
  .obtain⟨sl,q⟩:=slot c o (I.cne x c e) hc nch ho (I.freeC x c e)
   exact⟨_,q,hd⟩
  .exact⟨o,keep c o (I.cne x c e) hc nch ho (I.freeC x c e),hd⟩
 refine⟨I.ok,I.os,hg,⟨λb o e n hb hx=>?_,λb o e n hb hx=>?_,λb o e n hx=>?_,λb o e hx=>?_,λb xs e=>tups b xs (I.base.tups b xs e),λb o xs e=>frzs b o xs (I.base.frzs b o xs e),λb ps e=>?_⟩,?_,λx c e=>?_,?_,λx c e=>?_,λp hp=>?_,hok,I.len⟩
 .exact keep b o (neL b o e) hb (neC b o e hx) (I.base.keep b o e n hb hx) (I.base.free b o e n hx)
 .obtain⟨sl,e1⟩:=I.base.slot b o e n hb hx
  obtain⟨sl',e2⟩:=slot b _ (neL b o e) hb (neC b o e hx) e1 (I.base.free b o e n hx);exact⟨sl',e2⟩
 .obtain⟨o',e1⟩:=I.base.there b o e hx
  exact free b o' (neC b o e hx) e1 (I.base.free b o e n hx)
 .obtain⟨o',e1⟩:=I.base.there b o e hx
  exact there b o' (neC b o e hx) e1
 .obtain⟨m1,e1⟩:=I.base.tbls b ps e
  obtain⟨m2,e2⟩:=tbls b _ e1;exact⟨m1++m2,by rw[e2,Array.append_assoc]⟩
 .obtain⟨m,hn,hl⟩:=I.loc
  refine⟨m,ns m hn,λi x v e1 e2 e3=>?_⟩;obtain⟨u,r,l⟩:=hl i x v e1 e2 e3;refine⟨u,r,?_⟩;rcases l with l|⟨k,c,e,z⟩
  .exact .inl l
  .exact .inr ⟨k,c,e,cellK x c e _ z⟩
 .obtain⟨v,z⟩:=I.cell x c e
  exact⟨v,cellK x c e v z⟩
 .obtain⟨m,⟨o,_,_,ho,_⟩,_⟩:=I.loc
  exact free _ o (λz=>(hch _ z).2.1 rfl) ho I.free
 .obtain⟨v,o,ho,hd⟩:=I.cell x c e
  exact free c o (λz=>(hch c z).2.2.1 x c e rfl) ho (I.freeC x c e)
 .obtain⟨e,n,ne,nf,d⟩:=I.pin p hp
  have nch:p.1 ∉ ch:=λz=>(hch p.1 z).2.2.2 p hp rfl;exact⟨keep p.1 p.2 ne nf nch e n,free p.1 p.2 nch e n,ne,nf,d⟩
theorem Inv.un {t':Ai}(I:Inv X pins σ H s)(u:Un X.fs [] H H' s.heap h')(hok:HOk X.prog X.w H' h'):Inv X pins σ H' { s with heap:=h',toks:=t' }:=by
 obtain⟨m,⟨o,es,ep,ho,r⟩,_⟩:=id I.loc;obtain⟨sl,hL⟩:=u.any ho I.free (by simp)
 exact I.step (g':=s.gens) (d':=s.drawn) (ch:=[]) (λ_ z=>nomatch z) (λb o _ hb _ e n=>u.keep b o e n hb (by simp)) (λb o _ hb _ e n=>u.slot b o e n hb (by simp)) (λb o _ e n=>u.free b o e n (by simp)) (λb o _ e=>u.there b o e (by simp)) u.tups u.frzs u.tbls (λm' hm=>by
  obtain⟨o',es',ep',ho',r'⟩:=hm;rw[ho] at ho';cases ho';exact⟨_,es',ep',hL,r'⟩) hok I.bare
theorem Inv.call {t':Ai}{d':Drawn}(I:Inv X pins σ H s)(u:Un (frs X.stack) ch H H' s.heap h')(hok:HOk X.prog X.w H' h')(hg:Oc g')
  (hch:∀ b∈ch,(b∈X.ex\/X.s₀.heap.objs.size<=b)/\b≠X.env.locals/\(∀ x c,X.env.cells.lookup x=Ab c->c≠b)/\∀ p∈X.pn++pins,p.1≠b) :
  Inv X pins σ H' { s with heap:=h',gens:=g',drawn:=d',toks:=t' }:=by
 obtain⟨m,⟨o,es,ep,ho,r⟩,_⟩:=id I.loc;obtain⟨sl,hL⟩:=u.any ho I.free λz=>(hch _ z).2.1 rfl;exact I.step (ch:=ch) hch (λb o hL hb hc e n=>u.keep b o e n (λz=>(Az.mp (I.stkSub b z)).elim hL hb) hc) (λb o _ _ hc e n=>u.any e n hc) (λb o hc e n=>u.free b o e n hc) (λb o hc e=>u.there b o e hc) u.tups u.frzs u.tbls (λm' hm=>by
  obtain⟨o',es',ep',ho',r'⟩:=hm;rw[ho] at ho';cases ho';exact⟨_,es',ep',hL,r'⟩) hok hg
theorem Inv.turned {t':Ai}{it:Af}(I:Inv X pins σ H s)(k:∀ b o,b≠it->s.heap.get? b=Ab o->h'.get? b=Ab o)(hn:H it=none)(hL:it≠X.env.locals)
  (h1:it∈X.ex\/X.s₀.heap.objs.size<=it) (h2:∀ x c,X.env.cells.lookup x=Ab c->c≠it) (h3:∀ p∈X.pn++pins,p.1≠it):Inv X pins σ H { s with heap:=h',toks:=t' }:=by
 have nit:∀ b u,H b=Ab u->b≠it:=λb u e z=>by rw[z,hn] at e;cases e
 refine I.step (g':=s.gens) (d':=s.drawn) (ch:=[it]) (λb hb=>?_) (λb o _ _ hc e _=>k b o (λz=>hc (by simp[z])) e) (λb o _ _ hc e _=>⟨o.slots,k b o (λz=>hc (by simp[z])) e⟩) (λ_ _ _ _ n=>n)
  (λb o hc e=>⟨o,k b o (λz=>hc (by simp[z])) e⟩) (λ_ _ e=>e) (λ_ _ _ e=>e) (λb ps e=>⟨#[],by rw[e];simp⟩) (λm hm=>?_) (λb u e=>?_) I.bare
 .have e:b=it:=by simpa using hb
  subst e;exact⟨h1,hL,h2,h3⟩
 .obtain⟨o,es,ep,ho,r⟩:=hm
  exact⟨o,es,ep,k _ o (Fy hL) ho,r⟩
 .refine(I.hok b u e).stay (λc v hc q=>k c v ?_ q) (λ_ q=>q) λ_ _ q=>q
  rcases hc with z|z
  .rw[z];exact nit b u e
  .exact nit c _ z
theorem Inv.tok (I:Inv X pins σ H s)(t:Ai):Inv X pins σ H { s with toks:=t }:=I.un (h':=s.heap) (t':=t) Un.refl I.hok
theorem Inv.kept {t':Ai}(I:Inv X pins σ H s)(k:∀ b u,s.heap.get? b=Ab u->h'.get? b=Ab u):Inv X pins σ H { s with heap:=h',toks:=t' }:=I.un (Un.kept k) (I.hok.kept k)
theorem Inv.laid {a:Af}{o:HO}{t':Ai}(I:Inv X pins σ H s)(k:∀ b u,s.heap.get? b=Ab u->h'.get? b=Ab u)(hp:s.heap.objs.size<=a)(new:zG X.prog X.w (upd H a o) h' a o) :
  Inv X pins σ (upd H a o) { s with heap:=h',toks:=t' }:=I.un (Un.laid k hp (I.hok.fresh hp)) (I.hok.laid k hp new)
theorem Inv.write {x e:Af}{o:HO}{t':Ai}(I:Inv X pins σ H s)(mu:Mut (H x))(he:e=x\/H e=Ab (.own x))(k:∀ b u,b≠e->s.heap.get? b=Ab u->h'.get? b=Ab u)(heo:∃ u,h'.get? e=Ab u)
  (new:zG X.prog X.w (upd H x o) h' x o):Inv X pins σ (upd H x o) { s with heap:=h',toks:=t' }:=I.un (Un.write mu he k heo) (I.hok.write mu he k heo new)
theorem Inv.pins_of {pins':Aa (Af × Cj)}(I:Inv X pins σ H s)(h:∀ p∈pins',s.heap.get? p.1=Ab p.2/\H p.1=none/\p.1≠X.env.locals/\p.1 ∉ X.fs/\∀ v,p.2.data≠.cell v):Inv X pins' σ H s:=
 ⟨I.ok,I.os,I.bare,I.base,I.loc,I.cell,I.free,I.freeC,λp hp=>(Cn.mp hp).elim (λz=>I.pin p (Dk _ z)) (h p),I.hok,I.len⟩
theorem h8 {N:Aa Aq}(hN:N.Nodup){i j:Ai}{x:Aq}(a:N[i]? = Ab x)(b:N[j]? = Ab x):i=j:=by
 obtain⟨h1,e1⟩:=Bd.mp a;obtain⟨h2,e2⟩:=Bd.mp b;exact(Sl hN).mp (e1.trans e2.symm)
theorem sG {A:Bk}{i:Ai}{x:Aq}{v:V}{u:Ac}(I:Inv X pins σ H s)(hN:X.N.Nodup)(hi:X.N[i]? = Ab x)(hx:Loc X.env.scope x)(r:qJ v u)
  (h:∀ s',Inv X pins (σ.set i (Ab v)) H s'->(∃ a,Fc a s.heap s'.heap/\(a=X.env.locals\/X.env.cells.lookup x=Ab a))->Q () s') (hf:X.fn x=true\/X.env.scope.names.lookup x=Ab .local:=by first|exact .inl rfl|exact .inr rfl|assumption):Ap M A (storeName X.env x u) Q E s:=by
 obtain⟨m,hn,hl⟩:=id I.loc;have hcls:(X.env.scope.kind == .class||(X.env.scope.kind == .module&&X.env.locals != X.env.globals))=false:=by rw[I.ok.kind];rfl
 have hiσ:i<σ.length:=by rw[I.len];exact(Bd.mp hi).1
 have cne:=I.cne;have tracked:∀ {a:Af} {h':Bs},(∃ o,s.heap.get? a=Ab o/\H a=none)->Fc a s.heap h'->HOk X.prog X.w H h':=λ{a h'} ha hs b ob e=>by
  obtain⟨_,_,hfree⟩:=ha;refine(I.hok b ob e).stay (λc w' hc q=>(hs.2 c ?_).trans q) (λ_ q=>q) λ_ _ q=>q;rintro rfl;rcases hc with rfl|hc
  .rw[hfree] at e;cases e
  .rw[hfree] at hc;cases hc
 rcases hx with hk|hk
 .refine wpAny_storeName_local hk hn (λh' hn' hs=>?_) hcls
  obtain⟨oL,_,_,hoL,_⟩:=id hn;refine h _ ⟨I.ok,I.os,I.bare,⟨λb o e n hb hx=>?_,λb o e n hb hx=>?_,I.base.free,λb o e hx=>?_,I.base.tups,I.base.frzs,I.base.tbls⟩,⟨_,hn',λj y v' e1 e2 e3=>?_⟩,λy c e=>?_,I.free,I.freeC,λp hp=>?_,tracked ⟨oL,hoL,I.free⟩ hs,by simpa using I.len⟩ ⟨_,hs,.inl rfl⟩
  .exact(hs.2 b (Ci (Bh (Ay e) I.ok.above))).trans (I.base.keep b o e n hb hx)
  .obtain⟨sl,e1⟩:=I.base.slot b o e n hb hx
   exact⟨sl,(hs.2 b (Ci (Bh (Ay e) I.ok.above))).trans e1⟩
  .obtain⟨o',e1⟩:=I.base.there b o e hx
   exact⟨o',(hs.2 b (Ci (Bh (Ay e) I.ok.above))).trans e1⟩
  .by_cases hj:j=i
   .subst hj
    rw[hi] at e1;cases e1;rw[Er hiσ] at e2;cases e2;exact⟨u,r,.inl ⟨hk,by simp⟩⟩
   .rw[Cq (Fy hj)] at e2
    obtain⟨u',r',q⟩:=hl j y v' e1 e2 e3;refine⟨u',r',?_⟩;rcases q with⟨k,e⟩|⟨k,c,e,z⟩
    .refine .inl ⟨k,?_⟩
     have:y≠x:=λe=>hj (h8 hN e1 (e▸hi));simp[this,e]
    .exact .inr ⟨k,c,e,z.sameBut hs (cne y c e)⟩
  .obtain⟨w',z⟩:=I.cell y c e
   exact⟨w',z.sameBut hs (cne y c e)⟩
  .obtain⟨e,n,ne,nf,d⟩:=I.pin p hp
   exact⟨(hs.2 p.1 ne).trans e,n,ne,nf,d⟩
 .have hfn:X.fn x=true:=by
   rcases hf with z|z
   .exact z
   .rw[z] at hk;cases hk
  obtain⟨c,hc⟩:=I.ok.has x (.inl hk);obtain⟨w',z⟩:=I.cell x c hc;refine wpAny_storeName_cell I.ok.kind hk hc z (λh' hc' hs=>?_);obtain⟨oc,hoc,hocd⟩:=id z;refine h { s with heap:=h' } ⟨I.ok,I.os,I.bare,⟨λb o e n hb hx=>?_,λb o e n hb hx=>?_,I.base.free,λb o e hx=>?_,I.base.tups,I.base.frzs,I.base.tbls⟩,⟨m,hn.sameBut hs (Fy (cne x c hc)),λj y v' e1 e2 e3=>?_⟩,λy c' e=>?_,I.free,I.freeC,λp hp=>?_,tracked ⟨oc,hoc,I.freeC x c hc⟩ hs,by simpa using I.len⟩ ⟨c,hs,.inr hc⟩
  .exact(hs.2 b (Ci (Bh (Ay e) (I.ok.cab x c hfn hc)))).trans (I.base.keep b o e n hb hx)
  .obtain⟨sl,e1⟩:=I.base.slot b o e n hb hx
   exact⟨sl,(hs.2 b (Ci (Bh (Ay e) (I.ok.cab x c hfn hc)))).trans e1⟩
  .obtain⟨o',e1⟩:=I.base.there b o e hx
   exact⟨o',(hs.2 b (Ci (Bh (Ay e) (I.ok.cab x c hfn hc)))).trans e1⟩
  .by_cases hj:j=i
   .subst hj
    rw[hi] at e1;cases e1;rw[Er hiσ] at e2;cases e2;exact⟨u,r,.inr ⟨.inl hk,c,hc,hc'⟩⟩
   .rw[Cq (Fy hj)] at e2
    obtain⟨u',r',q⟩:=hl j y v' e1 e2 e3;refine⟨u',r',?_⟩;rcases q with q|⟨k,c',e,z'⟩
    .exact .inl q
    .refine .inr ⟨k,c',e,z'.sameBut hs ?_⟩
     rintro rfl;exact hj (h8 hN e1 (I.ok.inj _ _ _ e hc▸hi))
  .by_cases hcc:c'=c
   .subst hcc;exact⟨_,hc'⟩
   .obtain⟨w2,z2⟩:=I.cell y c' e
    exact⟨w2,z2.sameBut hs hcc⟩
  .obtain⟨e,n,ne,nf,d⟩:=I.pin p hp
   refine⟨(hs.2 p.1 ?_).trans e,n,ne,nf,d⟩;intro q;rw[q,hoc] at e;have q':oc=p.2:=Cs e;exact d w' (by rw[<- q'];exact hocd)
theorem gX {A:Bk}{i:Ai}{x:Aq}{v:V}{u:Ac}(I:Inv X pins σ H s)(hN:X.N.Nodup)(hi:X.N[i]? = Ab x)(hx:Loc X.env.scope x)(r:qJ v u)
  (h:∀ s',Inv X pins (σ.set i (Ab v)) H s'->Q () s') (hf:X.fn x=true\/X.env.scope.names.lookup x=Ab .local:=by first|exact .inl rfl|exact .inr rfl|assumption):Ap M A (storeName X.env x u) Q E s:=
 sG I hN hi hx r (λs' I' _=>h s' I') hf
theorem Inv.call' {s':Ag}(I:Inv X pins σ H s)(ho:s'.os=s.os)(u:Un (frs X.stack) ch H H' s.heap s'.heap)(hok:HOk X.prog X.w H' s'.heap)(hg:Oc s'.gens)
  (hch:∀ b∈ch,(b∈X.ex\/X.s₀.heap.objs.size<=b)/\b≠X.env.locals/\(∀ x c,X.env.cells.lookup x=Ab c->c≠b)/\∀ p∈X.pn++pins,p.1≠b):Inv X pins σ H' s':=by
 obtain⟨h',g',d',t',o'⟩:=s';have e:o'=s.os:=ho;subst e;exact I.call (g':=g') (t':=t') (d':=d') u hok hg hch
end
abbrev XK:=Ac->Al Af->Hp->Prop
abbrev St:=Aa (Al V)
abbrev VK:=V->Hp->Prop
abbrev TE:=St->Hp->VK->Prop
abbrev TT:=St->Hp->(Ar->Hp->Prop)->Prop
abbrev TA:=St->Hp->(Aa V->Hp->Prop)->Prop
structure Ends where
 nx:St->Hp->Prop
 rt:VK
 bk:St->Hp->Prop:=λ_ _=>Fh
 ct:St->Hp->Prop:=λ_ _=>Fh
abbrev TS:=Ends->St->Hp->Prop
inductive EP (X:Cx)(pins:Aa (Af × Cj))(σ : St)(Q:VK)(u:Ac)(s':Ag):Prop
 |mk (v:V) (H':Hp) (I:Inv X pins σ H' s') (r:qJ v u) (q:Q v H'):EP X pins σ Q u s'
inductive TP (X:Cx)(pins:Aa (Af × Cj))(σ : St)(Q:Ar->Hp->Prop)(b:Ar)(s':Ag):Prop
 |mk (H':Hp) (I:Inv X pins σ H' s') (q:Q b H'):TP X pins σ Q b s'
inductive AP (X:Cx)(pins:Aa (Af × Cj))(σ : St)(Q:Aa V->Hp->Prop)(us:Aa Ac)(s':Ag):Prop
 |mk (vs:Aa V) (H':Hp) (I:Inv X pins σ H' s') (r:qL vs us) (q:Q vs H'):AP X pins σ Q us s'
def SP (X:Cx)(pins:Aa (Af × Cj))(D:Ends)(f:Flow)(s':Ag):Prop:=
 match f with
 |.next=>∃ σ' H',Inv X pins σ' H' s'/\D.nx σ' H'
 |.brk=>∃ σ' H',Inv X pins σ' H' s'/\D.bk σ' H'
 |.cont=>∃ σ' H',Inv X pins σ' H' s'/\D.ct σ' H'
 |.ret u=>∃ v σ' H',Inv X pins σ' H' s'/\qJ v u/\D.rt v H'
def PE (X:Cx)(e:Bw)(t:TE):Prop:=
 ∀ (pins:Aa (Af × Cj)) (s:Ag) (σ : St) (H:Hp) (Q:VK),Inv X pins σ H s->t σ H Q->Ap (As X.prog X.w) X.A (eval e X.env) (EP X pins σ Q) X.xe s
def PT (X:Cx)(e:Bw)(t:TT):Prop:=
 ∀ (pins:Aa (Af × Cj)) (s:Ag) (σ : St) (H:Hp) (Q:Ar->Hp->Prop),Inv X pins σ H s->t σ H Q->Ap (As X.prog X.w) X.A (isTrue e X.env (eval e X.env)) (TP X pins σ Q) X.xe s
def PW (X:Cx)(e:Bw)(t:TT):Prop:=
 ∀ (whole:Ke Ac) (pins:Aa (Af × Cj)) (s:Ag) (σ : St) (H:Hp) (Q:Ar->Hp->Prop),Inv X pins σ H s->t σ H Q->Ap (As X.prog X.w) X.A (isTrue e X.env whole) (TP X pins σ Q) X.xe s
def PA (X:Cx)(es:Aa Bw)(t:TA):Prop:=
 ∀ (pos:Ey) (pins:Aa (Af × Cj)) (s:Ag) (σ : St) (H:Hp) (Q:Aa V->Hp->Prop),Inv X pins σ H s->t σ H Q->Ap (As X.prog X.w) X.A (spliced (Ft pos (Bm es X.env))) (AP X pins σ Q) X.xe s
def PS (X:Cx)(st:Fq)(t:TS):Prop:=
 ∀ (pins:Aa (Af × Cj)) (s:Ag) (σ : St) (H:Hp) (D:Ends),Inv X pins σ H s->t D σ H->Ap (As X.prog X.w) X.A (exec st X.env) (SP X pins D) X.xe s
def PSs (X:Cx)(st:Aa Fq)(t:TS):Prop:=
 ∀ (pins:Aa (Af × Cj)) (s:Ag) (σ : St) (H:Hp) (D:Ends),Inv X pins σ H s->t D σ H->Ap (As X.prog X.w) X.A (execs st X.env) (SP X pins D) X.xe s
theorem thn {α:Type}{t:Ke α}{Q Q':α->Ag->Prop}{A:Bk}{s:Ag}(h:Ap M A t Q E s)(hQ:∀ a s,Q a s->Q' a s):Ap M A t Q' E s:=Gq h hQ λ_ _ x=>x
end _L
namespace _L
open PySem PySem.Spec PyProof.Rows
variable {pins:Aa (Af × Cj)}{u:Ac}{E Q:Ac->Ag->Prop}
section
variable {X:Cx}
theorem bin {a b:Bw}{ta tb:TE}(ha:PE X a ta)(hb:PE X b tb){pins:Aa (Af × Cj)}{s:Ag}{σ : St}{H:Hp}{R:V->V->Hp->Prop}(I:Inv X pins σ H s)(h:ta σ H λx H1=>tb σ H1 λy H2=>R x y H2)
  {α:Type} {Q:α->Ag->Prop} {f:Ac->Ac->Ke α}
  (hf:∀ v u s2 x y H2,Inv X pins σ H2 s2->qJ x v->qJ y u->R x y H2->Ap (As X.prog X.w) X.A (f v u) Q X.xe s2) :
  Ap (As X.prog X.w) X.A (eval a X.env) (λv s₁=>Ap (As X.prog X.w) X.A (eval b X.env) (λu s₂=>Ap (As X.prog X.w) X.A (f v u) Q X.xe s₂) X.xe s₁) X.xe s:=by
 refine thn (ha pins s σ H _ I h) λv s1 ⟨x,H1,I1,r1,q1⟩=>?_;refine thn (hb pins s1 σ H1 _ I1 q1) λu s2 ⟨y,H2,I2,r2,q2⟩=>?_;exact hf v u s2 x y H2 I2 r1 r2 q2
def EM (i:Ai):TE:=λσ H Q=>∃ v,σ[i]? = Ab (Ab v)/\Q v H
def tC (v:V):TE:=λ_ H Q=>Q v H
theorem WQ {i:Ai}{x:Aq}{pos:Ey}(hN:X.N[i]? = Ab x)(hv:Vis X.env.scope x)(hd:(x == ("__debug__" : Aq))=false:=by decide)(hcd:(x == ("__classdict__" : Aq))=false:=by decide):PE X (.Name x pos) (EM i):=by
 intro pins s σ H Q I h;obtain⟨v,e,h⟩:=h;obtain⟨m,hn,hl⟩:=I.loc;obtain⟨u,r,l⟩:=hl i x v hN e hv;have fin:EP X pins σ Q u s:=⟨v,H,I,r,h⟩;rcases l with⟨hk,hm⟩|⟨hk,c,hc,hcell⟩
 .exact Zv (wpAny_loadName_local I.ok.kind hk hn hm fin) hd
 .rcases hk with hk|hk
  .exact Zv (wpAny_loadName_cell I.ok.kind hk hc hcell fin) hd
  .exact Zv (wpAny_loadName_free I.ok.kind hk hc hcell fin hcd) hd
theorem R6:PE X (.Constant (.int i) j pos) (tC (.int i)):=λ_ _ _ H _ I h=>wpAny_Constant_int ⟨.int i,H,I.tok _,⟨_,rfl⟩,h⟩
theorem AB:PE X (.Constant (.bool b) j pos) (tC (.bl b)):=λ_ _ _ H _ I h=>Constant_bool ⟨.bl b,H,I,rfl,h⟩
theorem R8:PE X (.Constant (.str x) j pos) (tC (.str x)):=λ_ _ _ H _ I h=>Calls.Constant_str ⟨.str x,H,I.tok _,⟨_,rfl⟩,h⟩
def Gl (X:Cx)(x:Aq):Prop:=X.env.kindOf x=Ab .globalImplicit
theorem kG {s:Ag}{σ:St}{H:Hp}{x:Aq}{pos:Ey}(I:Inv X pins σ H s)(hg:Gl X x)(hm:X.mg x=Ab u)(h:Q u s)
  (hd:(x == ("__debug__" : Aq))=false:=by decide):Ap (As X.prog X.w) X.A (eval (.Name x pos) X.env) Q E s:=
 Qt I.ok.kind hg (Calls.loadGlobal_global (by rw[I.ok.glob];exact I.mod.glob.keeps I.bk) hm h) hd
theorem vO {s:Ag}{σ:St}{H:Hp}{x:Aq}{pos:Ey}(I:Inv X pins σ H s)(hg:Gl X x)(hm:X.mg x=none)(hv:Fu x=Ab u)(h:Q u s)
  (hn:x ≠ "__name__":=by decide) (hd:(x == ("__debug__" : Aq))=false:=by decide):Ap (As X.prog X.w) X.A (eval (.Name x pos) X.env) Q E s:=by
 obtain⟨mb,h1,h2⟩:=I.mod.blt;exact Qt I.ok.kind hg (Calls.loadGlobal_builtin (by rw[I.ok.glob];exact I.mod.glob.keeps I.bk) hm (by rw[I.ok.blt];exact h1.keeps I.bk) ((h2 x hn).trans hv) h) hd
theorem FB {x:Aq}{v:V}{pos:Ey}(hg:Gl X x)(hm:X.mg x=Ab u)(r:qJ v u)(hd:(x == ("__debug__" : Aq))=false:=by decide):PE X (.Name x pos) (tC v):=
 λ_ _ _ H _ I h=>kG I hg hm ⟨v,H,I,r,h⟩ hd
theorem FA {x:Aq}{v:V}{pos:Ey}(hg:Gl X x)(hm:X.mg x=none)(hv:Fu x=Ab u)(r:qJ v u)(hn:x ≠ "__name__":=by decide)(hd:(x == ("__debug__" : Aq))=false:=by decide):PE X (.Name x pos) (tC v):=
 λ_ _ _ H _ I h=>vO I hg hm hv ⟨v,H,I,r,h⟩ hn hd
variable {a b:Bw}{ta tb:TE}{pos:Ey}
variable {tA tB':TT}{rest:Aa Bw}
theorem FK (ha:PT X a tA):PW X (.BoolOp .And [a] pos) tA:=by
 intro wh pins s σ H Q I h;refine isTrue_and (thn (ha pins s σ H Q I h) λc s1 e=>?_);cases c with
 |true=>exact isTrue_and_nil e
 |false=>exact e
theorem RG (ha:PT X a tA):PW X (.BoolOp .Or [a] pos) tA:=by
 intro wh pins s σ H Q I h;refine isTrue_or (thn (ha pins s σ H Q I h) λc s1 e=>?_);cases c with
 |false=>exact isTrue_or_nil e
 |true=>exact e
theorem R7 {t:TE}(h:PE X a t):PE X (.BoolOp op [a] pos) t:=λpins s σ H Q I hw=>BoolOp_one (h pins s σ H Q I hw)
end
end _L
namespace _L
open PySem PySem.Spec PyProof.Rows
variable {es:Aa Bw}{K:Aj}{P:Bc}{tg:Bw}{w:Bx}
def SqL (K:Aj)(H:Hp)(a:Af)(xs:Aa V):Prop:=
 Rd H a (.lst xs) \/
  ∃ (o:Cj) (its:Aw Ac) (n:Ai),K.lookup a=Ab o/\o.cls=.type "list" /\ o.dict=none/\o.data=.seq its n/\its.size<=sizeLine/\qL xs its.toList
def SqT (K:Aj)(H:Hp)(a:Af)(xs:Aa V):Prop:=
 Rd H a (.tup xs) \/
  ∃ (o:Cj) (its:Aw Ac) (n:Ai),K.lookup a=Ab o/\o.cls=.type "tuple" /\ o.data=.seq its n/\its.size<=sizeLine/\qL xs its.toList
def O9:Ac->Al V
 |.none=>Ab .non
 |.bool b=>Ab (.bl b)
 |.int i _=>Ab (.int i)
 |.str x _=>Ab (.str x)
 |.bytes b _=>Ab (.byt b)
 |.float b _=>Ab (.flt b)
 |.ref a=>Ab (.ref a)
 |.type n=>Ab (.ty n)
 |_=>none
theorem qJ.abs {x:V}{u:Ac}(r:qJ x u):O9 u=Ab x:=by
 cases x with
 |non=>cases r;rfl
 |bl _=>cases r;rfl
 |int _=>obtain⟨t,rfl⟩:=r;rfl
 |str _=>obtain⟨t,rfl⟩:=r;rfl
 |byt _=>obtain⟨t,rfl⟩:=r;rfl
 |flt _=>obtain⟨t,rfl⟩:=r;rfl
 |ref _=>cases r;rfl
 |ty _=>cases r;rfl
theorem qJ.inj {x y:V}{u:Ac}(r:qJ x u)(q:qJ y u):x=y:=Cs (r.abs.symm.trans q.abs)
theorem qL.inj {xs ys:Aa V}{us:Aa Ac}(h:qL xs us)(k:qL ys us):xs=ys:=by
 induction h generalizing ys with
 |nil=>cases k;rfl
 |cons r t ih =>
  cases k with
  |cons r' t'=>rw[r.inj r',ih t']
section
variable {X:Cx}{pins:Aa (Af × Cj)}{σ : St}{H:Hp}{s:Ag}{a:Af}{xs ys:Aa V}
theorem SqL.of (h:H a=Ab (.lst xs)):SqL K H a xs:=.inl (.inl h)
theorem SqT.of (h:H a=Ab (.tup xs)):SqT K H a xs:=.inl (.inl h)
theorem Inv.list (I:Inv X pins σ H s)(h:SqL X.K H a xs):∃ its:Aa Ac,qL xs its/\PlainL s.heap a its.toArray/\xs.length<=sizeLine:=by
 rcases h with h|⟨o,its,n,hk,hc,hd,hs,hz,r⟩
 .obtain⟨z,its,n,r,e⟩:=h.ok I.hok
  exact⟨its,r,⟨_,n,e,rfl,rfl,rfl⟩,z⟩
 .refine⟨its.toList,r,⟨o,n,I.kIn a o hk,hc,hd,by simpa using hs⟩,?_⟩
  have e:=r.length;simp only[Bp] at e;omega
theorem Inv.tuple (I:Inv X pins σ H s)(h:SqT X.K H a xs):∃ its:Aa Ac,qL xs its/\Qg s.heap a its.toArray/\xs.length<=sizeLine:=by
 rcases h with h|⟨o,its,n,hk,hc,hs,hz,r⟩
 .obtain⟨z,its,r,p⟩:=h.ok I.hok
  exact⟨its,r,p,z⟩
 .refine⟨its.toList,r,⟨o,I.kIn a o hk,hc,n,by simpa using hs⟩,?_⟩
  have e:=r.length;simp only[Bp] at e;omega
theorem Inv.list_inj (I:Inv X pins σ H s)(h:SqL X.K H a xs)(h':SqL X.K H a ys):xs=ys:=by
 obtain⟨its,r,⟨o,n,e,_,_,d⟩,_⟩:=I.list h;obtain⟨its',r',⟨o',n',e',_,_,d'⟩,_⟩:=I.list h';rw[e] at e';cases e';rw[d] at d';injection d' with d1 _
 have:its=its':=by simpa using congrArg WP d1
 subst this;exact r.inj r'
theorem Inv.tuple_inj (I:Inv X pins σ H s)(h:SqT X.K H a xs)(h':SqT X.K H a ys):xs=ys:=by
 obtain⟨its,r,⟨o,e,_,n,d⟩,_⟩:=I.tuple h;obtain⟨its',r',⟨o',e',_,n',d'⟩,_⟩:=I.tuple h';rw[e] at e';cases e';rw[d] at d';injection d' with d1 _
 have:its=its':=by simpa using congrArg WP d1
 subst this;exact r.inj r'
end
abbrev Cx.wish (X:Cx)(E:Ac->Ag->Prop):Cx:={ X with xe:=E }
abbrev Cx.nox (X:Cx):Cx:=X.wish λ_ _=>Fh
theorem Cx.Ok.wish {X:Cx}(ok:X.Ok)(E:Ac->Ag->Prop):(X.wish E).Ok:=
 ⟨ok.mod,ok.kind,ok.glob,ok.blt,ok.above,ok.inj,ok.has,ok.cab,ok.hd,ok.frames,ok.stk,ok.exf,ok.bs,ok.bsz,ok.noex,ok.exfs,ok.funs,ok.frf⟩
theorem Cx.Ok.unwish {X:Cx}{E:Ac->Ag->Prop}(ok:(X.wish E).Ok):X.Ok:=
 ⟨ok.mod,ok.kind,ok.glob,ok.blt,ok.above,ok.inj,ok.has,ok.cab,ok.hd,ok.frames,ok.stk,ok.exf,ok.bs,ok.bsz,ok.noex,ok.exfs,ok.funs,ok.frf⟩
section
variable {X:Cx}{pins:Aa (Af × Cj)}{σ : St}{H:Hp}{s:Ag}{E:Ac->Ag->Prop}
theorem Inv.wish (I:Inv X pins σ H s)(E:Ac->Ag->Prop):Inv (X.wish E) pins σ H s:=⟨I.ok.wish E,I.os,I.bare,I.base,I.loc,I.cell,I.free,I.freeC,I.pin,I.hok,I.len⟩
theorem Inv.unwish (I:Inv (X.wish E) pins σ H s):Inv X pins σ H s:=⟨I.ok.unwish,I.os,I.bare,I.base,I.loc,I.cell,I.free,I.freeC,I.pin,I.hok,I.len⟩
theorem SP.unwish {D:Ends}{f:Flow}{s':Ag}(h:SP (X.wish E) pins D f s'):SP X pins D f s':=by
 cases f with
 |next=>obtain⟨σ',H',I,q⟩:=h;exact⟨σ',H',I.unwish,q⟩
 |brk=>obtain⟨σ',H',I,q⟩:=h;exact⟨σ',H',I.unwish,q⟩
 |cont=>obtain⟨σ',H',I,q⟩:=h;exact⟨σ',H',I.unwish,q⟩
 |ret u=>obtain⟨v,σ',H',I,r,q⟩:=h;exact⟨v,σ',H',I.unwish,r,q⟩
theorem PE.nox {e:Bw}{t:TE}(h:PE X.nox e t):PE X e t:=λpins s σ H Q I hw =>
 Gq (h pins s σ H Q (I.wish _) hw) (λ_ _ ⟨v,H',I',r,q⟩=>⟨v,H',I'.unwish,r,q⟩) λ_ _ z=>Ao z
theorem PT.nox {e:Bw}{t:TT}(h:PT X.nox e t):PT X e t:=λpins s σ H Q I hw =>
 Gq (h pins s σ H Q (I.wish _) hw) (λ_ _ ⟨H',I',q⟩=>⟨H',I'.unwish,q⟩) λ_ _ z=>Ao z
theorem PSs.nox {st:Aa Fq}{t:TS}(h:PSs X.nox st t):PSs X st t:=λpins s σ H D I hw =>
 Gq (h pins s σ H D (I.wish _) hw) (λ_ _ q=>q.unwish) λ_ _ z=>Ao z
end
section
variable {X:Cx}{st:Fq}{rest:Aa Fq}{t u:TS}{e:Bw}{te:TE}{pos:Ey}
def I8:TS:=λD σ H=>D.nx σ H
def qAQ (t u:TS):TS:=λD σ H=>t { D with nx:=u D } σ H
theorem FI:PSs X [] I8:=λ_ _ σ H _ I h=>Pi ⟨σ,H,I,h⟩
theorem UR (h1:PS X st t)(h2:PSs X rest u):PSs X (st::rest) (qAQ t u):=by
 intro pins s σ H D I h;refine Yo (thn (h1 pins s σ H { D with nx:=u D } I h) λf s1 q=>?_)
 cases f with
 |next =>
  obtain⟨σ',H',I',q⟩:=q;exact h2 pins s1 σ' H' D I' q
 |ret v=>exact q
 |brk=>exact q
 |cont=>exact q
theorem FJ (h1:PS X st t):PSs X [st] t:=by
 intro pins s σ H D I h;refine Yo (thn (h1 pins s σ H D I h) λf s1 q=>?_);cases f with
 |next=>exact Pi q
 |ret v=>exact q
 |brk=>exact q
 |cont=>exact q
theorem Inv.quiet {pins:Aa (Af × Cj)}{σ:St}{H:Hp}{s:Ag}(I:Inv X pins σ H s):interactive X.env=false:=by simp[interactive,I.ok.kind]
end
abbrev TG:=V->St->Hp->(St->Hp->Prop)->Prop
abbrev TGs:=Aa V->St->Hp->(St->Hp->Prop)->Prop
def PG (X:Cx)(target:Bw)(t:TG):Prop:=
 ∀ (pins:Aa (Af × Cj)) (s:Ag) (σ : St) (H:Hp) (v:V) (u:Ac) (Q:St->Hp->Prop),Inv X pins σ H s->qJ v u->t v σ H Q ->
  Ap (As X.prog X.w) X.A (assign target X.env u) (λ_ s'=>∃ σ' H',Inv X pins σ' H' s'/\Q σ' H') X.xe s
def PGs (X:Cx)(ts:Aa Bw)(t:TGs):Prop:=
 ∀ (pins:Aa (Af × Cj)) (s:Ag) (σ : St) (H:Hp) (vs:Aa V) (us:Aa Ac) (Q:St->Hp->Prop),Inv X pins σ H s->qL vs us->t vs σ H Q ->
  Ap (As X.prog X.w) X.A (Vn ((Gr ts X.env).map (·.2)) us) (λ_ s'=>∃ σ' H',Inv X pins σ' H' s'/\Q σ' H') X.xe s
abbrev YL:=V->V->V->Hp->(Hp->Prop)->Prop
def rE (X:Cx)(t:YL):Prop:=
 ∀ (pins:Aa (Af × Cj)) (s:Ag) (σ : St) (H:Hp) (o i v:V) (ov iv u:Ac) (Q:Hp->Prop),Inv X pins σ H s->qJ o ov->qJ i iv->qJ v u->t o i v H Q ->
  Ap (As X.prog X.w) X.A (setItem ov iv u) (λ_ s'=>∃ H',Inv X pins σ H' s'/\Q H') X.xe s
section
variable {X:Cx}{pos:Ey}
def C5 (i:Ai):TG:=λv σ H Q=>Q (σ.set i (Ab v)) H
theorem FC {i:Ai}{x:Aq}(hN:X.N.Nodup)(hi:X.N[i]? = Ab x)(hx:Loc X.env.scope x)(hf:X.fn x=true\/X.env.scope.names.lookup x=Ab .local:=by first|exact .inl rfl|exact .inr rfl|assumption):PG X (.Name x pos) (C5 i):=by
 intro pins s σ H v u Q I r h;exact Xm (gX I hN hi hx r (λs' I'=>⟨_,H,I',h⟩) hf)
def ON:TGs:=λvs σ H Q=>vs=[]/\Q σ H
def C4 (t:TG)(u:TGs):TGs:=λvs σ H Q=>∃ v r,vs=v::r/\t v σ H λσ' H'=>u r σ' H' Q
theorem FD:PGs X [] ON:=by
 intro pins s σ H vs us Q I r h;obtain⟨e,h⟩:=h;subst e;cases r;exact Xn ⟨σ,H,I,h⟩
theorem UO {e:Bw}{t:TG}{u:TGs}(h1:PG X e t)(h2:PGs X es u)
  (hs:(Gr (e::es) X.env).map (·.2)=assign e X.env::(Gr es X.env).map (·.2):=by rfl):PGs X (e::es) (C4 t u):=by
 intro pins s σ H vs us Q I r h;obtain⟨v,vr,e1,h⟩:=h;subst e1;cases r with
 |cons r rr =>
  rw[hs];refine Qn (thn (h1 pins s σ H _ _ _ I r h) λ_ s1 ⟨σ1,H1,I1,q1⟩=>?_);exact h2 pins s1 σ1 H1 _ _ Q I1 rr q1
def OO (K:Aj)(n:Ai)(t:TGs):TG:=λv σ H Q=>∃ a xs,v=.ref a/\SqT K H a xs/\xs.length=n/\t xs σ H Q
theorem RA {k:Ai}{t:TGs}{n:Ai}(hc:X.calm=true)(h:PGs X es t)
  (hn:(Gr es X.env).length=n:=by rfl) (hst:(Gr es X.env).findIdx? (·.1)=none:=by rfl):PG X (.Tuple es k pos) (OO X.K n t):=by
 intro pins s σ H v u Q I r hw;obtain⟨a,xs,e1,hq,hl,hw⟩:=hw;subst e1;cases r;obtain⟨its,rv,ht,hz⟩:=I.tuple hq;refine assign_Tuple_tuple (I.ok.hd hc) ht (by simp[hn,<- hl,rv.length]) hst λh' hx=>?_
 have I1:Inv X pins σ H { s with heap:=h' }:=I.kept (t':=s.toks) λb o e=>hx b o (Ci (Ay e)) e
 exact h pins _ σ H xs _ Q I1 (by simpa using rv) hw
def yD (to ti:TE)(t:YL):TG:=λv σ H Q=>to σ H λo H1=>ti σ H1 λi H2=>t o i v H2 λH3=>Q σ H3
def qAP (i j:Ai)(ta:TA):TS:=λD σ H=>ta σ H λvs H1=>∃ v w,vs=[v,w]/\D.nx ((σ.set i (Ab v)).set j (Ab w)) H1
theorem RD {i j:Ai}{x y:Aq}{a b:Bw}{ta:TA}{px py pt:Ey} {kt k2 pt2} (hc:X.calm=true) (hN:X.N.Nodup) (hi:X.N[i]? = Ab x) (hj:X.N[j]? = Ab y) (hij:i≠j)
  (hx:X.env.scope.names.lookup x=Ab .local) (hy:X.env.scope.names.lookup y=Ab .local) (ha:PA X [a,b] ta)
  (hw:Lp [.Tuple [.Name x px,.Name y py] kt pt] (.Tuple [a,b] k2 pt2) X.env=pure (Ab [x,y]))
  (hs:Lq [.Tuple [.Name x px,.Name y py] kt pt] (.Tuple [a,b] k2 pt2) pos.line X.env=pure false:=by rfl) :
  PS X (.Assign [.Tuple [.Name x px,.Name y py] kt pt] (.Tuple [a,b] k2 pt2) pos) (qAP i j ta):=by
 intro pins s σ H D I h;rw[exec_Assign_arm];refine Ad (Lr ?_);rw[hs];refine Ad (An ?_);rw[Bb (by decide)]
 refine Ad (Tuple_ (thn (ha _ pins s σ H _ I h) λus s1 ⟨vs,H1,I1,r1,q1⟩=>?_));obtain⟨v,w,e1,q1⟩:=q1;subst e1;obtain⟨u1,u2,rfl,rv,rw'⟩:∃ u1 u2,us=[u1,u2]/\qJ v u1/\qJ w u2:=by
  cases r1 with
  |cons p q =>
   cases q with
   |cons p' q' =>
    cases q';exact⟨_,_,rfl,p,p'⟩
 refine Ek ?_ (by show 2<=sizeLine;decide)
 have I2:Inv X pins σ H1 { s1 with heap:=s1.heap.push { cls:=.type "tuple",data:=.seq [u1,u2].toArray } }:=I1.kept (t':=s1.toks) λb o e=>Ah _ e
 rw[hw];refine Ad (An ?_);show Ap (As X.prog X.w) X.A (do rule "assign.swapped-stores";let items <- unpackItems (.ref s1.heap.objs.size) 2 none;Vn [λv=>Zj X.env y v,λv=>Zj X.env x v] items.reverse;pure Flow.next) _ _ _
 refine Ad (Gs (Ad (unpackItems_tuple (items:=#[u1,u2]) (I.ok.hd hc) (Xo s1.heap _) λh' hx'=>?_)));have I3:=I2.kept (h':=h') (t':=s1.toks) λb o e=>hx' b o (Ci (Ay e)) e;show Ap _ _ (Vn [λv=>Zj X.env y v,λv=>Zj X.env x v] [u2,u1] >>= λ_=>pure Flow.next) _ _ _;refine Ad (Qn (wpAny_bindName (gX I3 hN hj (.inl hy) rw' (λs2 I4=>?_) (.inr hy))));refine Qn (wpAny_bindName (gX I4 hN hi (.inl hx) rv (λs3 I5=>Xn (An ?_)) (.inr hx)));rw[List.set_comm _ _ (Fy hij)] at I5;exact⟨_,H1,I5,q1⟩
end
section
variable {X:Cx}{pos:Ey}
def EN (c:TT)(tb:TS):TS:=λD σ H=>∃ W:Ai->St->Hp->Prop,(∃ m,W m σ H)/\∀ m σ H,W m σ H ->
 c σ H λb H1=>if b=true then ∃ N:St->Hp->Prop,(∀ σ' H',N σ' H'->∃ m',m'<m/\W m' σ' H')/\tb { D with nx:=N,ct:=N,bk:=D.nx } σ H1 else D.nx σ H1
theorem UQ {c:Bw}{body:Aa Fq}{tc:TT}{tb:TS}(hp:Rg (As X.prog X.w) X.A X.env X.xe)(hc:PT X c tc)(hb:PSs X body tb):PS X (.While c body [] pos) (EN tc tb):=by
 intro pins s σ H D I h;obtain⟨W,⟨m0,w0⟩,turn⟩:=h;refine wpAny_While (codeAny_whileLoop (λn s'=>∃ σ' H',Inv X pins σ' H' s'/\W n σ' H') ?_ m0 ⟨σ,H,I,w0⟩);rintro n s1 ⟨σ1,H1,I1,w1⟩;refine Jj hp (thn (hc pins s1 σ1 H1 _ I1 (turn n σ1 H1 w1)) λb s2 ⟨H2,I2,q2⟩=>?_);cases b with
 |true =>
  obtain⟨N,hN,q2⟩:=q2;rw[Bf rfl];refine Jj hp (thn (hb pins s2 σ1 H2 _ I2 q2) λf s3 q3=>?_);cases f with
  |next =>
   obtain⟨σ3,H3,I3,n3⟩:=q3;obtain⟨m',hm,w3⟩:=hN σ3 H3 n3;exact⟨m',hm,σ3,H3,I3,w3⟩
  |cont =>
   obtain⟨σ3,H3,I3,n3⟩:=q3;obtain⟨m',hm,w3⟩:=hN σ3 H3 n3;exact⟨m',hm,σ3,H3,I3,w3⟩
  |brk=>exact q3
  |ret v=>exact q3
 |false =>
  rw[Bb Go];exact Pi ⟨σ1,H2,I2,q2⟩
end
structure It where
 go:Ai->Hp->Prop
 yld:Ai->Hp->V->Hp->Prop
 stop:Ai->Hp->Prop
def zZ (X:Cx)(pins:Aa (Af × Cj))(H:Hp)(b:Af):Prop:=
 H b=none/\b≠X.env.locals/\b ∉ X.fs/\(b∈X.ex\/X.s₀.heap.objs.size<=b)/\(∀ x c,X.env.cells.lookup x=Ab c->c≠b)/\∀ p∈X.pn++pins,p.1≠b
theorem Inv.fpOk {X:Cx}{pins:Aa (Af × Cj)}{σ:St}{H H':Hp}{s:Ag}{b:Af}(I:Inv X pins σ H s)(hb:s.heap.objs.size<=b)(hn:H' b=none):zZ X pins H' b:=by
 refine⟨hn,Fv (Bh I.lt hb),I.nofs hb,.inr (Dm I.sz hb),λx c e z=>?_,λp hp z=>?_⟩
 .obtain⟨v,q⟩:=I.cell x c e
  exact absurd (Bh q.lt (by rw[z];exact hb)) (Du _)
 .exact absurd (Bh (Ay (I.pin p hp).1) (by rw[z];exact hb)) (Du _)
structure Turn (P:Bc)(w:Bx)(K:Aj)(tg:Bw)(J:It)(fp:Aa Af)(it:Af)(tn:Ai->Bs->Prop):Prop where
 mem:it∈fp
 obj:∀ i h,tn i h->∀ b∈fp,∃ o,h.get? b=Ab o/\∀ v,o.data≠.cell v
 keep:∀ i h h',tn i h->(∀ b∈fp,∀ o,h.get? b=Ab o->h'.get? b=Ab o)->tn i h'
 item:∀ (X:Cx),X.prog=P->X.w=w->X.K=K->X.calm=true->∀ (i:Ai) (pins:Aa (Af × Cj)) (s:Ag) (σ : St) (H:Hp) (E:Ac->Ag->Prop),Inv X pins σ H s->(∀ b∈fp,zZ X pins H b)->tn i s.heap->J.go i H ->
  Ap (As P w) X.A (Ng (.ref it)) (λr s1=>∃ u,r=Ab u /\
   Ap (As P w) X.A (Kg tg (.ref it) u) (λ_ s2=>∃ x H',Inv X pins σ H' s2/\qJ x u/\J.yld i H x H'/\tn (i+1) s2.heap/\∀ b∈fp,H' b=none) E s1) E s
 done:∀ (X:Cx),X.prog=P->X.w=w->X.K=K->X.calm=true->∀ (i:Ai) (pins:Aa (Af × Cj)) (s:Ag) (σ : St) (H:Hp) (E:Ac->Ag->Prop),Inv X pins σ H s->(∀ b∈fp,zZ X pins H b)->tn i s.heap->J.stop i H ->
  Ap (As P w) X.A (Ng (.ref it)) (λr s1=>r=none/\Inv X pins σ H s1) E s
 self:∀ (A:Bk) (i:Ai) (s:Ag) (Q:Ac->Ag->Prop) (E:Ac->Ag->Prop),tn i s.heap->Q (.ref it) s->Ap (As P w) A (Od (.ref it)) Q E s
abbrev TI:=St->Hp->(It->Hp->Prop)->Prop
inductive PIE (X:Cx)(pins:Aa (Af × Cj))(σ : St)(tg:Bw)(R:It->Hp->Prop)(itv:Ac)(s2:Ag):Prop
 |mk (it:Af) (fp:Aa Af) (tn:Ai->Bs->Prop) (J:It) (H':Hp) (e:itv=.ref it) (I:Inv X pins σ H' s2) (t:Turn X.prog X.w X.K tg J fp it tn) (z:tn 0 s2.heap) (f:∀ b∈fp,zZ X pins H' b) (q:R J H'):PIE X pins σ tg R itv s2
def PI (X:Cx)(tg iter:Bw)(wi:TI):Prop:=
 ∀ (pins:Aa (Af × Cj)) (s:Ag) (σ : St) (H:Hp) (R:It->Hp->Prop),Inv X pins σ H s->wi σ H R ->
  Ap (As X.prog X.w) X.A (eval iter X.env) (λv s1=>Ap (As X.prog X.w) X.A (Od v) (PIE X pins σ tg R) X.xe s1) X.xe s
theorem QF {M:Nl}{A:Bk}{E:Ac->Ag->Prop}{s:Ag}{it:Af}{u:Ac}{o:Cj}{n:Em}{vs:Aw Ac}{Q:Uv->Ag->Prop}(ho:s.heap.get? it=Ab o)(hc:o.cls=.type n)(hd:o.data=.fields vs)
    (hn:["enumerate","zip","dict_itemiterator","dict_reverseitemiterator","odict_iterator","itertools.zip_longest","itertools.pairwise"].contains n=false) (hQ:Q () s):Ap M A (Kg tg (.ref it) u) Q E s:=by
  unfold Kg;cases tg <;> first
    |exact An hQ
    |(cases u <;> first
        |exact An hQ
        | (refine Ad (wpAny_load ho ?_)
           rw[hc,hd];show Ap M A (if (["enumerate","zip","dict_itemiterator","dict_reverseitemiterator","odict_iterator","itertools.zip_longest","itertools.pairwise"].contains n&&vs[0]? == Ab (Fz _))=true then _ else _) Q E s
           rw[Bb (by intro h;rw[hn,Lb] at h;cases h)]
           exact An hQ))
def Itl (K:Aj)(a:Af):It:=
 ⟨λi H=>∃ xs x,SqL K H a xs/\xs[i]? = Ab x,λi H x H'=>H'=H/\∀ xs,SqL K H a xs->xs[i]? = Ab x,λi H=>∃ xs,SqL K H a xs/\xs.length<=i⟩
def Itt (K:Aj)(a:Af):It:=
 ⟨λi H=>∃ xs x,SqT K H a xs/\xs[i]? = Ab x,λi H x H'=>H'=H/\∀ xs,SqT K H a xs->xs[i]? = Ab x,λi H=>∃ xs,SqT K H a xs/\xs.length<=i⟩
def Itr (lo:Ak)(n:Ai):It:=⟨λi _=>i<n,λi H x H'=>H'=H/\x=.int (lo+i),λi _=>n<=i⟩
theorem sI (a it:Af):Turn P w K tg (Itl K a) [it] it (λi h=>h.IsListIter it a i) where
 mem:=by simp
 obj:=λi h st b hb=>by
  have e:b=it:=by simpa using hb
  subst e;obtain⟨o,e,c,d⟩:=st;exact⟨o,e,λv z=>by rw[d] at z;cases z⟩
 keep:=λi h h' st k=>st.at λo e=>k it (by simp) o e
 item:=by
  intro X hP hw hK hc i pins s σ H E I hf st hg;subst hP hw hK;obtain⟨xs,x,hq,hx⟩:=hg;obtain⟨its,rv,p,hz⟩:=I.list hq;obtain⟨u,hu,ru⟩:=rv.get hx;obtain⟨f0,f1,f2,f3,f4,f5⟩:=hf it (by simp)
  refine wpAny_pyNext_list_item st p.isList (x:=u) (by simpa using hu) λh' st' sb=>?_
  have I1:Inv X pins σ H { s with heap:=h' }:=I.turned (t':=s.toks) (λb o hb e=>(sb.2 b hb).trans e) f0 f1 f3 f4 f5
  obtain⟨o,e,c,d⟩:=id st';exact⟨u,rfl,QF (s:={ s with heap:=h' }) e c d (by decide) ⟨x,H,I1,ru,⟨rfl,λys hy=>by rw[I.list_inj hy hq];exact hx⟩,st',λb hb=>(hf b hb).1⟩⟩
 done:=by
  intro X hP hw hK hc i pins s σ H E I hf st hg;subst hP hw hK;obtain⟨xs,hq,hx⟩:=hg;obtain⟨its,rv,p,hz⟩:=I.list hq;obtain⟨f0,f1,f2,f3,f4,f5⟩:=hf it (by simp)
  have hl:=rv.length;exact wpAny_pyNext_list_end (I.ok.hd hc) st p.isList (by simp;omega) λh' eb=>⟨rfl,I.turned (t':=s.toks) (λb o hb e=>eb b o hb e) f0 f1 f3 f4 f5⟩
 self:=λ_ _ _ _ _ st h=>wpAny_pyIter_listiter st h
theorem ZM (a it:Af):Turn P w K tg (Itt K a) [it] it (λi h=>h.IsTupleIter it a i) where
 mem:=by simp
 obj:=λi h st b hb=>by
  have e:b=it:=by simpa using hb
  subst e;obtain⟨o,e,c,d⟩:=st;exact⟨o,e,λv z=>by rw[d] at z;cases z⟩
 keep:=λi h h' st k=>st.at λo e=>k it (by simp) o e
 item:=by
  intro X hP hw hK hc i pins s σ H E I hf st hg;subst hP hw hK;obtain⟨xs,x,hq,hx⟩:=hg;obtain⟨its,rv,p,hz⟩:=I.tuple hq;obtain⟨u,hu,ru⟩:=rv.get hx;obtain⟨f0,f1,f2,f3,f4,f5⟩:=hf it (by simp)
  refine wpAny_pyNext_tuple_item st (show s.heap.IsTuple a its.toArray from p) (x:=u) (by simpa using hu) λh' st' sb=>?_
  have I1:Inv X pins σ H { s with heap:=h' }:=I.turned (t':=s.toks) (λb o hb e=>(sb.2 b hb).trans e) f0 f1 f3 f4 f5
  obtain⟨o,e,c,d⟩:=id st';exact⟨u,rfl,QF (s:={ s with heap:=h' }) e c d (by decide) ⟨x,H,I1,ru,⟨rfl,λys hy=>by rw[I.tuple_inj hy hq];exact hx⟩,st',λb hb=>(hf b hb).1⟩⟩
 done:=by
  intro X hP hw hK hc i pins s σ H E I hf st hg;subst hP hw hK;obtain⟨xs,hq,hx⟩:=hg;obtain⟨its,rv,p,hz⟩:=I.tuple hq;obtain⟨f0,f1,f2,f3,f4,f5⟩:=hf it (by simp)
  have hl:=rv.length;exact wpAny_pyNext_tuple_end (I.ok.hd hc) st (show s.heap.IsTuple a its.toArray from p) (by simp;omega) λh' eb=>⟨rfl,I.turned (t':=s.toks) (λb o hb e=>eb b o hb e) f0 f1 f3 f4 f5⟩
 self:=λ_ _ _ _ _ st h=>wpAny_pyIter_tupleiter st h
theorem ZL (it:Af)(lo:Ak)(n:Ai):Turn P w K tg (Itr lo n) [it] it (λi h=>IsRangeIter h it (lo+(i:Ai)*1) ((n:Ak)-(i:Ai)) 1) where
 mem:=by simp
 obj:=λi h st b hb=>by
  have e:b=it:=by simpa using hb
  subst e;exact⟨_,st,λv z=>by
   have z':Data.fields _=Data.cell v:=z;cases z'⟩
 keep:=λi h h' st k=>k it (by simp) _ st
 item:=by
  intro X hP hw hK hc i pins s σ H E I hf st hg;subst hP hw hK;obtain⟨f0,f1,f2,f3,f4,f5⟩:=hf it (by simp)
  have W:=Walks.range (prog:=X.prog) (w:=X.w) (I.ok.hd hc) it lo 1 n;refine W.item i s _ _ hg st λv h' tk hv st' kk=>?_;obtain⟨t,rfl⟩:=hv;have I1:Inv X pins σ H { s with heap:=h',toks:=tk }:=I.turned (λb o hb e=>kk b o (by simpa using hb) e) f0 f1 f3 f4 f5
  refine⟨_,rfl,QF (s:={ s with heap:=h',toks:=tk }) (n:="range_iterator") st' rfl rfl (by decide) ⟨.int (lo+i),H,I1,⟨t,?_⟩,⟨rfl,rfl⟩,st',λb hb=>(hf b hb).1⟩⟩
  rw[Int.mul_one]
 done:=by
  intro X hP hw hK hc i pins s σ H E I hf st hg;subst hP hw hK;obtain⟨f0,f1,f2,f3,f4,f5⟩:=hf it (by simp)
  exact wpAny_pyNext_range_end (I.ok.hd hc) st (by have:n<=i:=hg;omega) λh' eb=>⟨rfl,I.turned (t':=s.toks) (λb o hb e=>eb b o hb e) f0 f1 f3 f4 f5⟩
 self:=λ_ _ _ _ _ st h=>wpAny_pyIter_rangeiter st h
end _L
namespace _L
open PySem PySem.Spec PyProof.Rows
variable {pins:Aa (Af × Cj)}{fp:Aa Af}{s:Ag}{H:Hp}{σ:St}
section
variable {X:Cx}{tg:Bw}
theorem cE {R:It->Hp->Prop}{E:Ac->Ag->Prop}{lo hi:Ak}{t u v:Qf}{tk:Ai}(I:Inv X pins σ H s)(h1 : -(2 ^ 62)<=lo)(h2:lo<2 ^ 62)(h3 : -(2 ^ 62)<=hi)(h4:hi<2 ^ 62)
  (q:R (Itr lo (hi-lo).toNat) H):Ap (As X.prog X.w) X.A (Od (.ref s.heap.objs.size)) (PIE X pins σ tg R) E { s with heap:=s.heap.push { cls:=.type "range",data:=.fields #[.int lo t,.int hi u,.int 1 v] },toks:=tk }:=by
 refine wpAny_pyIter_range (IsRange.new ..) (small_one h1 h2 h3 h4) ?_;have I1:Inv X pins σ H { s with heap:=s.heap.push { cls:=.type "range",data:=.fields #[.int lo t,.int hi u,.int 1 v] },toks:=tk }:=I.kept λb o e=>Ah _ e
 refine⟨(s.heap.push { cls:=.type "range",data:=.fields #[.int lo t,.int hi u,.int 1 v] }).objs.size,[(s.heap.push { cls:=.type "range",data:=.fields #[.int lo t,.int hi u,.int 1 v] }).objs.size],_,_,H,rfl,
  I1.kept (t':=tk) λb o e=>Ah _ e,ZL _ lo (hi-lo).toNat,?_,λb hb=>?_,q⟩
 .have e1:lo+((0:Ai):Ak)*1=lo:=by simp
  have e2:(((hi-lo).toNat:Ai):Ak)-((0:Ai):Ak)=Builtin.Range.rangeSize lo hi 1:=by rw[rangeSize_one];split <;> omega
  show IsRangeIter _ _ (lo+((0:Ai):Ak)*1) ((((hi-lo).toNat:Ai):Ak)-((0:Ai):Ak)) 1;rw[e1,e2];exact AT _ rfl
 .have e:b=(s.heap.push { cls:=.type "range",data:=.fields #[.int lo t,.int hi u,.int 1 v] }).objs.size:=by simpa using hb
  subst e;exact I1.fpOk (Ax _) (I1.hok.fresh (Ax _))
def qAM (wi:TI)(g:TG)(tb:TS):TS:=λD σ H=>wi σ H λJ H1=>∃ W:Ai->Ai->St->Hp->Prop,(∃ m,W 0 m σ H1)/\∀ i m σ H,W i m σ H ->
 (J.stop i H/\D.nx σ H)\/(J.go i H/\∃ N:St->Hp->Prop,(∀ σ' H',N σ' H'->∃ m',m'<m/\W (i+1) m' σ' H')/\∀ x H',J.yld i H x H'->g x σ H' λσ2 H2=>tb { D with nx:=N,ct:=N,bk:=D.nx } σ2 H2)
def v7 (fp:Aa Af)(h:Bs):Aa (Af × Cj):=fp.filterMap λb=>(h.get? b).map λo=>(b,o)
theorem u4 {h:Bs}{b:Af}{o:Cj}(hb:b∈fp)(e:h.get? b=Ab o):(b,o)∈v7 fp h:=Iu.mpr ⟨b,hb,by rw[e];rfl⟩
theorem dZ {h:Bs}{p:Af × Cj}(hp:p∈v7 fp h):p.1∈fp/\h.get? p.1=Ab p.2:=by
 obtain⟨b,hb,e⟩:=Iu.mp hp;cases q:h.get? b with
 |none=>rw[q] at e;cases e
 |some o =>
  rw[q] at e;have e':(b,o)=p:=Cs e;subst e';exact⟨hb,q⟩
theorem Inv.pinned (I:Inv X pins σ H s)(hf:∀ b∈fp,zZ X pins H b)(ho:∀ b∈fp,∃ o,s.heap.get? b=Ab o/\∀ v,o.data≠.cell v):Inv X (pins++v7 fp s.heap) σ H s:=
 I.pins_of λp hp=>(Cn.mp hp).elim (λz=>I.pin p (Bt _ z)) λz=>by
  obtain⟨hb,e⟩:=dZ z;obtain⟨f0,f1,f2,_⟩:=hf p.1 hb;obtain⟨o,e',d⟩:=ho p.1 hb;rw[e] at e';cases e';exact⟨e,f0,f1,f2,d⟩
theorem Inv.unpinned {pl:Aa (Af × Cj)}(I:Inv X (pins++pl) σ H s):Inv X pins σ H s:=I.pins_of λp hp=>I.pin p (Bt _ (Dk _ hp))
inductive ForI (X:Cx)(pins:Aa (Af × Cj))(fp:Aa Af)(tn:Ai->Bs->Prop)(W:Ai->Ai->St->Hp->Prop)(n:Ai)(s':Ag):Prop
 |mk (i:Ai) (σ' : St) (H':Hp) (I:Inv X pins σ' H' s') (t:tn i s'.heap) (f:∀ b∈fp,H' b=none) (w:W i n σ' H'):ForI X pins fp tn W n s'
theorem RC {iter:Bw}{body:Aa Fq}{wi:TI}{g:TG}{tb:TS}{pos:Ey}(hp:Rg (As X.prog X.w) X.A X.env X.xe)(hc:X.calm=true)(hi:PI X tg iter wi)(hg:PG X tg g)(hb:PSs X body tb)
  (hs:∀ x,Ep iter X.env x=pure x:=by intro _;rfl):PS X (.For tg iter body [] pos) (qAM wi g tb):=by
 intro pins s σ H D I h;refine wpAny_For (thn (hi pins s σ H _ I h) λv s1 h1=>thn h1 λitv s2 h2=>?_) hs;obtain⟨it,fp,tn,J,H2,e,I2,T,st2,f2,W,⟨m0,w0⟩,turn⟩:=h2;subst e;have stat:∀ {H':Hp},(∀ b∈fp,H' b=none)->∀ b∈fp,zZ X pins H' b:=λhn b hb=>⟨hn b hb,(f2 b hb).2⟩;refine codeAny_forLoop_any (ForI X pins fp tn W) ?_ m0 ⟨0,σ,H2,I2,st2,λb hb=>(f2 b hb).1,w0⟩;rintro n s3 ⟨i,σ3,H3,I3,st3,fr3,w3⟩;rcases turn i n σ3 H3 w3 with⟨stop,qn⟩|⟨go,N,hN,step⟩
 .refine Jj hp (thn (T.done X rfl rfl rfl hc i pins s3 σ3 H3 X.xe I3 (stat fr3) st3 stop) λr s4 ⟨hr,I4⟩=>?_)
  subst hr;exact Pi ⟨σ3,H3,I4,qn⟩
 .refine Jj hp (thn (T.item X rfl rfl rfl hc i pins s3 σ3 H3 X.xe I3 (stat fr3) st3 go) λr s4 ⟨u,hr,h4⟩=>?_)
  subst hr;refine Jj hp (thn h4 λ_ s5 ⟨x,H5,I5,r5,y5,st5,fr5⟩=>?_);have I5':=I5.pinned (stat fr5) (T.obj _ _ st5);refine Jj hp (thn (hg _ s5 σ3 H5 x u _ I5' r5 (step x H5 y5)) λ_ s6 ⟨σ6,H6,I6,q6⟩=>?_);refine Jj hp (thn (hb _ s6 σ6 H6 _ I6 q6) λf s7 q7=>?_);have again:∀ {σ7:St} {H7:Hp},Inv X (pins++v7 fp s5.heap) σ7 H7 s7->N σ7 H7->∃ m,m<n/\ForI X pins fp tn W m s7:=λ{σ7 H7} I7 n7=>by
   obtain⟨m',hm,w7⟩:=hN σ7 H7 n7;refine⟨m',hm,i+1,σ7,H7,I7.unpinned,T.keep _ _ _ st5 λb hb o e=>(I7.pin (b,o) (Bt _ (Bt _ (u4 hb e)))).1,λb hb=>?_,w7⟩;obtain⟨o,e,d⟩:=T.obj _ _ st5 b hb;exact(I7.pin (b,o) (Bt _ (Bt _ (u4 hb e)))).2.1
  cases f with
  |next=>obtain⟨σ7,H7,I7,n7⟩:=q7;exact again I7 n7
  |cont=>obtain⟨σ7,H7,I7,n7⟩:=q7;exact again I7 n7
  |brk=>obtain⟨σ7,H7,I7,q7⟩:=q7;exact⟨σ7,H7,I7.unpinned,q7⟩
  |ret v=>obtain⟨x7,σ7,H7,I7,r7,q7⟩:=q7;exact⟨x7,σ7,H7,I7.unpinned,r7,q7⟩
end
end _L
namespace _L
open PySem PySem.Spec PyProof.Rows
variable {us:Aa Ac}{f:Ac->Ac->Ke Ac}{g:Ak->Ak->Ak}
abbrev R2:=V->V->Hp->VK->Prop
def OpR (X:Cx)(f:Ac->Ac->Ke Ac)(r:R2):Prop:=
 ∀ (pins:Aa (Af × Cj)) (s:Ag) (σ : St) (H:Hp) (x y:V) (v u:Ac) (Q:VK),Inv X pins σ H s->qJ x v->qJ y u->r x y H Q ->
  Ap (As X.prog X.w) X.A (f v u) (EP X pins σ Q) X.xe s
def UnR (X:Cx)(f:Ac->Ke Ac)(r:V->Hp->VK->Prop):Prop:=
 ∀ (pins:Aa (Af × Cj)) (s:Ag) (σ : St) (H:Hp) (x:V) (v:Ac) (Q:VK),Inv X pins σ H s->qJ x v->r x H Q ->
  Ap (As X.prog X.w) X.A (f v) (EP X pins σ Q) X.xe s
def kM (X:Cx)(f:Ac)(r:Aa V->Hp->VK->Prop):Prop:=
 ∀ (pins:Aa (Af × Cj)) (s:Ag) (σ : St) (H:Hp) (xs:Aa V) (us:Aa Ac) (Q:VK),Inv X pins σ H s->qL xs us->r xs H Q ->
  Ap (As X.prog X.w) X.A (call f us) (EP X pins σ Q) X.xe s
def O7 (X:Cx)(r:V->Hp->(Ar->Hp->Prop)->Prop):Prop:=
 ∀ (pins:Aa (Af × Cj)) (s:Ag) (σ : St) (H:Hp) (x:V) (v:Ac) (Q:Ar->Hp->Prop),Inv X pins σ H s->qJ x v->r x H Q ->
  Ap (As X.prog X.w) X.A (truthy v) (TP X pins σ Q) X.xe s
def tOp (r:R2)(ta tb:TE):TE:=λσ H Q=>ta σ H λx H1=>tb σ H1 λy H2=>r x y H2 Q
def rI (C:Ak->Ak->Prop)(g:Ak->Ak->V):R2:=λx y H Q=>∃ i j,x=.int i/\y=.int j/\C i j/\Q (g i j) H
def rI0 (g:Ak->Ak->V):R2:=λx y H Q=>∃ i j,x=.int i/\y=.int j/\Q (g i j) H
def rU (g:Ak->V):V->Hp->VK->Prop:=λx H Q=>∃ i,x=.int i/\Q (g i) H
section
variable {X:Cx}{a b c:Bw}{ta tb tc:TE}{pos:Ey}
theorem OE (ha:PE X a ta)(hb:PE X b tb){pins:Aa (Af × Cj)}{s:Ag}{σ : St}{H:Hp}{R:V->V->Hp->Prop}(I:Inv X pins σ H s)
  (h:ta σ H λx H1=>tb σ H1 λy H2=>R x y H2) {Q:Ac->Ag->Prop} {f:Ac->Ac->Ke Ac}
  (hf:∀ v u s2 x y H2,Inv X pins σ H2 s2->qJ x v->qJ y u->R x y H2->Ap (As X.prog X.w) X.A (f v u) Q X.xe s2) :
  Ap (As X.prog X.w) X.A (eval a X.env) (λv s₁=>Ap (As X.prog X.w) X.A (eval b X.env) (λu s₂=>Ap (As X.prog X.w) X.A (f v u) Q X.xe s₂) X.xe s₁) X.xe s:=by
 refine thn (ha pins s σ H _ I h) λv s1 ⟨x,H1,I1,r1,q1⟩=>?_;refine thn (hb pins s1 σ H1 _ I1 q1) λu s2 ⟨y,H2,I2,r2,q2⟩=>?_;exact hf v u s2 x y H2 I2 r1 r2 q2
theorem opI {f:Ac->Ac->Ke Ac}{C:Ak->Ak->Prop}
  (rule:∀ (i j:Ak) (t u:Qf) (s:Ag) (Q:Ac->Ag->Prop) (E:Ac->Ag->Prop),C i j->Q (.int (g i j) s.toks) { s with toks:=s.toks+1 } -> Ap (As X.prog X.w) X.A (f (.int i t) (.int j u)) Q E s) :
  OpR X f (rI C λi j=>.int (g i j)):=by
 intro pins s σ H x y v u Q I rx ry h;obtain⟨i,j,rfl,rfl,hc,q⟩:=h;obtain⟨t,rfl⟩:=rx;obtain⟨t',rfl⟩:=ry;exact rule i j t t' s _ _ hc ⟨.int (g i j),H,I.tok _,⟨_,rfl⟩,q⟩
theorem SW {f:Ac->Ac->Ke Ac}
  (rule:∀ (i j:Ak) (t u:Qf) (s:Ag) (Q:Ac->Ag->Prop) (E:Ac->Ag->Prop),Q (.int (g i j) s.toks) { s with toks:=s.toks+1 } -> Ap (As X.prog X.w) X.A (f (.int i t) (.int j u)) Q E s) :
  OpR X f (rI0 λi j=>.int (g i j)):=by
 intro pins s σ H x y v u Q I rx ry h;obtain⟨i,j,rfl,rfl,q⟩:=h;obtain⟨t,rfl⟩:=rx;obtain⟨t',rfl⟩:=ry;exact rule i j t t' s _ _ ⟨.int (g i j),H,I.tok _,⟨_,rfl⟩,q⟩
theorem Z2 {g:Ak->Ak->Ar}
  (rule:∀ (i j:Ak) (t u:Qf) (s:Ag) (Q:Ac->Ag->Prop) (E:Ac->Ag->Prop),Q (.bool (g i j)) s->Ap (As X.prog X.w) X.A (f (.int i t) (.int j u)) Q E s) :
  OpR X f (rI0 λi j=>.bl (g i j)):=by
 intro pins s σ H x y v u Q I rx ry h;obtain⟨i,j,rfl,rfl,q⟩:=h;obtain⟨t,rfl⟩:=rx;obtain⟨t',rfl⟩:=ry;exact rule i j t t' s _ _ ⟨.bl (g i j),H,I,rfl,q⟩
def IY (i j:Ak):Prop:=0<j/\j<1073741824
def IZ (i j:Ak):Prop:=0<=j/\j<=1000000/\i.natAbs<2 ^ 64
def YH (i j:Ak):Prop:=(-(2 ^ 64)<i/\i<2 ^ 64)\/(-(2 ^ 64)<j/\j<2 ^ 64)
theorem YH.ok {i j:Ak}(h:YH i j):IntMulOk i j:=by
 rcases h with⟨h1,h2⟩|⟨h1,h2⟩
 .exact .of_left (intBits_le_64 h1 h2)
 .exact .of_right (intBits_le_64 h1 h2)
theorem SX:OpR X (Ff .Add) (rI0 λi j=>.int (i+j)):=SW λ_ _ _ _ _ _ _ q=>add_int q
theorem R4:OpR X (Ff .Sub) (rI0 λi j=>.int (i-j)):=SW λ_ _ _ _ _ _ _ q=>sub_int q
theorem SZ:OpR X (Ff .Mult) (rI YH λi j=>.int (i*j)):=opI λ_ _ _ _ _ _ _ hc q=>mul_int q hc.ok
theorem F8:OpR X (Ff .FloorDiv) (rI IY λi j=>.int (i/j)):=opI λi j _ _ _ _ _ hc q=>by
 have h1:(0:Ak)<j:=hc.1;have h2:j<1073741824:=hc.2;exact floordiv_int om (by rw[Qu i om];exact q) (.inl (Ti om))
theorem SY:OpR X (Ff .Mod) (rI (λ_ j=>0<j) λi j=>.int (i % j)):=opI λi j _ _ _ _ _ hc q=>by
 have h1:(0:Ak)<j:=hc;exact mod_int' om (by rw[Qv i om];exact q)
theorem R0:OpR X (Ff .Pow) (rI IZ λi j=>.int (i ^ j.toNat)):=opI λ_ _ _ _ _ _ _ hc q=>pow_int_small hc.1 hc.2.1 hc.2.2 q
theorem unI {f:Ac->Ke Ac}{g:Ak->Ak}
  (rule:∀ (i:Ak) (t:Qf) (s:Ag) (Q:Ac->Ag->Prop) (E:Ac->Ag->Prop),Q (.int (g i) s.toks) { s with toks:=s.toks+1 } -> Ap (As X.prog X.w) X.A (f (.int i t)) Q E s) :
  UnR X f (rU λi=>.int (g i)):=by
 intro pins s σ H x v Q I rx h;obtain⟨i,rfl,q⟩:=h;obtain⟨t,rfl⟩:=rx;exact rule i t s _ _ ⟨.int (g i),H,I.tok _,⟨_,rfl⟩,q⟩
theorem EY:UnR X (Yp .USub) (rU λi=>.int (-i)):=unI λ_ _ _ _ _ q=>neg_int q
end
section
variable {X:Cx}{a b c:Bw}{ta tb tc:TE}{pos:Ey}
theorem AA:OpR X (Ct .Lt) (rI0 λi j=>.bl (decide (i<j))):=Z2 λ_ _ _ _ _ _ _ q=>lt_int q
theorem A9:OpR X (Ct .LtE) (rI0 λi j=>.bl (decide (i<=j))):=Z2 λ_ _ _ _ _ _ _ q=>le_int q
theorem A8:OpR X (Ct .Gt) (rI0 λi j=>.bl (decide (j<i))):=Z2 λ_ _ _ _ _ _ _ q=>gt_int q
theorem A7:OpR X (Ct .GtE) (rI0 λi j=>.bl (decide (j<=i))):=Z2 λ_ _ _ _ _ _ _ q=>ge_int q
theorem OpR.or {r r':R2}(h:OpR X f r)(h':OpR X f r'):OpR X f (λx y H Q=>r x y H Q\/r' x y H Q):=by
 intro pins s σ H x y v u Q I rx ry q;rcases q with q|q
 .exact h pins s σ H x y v u Q I rx ry q
 .exact h' pins s σ H x y v u Q I rx ry q
theorem bA (b:Bw){op:Vo}(h:op≠.In:=by decide)(h2:op≠.NotIn:=by decide):Ls op b=false:=by
 have e1:(op == CmpOp.In)=false:=by cases op <;> first|rfl|exact absurd rfl h
 have e2:(op == CmpOp.NotIn)=false:=by cases op <;> first|rfl|exact absurd rfl h2
 cases b <;> simp[Ls,e1,e2]
def oV (K:Aj)(x:V)(H:Hp)(k:Ar):Prop:=
 match x with
 |.non=>k=false
 |.bl b=>k=b
 |.int i=>k=(i != 0)
 |.str y=>y.length<=sizeLine/\k=((y.length:Ak) != 0)
 |.byt y=>y.size<=sizeLine/\k=((y.size:Ak) != 0)
 |.ref p=>(∃ xs,SqL K H p xs/\k=!xs.isEmpty)\/(∃ xs,SqT K H p xs/\k=!xs.isEmpty)\/∃ kvs,H p=Ab (.dK kvs)/\k=!kvs.isEmpty
 |_=>Fh
theorem QN {κ:Type}{kvs:Aa (κ × V)}{vs:Aa (κ × Ac)}(r:KV kvs vs):(!vs.isEmpty)=!kvs.isEmpty:=by
 cases r <;> rfl
theorem tM {xs:Aa V}{its:Aa Ac}(r:qL xs its):(!its.toArray.isEmpty)=!xs.isEmpty:=by
 cases r <;> simp
theorem b7:(sizeLine:Ai)<2 ^ 63:=by rw[Fg];decide
theorem bL:O7 X (λx H Q=>∃ k,oV X.K x H k/\Q k H):=by
 intro pins s σ H x v Q I rx h;obtain⟨k,e,q⟩:=h;have hl:=b7;have hs:sizeLine=16777216:=Fg;cases x with
 |non =>
  cases rx;have e':k=false:=e;subst e';exact truthy_none ⟨H,I,q⟩
 |bl b =>
  cases rx;have e':k=b:=e;subst e';exact Xp ⟨H,I,q⟩
 |int i =>
  obtain⟨t,rfl⟩:=rx;have e':k=(i != 0):=e;subst e';exact PySem.P.truthy_int ⟨H,I,q⟩
 |str y =>
  obtain⟨t,rfl⟩:=rx;obtain⟨hy,e'⟩:y.length<=sizeLine/\k=((y.length:Ak) != 0):=e;subst e';exact PySem.P.truthy_str om ⟨H,I.tok _,q⟩
 |byt y =>
  obtain⟨t,rfl⟩:=rx;obtain⟨hy,e'⟩:y.size<=sizeLine/\k=((y.size:Ak) != 0):=e;subst e';exact PySem.W.truthy_bytes om ⟨H,I.tok _,q⟩
 |ref p =>
  cases rx;have e':(∃ xs,SqL X.K H p xs/\k=!xs.isEmpty)\/(∃ xs,SqT X.K H p xs/\k=!xs.isEmpty)\/∃ kvs,H p=Ab (.dK kvs)/\k=!kvs.isEmpty:=e;rcases e' with⟨xs,hx,e'⟩|⟨xs,hx,e'⟩|⟨kvs,hx,e'⟩
  .subst e'
   obtain⟨its,r,pl,hz⟩:=I.list hx;have hlen:=r.length;exact wpAny_truthy_list pl.isList (by simp only[Bz];omega) ⟨H,I.tok _,by rw[tM r];exact q⟩
  .subst e'
   obtain⟨its,r,pl,hz⟩:=I.tuple hx;have hlen:=r.length;exact truthy_tuple pl (by simp only[Bz];omega) ⟨H,I.tok _,by rw[tM r];exact q⟩
  .subst e'
   obtain⟨hz,hS,vs,r,m⟩:kvs.length<=sizeLine/\(p == Jf)=false/\∃ vs,KV kvs vs/\s.heap.DictOf (zH X.prog X.w) p vs:=I.hok p _ hx;have hlen:kvs.length=vs.length:=Paired.length r;exact wpAny_truthy_dict hS m om ⟨H,I.tok _,by rw[QN r];exact q⟩
 |_=>exact(show Fh from e).elim
theorem Z3:OpR X (Ff .Add) (λx y H Q=>∃ i j,x=.str i/\y=.str j/\i.length+j.length<=sizeLine/\Q (.str (i++j)) H):=by
 intro pins s σ H x y v u Q I rx ry h;obtain⟨i,j,rfl,rfl,hz,q⟩:=h;obtain⟨t,rfl⟩:=rx;obtain⟨t',rfl⟩:=ry;exact add_str (λt' tk=>⟨.str (i++j),H,I.tok _,⟨_,rfl⟩,q⟩) hz
theorem p6 {x:V}(r:qL [x] us):∃ u,us=[u]/\qJ x u:=by
 cases r with
 |cons r1 r2=>cases r2;exact⟨_,rfl,r1⟩
theorem ZN {x y:V}(r:qL [x,y] us):∃ u w',us=[u,w']/\qJ x u/\qJ y w':=by
 cases r with
 |cons r1 r2 =>
  cases r2 with
  |cons r3 r4=>cases r4;exact⟨_,_,rfl,r1,r3⟩
theorem dG:kM X (.type "int") (λxs H Q=>(∃ i,xs=[.int i]/\Q (.int i) H)\/∃ k,xs=[.bl k]/\Q (.int (if k then 1 else 0)) H):=by
 intro pins s σ H xs us Q I r h;rcases h with⟨i,rfl,q⟩|⟨k,rfl,q⟩
 .obtain⟨u,rfl,t,rfl⟩:=p6 r
  exact call_int_int ⟨.int i,H,I,⟨_,rfl⟩,q⟩
 .obtain⟨u,rfl,r1⟩:=p6 r
  cases r1;exact call_int_bool ⟨.int (if k then 1 else 0),H,I.tok _,⟨_,rfl⟩,q⟩
def TH (K:Aj)(x:V)(H:Hp)(n:Ai):Prop:=
 match x with
 |.str y=>y.length<=sizeLine/\n=y.length
 |.byt y=>y.size<=sizeLine/\n=y.size
 |.ref p=>(∃ xs,SqL K H p xs/\n=xs.length)\/∃ xs,SqT K H p xs/\n=xs.length
 |_=>Fh
theorem YO:kM X (.builtin "len") (λxs H Q=>∃ x n,xs=[x]/\TH X.K x H n/\Q (.int n) H):=by
 intro pins s σ H xs us Q I r h;obtain⟨x,n,rfl,e,q⟩:=h;obtain⟨u,rfl,rx⟩:=p6 r;have hl:=b7;have hs:sizeLine=16777216:=Fg;cases x with
 |str y =>
  obtain⟨t,rfl⟩:=rx;obtain⟨hy,e'⟩:y.length<=sizeLine/\n=y.length:=e;subst e';exact len_str om ⟨.int _,H,I.tok _,⟨_,rfl⟩,q⟩
 |byt y =>
  obtain⟨t,rfl⟩:=rx;obtain⟨hy,e'⟩:y.size<=sizeLine/\n=y.size:=e;subst e';exact PySem.W.len_bytes om ⟨.int _,H,I.tok _,⟨_,rfl⟩,q⟩
 |ref p =>
  cases rx;have e':(∃ xs,SqL X.K H p xs/\n=xs.length)\/∃ xs,SqT X.K H p xs/\n=xs.length:=e;rcases e' with⟨xs,hx,e'⟩|⟨xs,hx,e'⟩
  .subst e'
   obtain⟨its,r',pl,hz⟩:=I.list hx;have hlen:=r'.length;exact Calls.call_len_list pl.isList (by simp only[Bz];omega) ⟨.int xs.length,H,I.tok _,⟨_,by simp only[Bz];rw[hlen]⟩,q⟩
  .subst e'
   obtain⟨its,r',pl,hz⟩:=I.tuple hx;have hlen:=r'.length;exact len_tuple pl (by simp only[Bz];omega) ⟨.int xs.length,H,I.tok _,⟨_,by simp only[Bz];rw[hlen]⟩,q⟩
 |_=>exact(show Fh from e).elim
end
end _L
namespace _L
open PySem PySem.Spec PyProof.Rows
variable {mA:Aq->Al Ac}
structure ObjM (h:Bs)(x dx C:Af)(mA:Aq->Al Ac):Prop where
 obj:h.get? x=Ab (Th C dx)
 ns:h.Ns1 dx mA
 ne:dx≠x
set_option tactic.hygienic true in
theorem W1 {h:Bs}{dx:Af}(n:h.Ns1 dx mA):∃ od,h.get? dx=Ab od/\∀ name,Uw name od=Ab (mA name):=by
 obtain⟨o,es,ep,ho,hd,hk,_,hm⟩:=n;refine⟨o,ho,λname=>?_⟩;have e:=hm name;unfold nsFind findBy at e;rw[<- Array.find?_toList] at e;unfold Uw;rw[hd];dsimp only
 split
 .rename_i y q
  rw[q] at e;exact congrArg Ab e
 .rename_i q
  rw[q] at e;have a:es.toList.any (·.refKey)=false:=by
   rw[List.any_eq_false];intro y hy;obtain⟨z,t,hkey⟩:=hk y (Oy.mp hy);simp[DictEntry.refKey,hkey]
  have a':¬ es.toList.any (·.refKey)=true:=by rw[a];exact Go
  rw[Bb a'];exact congrArg Ab e
theorem ObjM.look {h:Bs}{x dx C:Af}(I:ObjM h x dx C mA):∃ od,PySem.W.InstAt h x (Th C dx) C (Ab od)/\∀ name,Uw name od=Ab (mA name):=
 let ⟨od,ho,hl⟩:=W1 I.ns
 ⟨od,⟨I.obj,rfl,rfl,ho⟩,hl⟩
theorem uE.some_of {v:V}{o:Al Ac}(r:uE (Ab v) o):∃ u,o=Ab u/\qJ v u:=by
 cases o with
 |none=>exact(show Fh from r).elim
 |some u=>exact⟨u,rfl,r⟩
section
variable {P:Bc}{w:Bx}{H H':Hp}{h h':Bs}{a C dx:Af}{fs fs':Aa (Aq × V)}
theorem B3 (hok:HOk P w H h)(e:H a=Ab (.ins C dx fs)):∃ mA,ObjM h a dx C mA/\(∀ f,uE (fs.lookup f) (mA f))/\AaC mA (fs.map (·.1))/\fs.length<=1000/\H dx=Ab (.own a):=by
 obtain⟨d,z,ne,ob,mA,n,r,q⟩:=(show zG P w H h a (.ins C dx fs) from hok a _ e)
 exact⟨mA,⟨ob,n,ne⟩,r,q,z,d⟩
end
structure Cls (K:Aj)(C:Af):Prop where
 pg:Yq K C Aa2=true
 hd:PySem.W.hasDictIn K C=true
 po:PySem.W.plainOver K C=true
 sa:Nh K (.ref C) "__setattr__" = Ab (Ab (.builtin "object.__setattr__"))
theorem Cls.get {K:Aj}{C:Af}(c:Cls K C)(f:Aq):Yq K C f=true:=c.pg
section
variable {X:Cx}{pins:Aa (Af × Cj)}{σ : St}{H:Hp}{s:Ag}{A:Bk}{E:Ac->Ag->Prop}{Q:Ac->Ag->Prop}{c:Ac}{b:Ar}
inductive TyOf (K:Aj)(H:Hp):V->Ac->Prop where
 |non:TyOf K H .non (.type "NoneType")
 |bl (x:Ar):TyOf K H (.bl x) (.type "bool")
 |int (i:Ak):TyOf K H (.int i) (.type "int")
 |str (x:Aq):TyOf K H (.str x) (.type "str")
 |flt (x:UInt64):TyOf K H (.flt x) (.type "float")
 |lst {a:Af} {xs:Aa V} (e:H a=Ab (.lst xs)):TyOf K H (.ref a) (.type "list")
 |frz {a:Af} {o:Cj} {xs:Aa V} (e:H a=Ab (.frz o (.lst xs))):TyOf K H (.ref a) (.type "list")
 |tup {a:Af} {xs:Aa V} (e:H a=Ab (.tup xs)):TyOf K H (.ref a) (.type "tuple")
 |dK {a:Af} {kvs:Aa (Key × V)} (e:H a=Ab (.dK kvs)):TyOf K H (.ref a) (.type "dict")
 |dT {a:Af} {kvs:Aa (Aa Key × V)} (e:H a=Ab (.dT kvs)):TyOf K H (.ref a) (.type "dict")
 |ins {a C dx:Af} {fs:Aa (Aq × V)} (e:H a=Ab (.ins C dx fs)) (cl:Cls K C) (ha:Nh K (.ref C) "__class__" = Ab (Ab (.builtin "object.__class__")))
   (hn:Xq K (.builtin "object.__class__") "__get__" = Ab (Ab (.builtin "getset_descriptor.__get__"))) (htk:Zk K (.builtin "object.__class__")=Ab true)
   (hm:Vp K C (.type "object")=Ab true):TyOf K H (.ref a) (.ref C)
theorem XO {x:V}{u t:Ac}(I:Inv X pins σ H s)(rx:qJ x u)(ty:TyOf X.K H x t)(e:Lc X.K t c=Ab b)(h:∀ tk,Q (.bool b) { s with toks:=tk }) :
  Ap (As X.prog X.w) A (call (.builtin "isinstance") [u,c]) Q E s:=by
 cases ty with
 |non=>cases (show u=Cz from rx);exact Ez PySem.W.kitx_none I.kIn Jg e (λz=>nomatch z) h
 |bl y=>cases (show u=Ic y from rx);exact Ez PySem.W.kitx_bool I.kIn Jg e (λz=>nomatch z) h
 |int i=>obtain⟨t,q⟩:=(show ∃ t,u=Pg i t from rx);cases q;exact Ez PySem.W.kitx_int I.kIn Jg e (λz=>nomatch z) h
 |str y=>obtain⟨t,q⟩:=(show ∃ t,u=Xl y t from rx);cases q;exact Ez PySem.W.kitx_str I.kIn Jg e (λz=>nomatch z) h
 |flt y=>obtain⟨t,q⟩:=(show ∃ t,u=Value.float y t from rx);cases q;exact Ez PySem.W.kitx_float I.kIn Jg e (λz=>nomatch z) h
 |@lst a xs ea =>
  cases (show u=Cw a from rx)
  obtain⟨_,_,n,_,h1⟩:=(show zG X.prog X.w H s.heap a (.lst xs) from I.hok a _ ea)
  exact Ez Rh I.kIn ⟨_,h1,rfl⟩ e (λz=>nomatch z) h
 |@frz a ob xs ea =>
  cases (show u=Cw a from rx)
  obtain⟨_,_,_,n,_,h1⟩:=(show zG X.prog X.w H s.heap a (.frz ob (.lst xs)) from I.hok a _ ea)
  exact Ez Rh I.kIn ⟨_,h1,rfl⟩ e (λz=>nomatch z) h
 |@tup a xs ea =>
  cases (show u=Cw a from rx)
  obtain⟨_,_,_,p⟩:=(show zG X.prog X.w H s.heap a (.tup xs) from I.hok a _ ea)
  obtain⟨o,h1,h2,_⟩:=p;exact Ez Wk I.kIn ⟨o,h1,h2⟩ e (λz=>nomatch z) h
 |@dK a kvs ea =>
  cases (show u=Cw a from rx)
  obtain⟨_,_,vs,_,p⟩:=(show zG X.prog X.w H s.heap a (.dK kvs) from I.hok a _ ea)
  obtain⟨o,es,ep,h1,h2,_⟩:=p;exact Ez Xr I.kIn ⟨o,h1,h2.1⟩ e (λz=>nomatch z) h
 |@dT a kvs ea =>
  cases (show u=Cw a from rx)
  obtain⟨_,_,xs,_,o,es,ep,h1,h2,_⟩:=(show zG X.prog X.w H s.heap a (.dT kvs) from I.hok a _ ea)
  exact Ez Xr I.kIn ⟨o,h1,h2.1⟩ e (λz=>nomatch z) h
 |@ins a C dx fs ea cl ha hn htk hm =>
  cases (show u=Cw a from rx)
  obtain⟨mA,O,_⟩:=B3 I.hok ea;obtain⟨od,J,_⟩:=O.look;exact Ez (PySem.W.kitx_own (cl.get _) cl.hd ha hn htk hm) I.kIn J e (λz=>nomatch z) h
end
end _L
namespace _L
open PySem PySem.Spec PyProof.Rows
variable {ps:Aa Aq}{K:Aj}{mg:Aq->Al Ac}{kindOf:Aq->Al Hn}{A:Bk}{scope:Ei}
structure Room (k:Ai)(A:Bk):Prop where
 hd:A.handled=none
 dp:A.depth+3*k+5<Qh
 un:A.units+16*k+200<Ee
 gd:A.guards=Ab []
theorem Room.deeper {k:Ai}(r:Room (k+1) A)(env:Ie):Room k (A.deeper env):=
 ⟨r.hd,by have:=r.dp;show A.depth+1+3*k+5<_;omega,by have:=r.un;show A.units+3+16*k+200<_;omega,r.gd⟩
theorem Room.depth {k:Ai}(r:Room k A):A.depth<Qh:=by have:=r.dp;omega
theorem Room.units {k:Ai}(r:Room k A):A.units+64<Ee:=by have:=r.un;omega
def qAO:TA:=λ_ H Q=>Q [] H
section
variable {X:Cx}{e:Bw}{es:Aa Bw}{te:TE}{t:TA}{pos:Ey}
theorem R5:PA X [] qAO:=λ_ _ _ _ H Q I h=>Ri ⟨[],H,I,.nil,h⟩
def qAR (t:TA):TE:=λσ H Q=>t σ H λxs H1=>xs.length<=sizeLine/\∀ p,H1 p=none->Q (.ref p) (upd H1 p (.tup xs))
def qAN (t:TA):TE:=λσ H Q=>t σ H λxs H1=>xs.length<=sizeLine/\∀ p,H1 p=none->Q (.ref p) (upd H1 p (.lst xs))
theorem R9  (h:PA X es t):PE X (.Tuple es x1 pos) (qAR t):=by
 intro pins s σ H Q I hq;refine wpAny_Tuple_spliced (thn (h pos pins s σ H _ I hq) λus s1 ⟨xs,H1,I1,r,z,q⟩=>⟨by rw[<- r.length];exact z,?_⟩)
 have hf:H1 s1.heap.objs.size=none:=I1.hok.fresh (Ax _);refine⟨.ref s1.heap.objs.size,upd H1 s1.heap.objs.size (.tup xs),I1.laid (t':=s1.toks) (λb u e=>Ah _ e) (Ax _) ?_,rfl,q _ hf⟩;exact⟨z,us,r,⟨_,AT _ rfl,rfl,_,rfl⟩⟩
theorem WO (h:PA X es t):PE X (.List es pos) (qAN t):=by
 intro pins s σ H Q I hq;refine wpAny_List_spliced (thn (h pos pins s σ H _ I hq) λus s1 ⟨xs,H1,I1,r,z,q⟩=>⟨by rw[<- r.length];exact z,?_⟩)
 have hf:H1 s1.heap.objs.size=none:=I1.hok.fresh (Ax _);refine⟨.ref s1.heap.objs.size,upd H1 s1.heap.objs.size (.lst xs),I1.laid (t':=s1.toks) (λb u e=>Ah _ e) (Ax _) ?_,rfl,q _ hf⟩;exact⟨z,us,0,r,AT _ rfl⟩
end
abbrev Sp:=Aa V->Hp->VK->XK->Prop
abbrev CXT:=Aa Ie->Hp->Ag->XK->Ac->Ag->Prop
structure Env0 (P:Bc)(w:Bx)(K:Aj)(mg:Aq->Al Ac)(base:Bs)(A:Bk)(outer:Aa Ie)(s:Ag)(H:Hp):Prop where
 frames:A.frames=Ab outer
 mod:Mod K mg base
 bs:∀ b o,base.get? b=Ab o->s.heap.get? b=Ab o/\H b=none
 bsz:base.objs.size<=s.heap.objs.size
 funs:s.heap.FunFrames base outer
 frf:∀ b∈frs outer,H b=none
 hok:HOk P w H s.heap
 bare:Oc s.gens
def CE (outer:Aa Ie)(P:Bc)(w:Bx)(H:Hp)(s:Ag)(Q:VK)(u:Ac)(s':Ag):Prop:=
 ∃ v H',s'.os=s.os/\Oc s'.gens/\Un (frs outer) [] H H' s.heap s'.heap/\HOk P w H' s'.heap/\qJ v u/\Q v H'
def CR (CX:CXT)(outer:Aa Ie)(P:Bc)(w:Bx)(H:Hp)(s:Ag)(Q:VK)(E:XK)(r:xL)(s':Ag):Prop:=
 match r with
 |.ok (.ret u)=>CE outer P w H s Q u s'
 |.ok _=>Fh
 |.error e=>CX outer H s E e s'
structure FnOk (P:Bc)(w:Bx)(K:Aj)(mg:Aq->Al Ac)(base:Bs)(CX:CXT)(k:Ai)(f:Af)(fd:Fi)(ps:Aa Aq)(sp:Sp):Prop where
 len:∀ vs H Q E,sp vs H Q E->vs.length=ps.length
 run:∀ (A:Bk) (outer:Aa Ie) (s:Ag) (H:Hp) (args:Args) (us:Aa Ac) (vs:Aa V) (Q:VK) (E:XK),Room k A->Env0 P w K mg base A outer s H->Oe s fd args (ps.zip us)->qL vs us->sp vs H Q E ->
  Ih (As P w) A (.call (.ref f) args) (CR CX outer P w H s Q E) s
section
variable {X:Cx}{pins:Aa (Af × Cj)}{σ : St}{H:Hp}{s s':Ag}
theorem Inv.env0 (I:Inv X pins σ H s):Env0 X.prog X.w X.K X.mg X.base X.A X.stack s H:=
 ⟨I.ok.frames,I.ok.mod,I.bs,Dm I.ok.bsz I.sz,I.stack,I.stkFree,I.hok,I.bare⟩
theorem Inv.after {Q:VK}{u:Ac}(I:Inv X pins σ H s)(h:CE X.stack X.prog X.w H s Q u s'):EP X pins σ Q u s':=by
 obtain⟨v,H',os,bare,un,hok,r,q⟩:=h;obtain⟨hh,g,d,t,os'⟩:=s';obtain rfl:os'=s.os:=os;exact⟨v,H',I.call (h':=hh) (g':=g) (d':=d) (t':=t) (ch:=[]) un hok bare (λb z=>absurd z (by simp)),r,q⟩
end
def vH (K:Aj)(fd:Fi)(ps:Aa Aq)(ds:Aa Ac):Prop:=
 ∀ (s:Ag) (us:Aa Ac),K.In s.heap->(us++ds).length=ps.length->Oe s fd ⟨us,[]⟩ (ps.zip (us++ds))
theorem vH.all {fd:Fi}(h:∀ us:Aa Ac,us.length=ps.length->Tj fd ⟨us,[]⟩=pure (ps.zip us)):vH K fd ps []:=λs us _ hl=>by
 rw[Fw] at hl ⊢;exact .of_eq (h us hl)
structure FnScope (N P:Aa Aq)(sc:Ei):Prop where
 kind:sc.kind=.function
 co:sc.isCoroutine=false
 gen:sc.isGenerator=false
 nd:N.Nodup
 pre:N.take P.length=P
 par:∀ x∈P,sc.names.lookup x=Ab .local \/ sc.names.lookup x=Ab .cell
 nofree:∀ y∈sc.names,y.2≠.free
theorem dD {x:Aq}:∀ {binds:Aa (Aq × Ac)} {m:Aq->Al Ac},(∀ v,(x,v) ∉ binds)->Vq kindOf binds m x=m x
 |[],_,_=>rfl
 |(n,v)::r,m,h=>by
  unfold Vq;rw[dD λw hw=>h w (Bl _ hw)]
  split
  .have:x≠n:=by rintro rfl;exact h v Cu
   simp[this]
  .rfl
theorem dA {x:Aq}:∀ {binds:Aa (Aq × Ac)} {m:Aq->Al Ac},(∀ v,(x,v) ∉ binds)->Vr kindOf binds m x=m x
 |[],_,_=>rfl
 |(n,v)::r,m,h=>by
  unfold Vr;rw[dA λw hw=>h w (Bl _ hw)]
  split
  .rfl
  .have:x≠n:=by rintro rfl;exact h v Cu
   simp[this]
theorem dB {x:Aq}{v:Ac}:∀ {P:Aa Aq} {vs:Aa Ac} {i:Ai} {m:Aq->Al Ac},P.Nodup->P[i]? = Ab x->vs[i]? = Ab v->kindOf x=Ab .local ->
  Vq kindOf (P.zip vs) m x=Ab v
 |[],_,_,_,_,h,_,_=>by simp at h
 |_::_,[],_,_,_,_,h,_=>by simp at h
 |p::P,w::vs,0,m,nd,h1,h2,hk=>by
  simp at h1 h2;subst h1;subst h2;show Vq kindOf ((p,w)::P.zip vs) m p=_;unfold Vq;rw[dD λv hv=>(Lz.mp nd).1 (Ma hv).1,Bf hk];simp
 |p::P,w::vs,i+1,m,nd,h1,h2,hk=>by
  show Vq kindOf ((p,w)::P.zip vs) m x=_;unfold Vq;exact dB (i:=i) (Lz.mp nd).2 (by simpa using h1) (by simpa using h2) hk
theorem d9 {x:Aq}{v:Ac}:∀ {P:Aa Aq} {vs:Aa Ac} {i:Ai} {m:Aq->Al Ac},P.Nodup->P[i]? = Ab x->vs[i]? = Ab v->kindOf x≠Ab .local ->
  Vr kindOf (P.zip vs) m x=Ab v
 |[],_,_,_,_,h,_,_=>by simp at h
 |_::_,[],_,_,_,_,h,_=>by simp at h
 |p::P,w::vs,0,m,nd,h1,h2,hk=>by
  simp at h1 h2;subst h1;subst h2;show Vr kindOf ((p,w)::P.zip vs) m p=_;unfold Vr;rw[dA λv hv=>(Lz.mp nd).1 (Ma hv).1,Bb hk];simp
 |p::P,w::vs,i+1,m,nd,h1,h2,hk=>by
  show Vr kindOf ((p,w)::P.zip vs) m x=_;unfold Vr;exact d9 (i:=i) (Lz.mp nd).2 (by simpa using h1) (by simpa using h2) hk
def xQ (N:Aa Aq)(vs:Aa V):St:=vs.map Ab++sK (N.length-vs.length) none
def nO (CX:CXT)(P:Bc)(w:Bx)(K:Aj)(mg:Aq->Al Ac)(base:Bs)(N:Aa Aq)(qual:Aq)(scope:Ei)(f:Af)(cd:Ac)(A:Bk)(outer:Aa Ie)(s:Ag)(H:Hp)(E:XK):Cx where
 prog:=P
 w:=w
 K:=K
 mg:=mg
 base:=base
 A:=A.deeper (Gb qual scope s.heap.objs.size f cd)
 N:=N
 s₀:=s
 H₀:=H
 env:=Gb qual scope s.heap.objs.size f cd
 outer:=outer
 stack:=Gb qual scope s.heap.objs.size f cd::outer
 ex:=[]
 calm:=true
 fn:=λ_=>true
 pn:=[]
 xe:=λe s'=>Ap (As P w) (A.deeper (Gb qual scope s.heap.objs.size f cd)) (leaving (Gb qual scope s.heap.objs.size f cd) e) (λ_ s''=>CX outer H s E e s'') (λe' s''=>CX outer H s E e' s'') s'
theorem rM {sc:Ei}{n:Ai}{x:Aq}(h:sc.names.lookup x=Ab .cell):∃ c,(Hj n sc.names []).lookup x=Ab c:=by
 have q:=Kh sc.names n [] (.inl h);exact Jt.mp q
theorem dQ {CX:CXT}{P:Bc}{w:Bx}{base:Bs}{N:Aa Aq}{qual:Aq}{f:Af}{cd:Ac}{outer:Aa Ie}{s s1:Ag}{H:Hp}{E:XK}{us:Aa Ac}{vs:Aa V}
  (S:FnScope N ps scope) (hd:A.handled=none) (e0:Env0 P w K mg base A outer s H) (hl:vs.length=ps.length) (r:qL vs us)
  (x:InCallC s s.heap.objs.size (Vq (Gb qual scope s.heap.objs.size f cd).kindOf (ps.zip us) λ_=>none) (Hj (s.heap.objs.size+1) scope.names []) (Vr (Gb qual scope s.heap.objs.size f cd).kindOf (ps.zip us) λ_=>none) s1) :
  Inv (nO CX P w K mg base N qual scope f cd A outer s H E) [] (xQ N vs) H s1:=by
 have hpl:ps.length<=N.length:=by have:=congrArg Iy S.pre;rw[Fn] at this;omega
 obtain⟨h1,tk,rfl,hk⟩:=x.done;have noA:∀ b:Af,b ∉ (nO CX P w K mg base N qual scope f cd A outer s H E).ex:=λb z=>absurd (show b∈([]:Aa Af) from z) (by simp)
 refine⟨⟨e0.mod,S.kind,rfl,rfl,Ax _,λy z c h1 h2=>?_,λy hy=>?_,λy c _ h=>?_,λ_=>hd,Pa e0.frames,.inr ⟨rfl,rfl⟩,λb z=>absurd z (noA b),e0.bs,e0.bsz,λb _ _=>noA b,λb z=>absurd z (noA b),e0.funs,e0.frf⟩,
  rfl,e0.bare,Un.kept hk,⟨_,x.toInCall.ns,λi y v h1 h2 h3=>?_⟩,λy c h=>⟨_,x.cell y c h⟩,e0.hok.fresh (Ax _),λy c h=>?_,λp hp=>absurd (show p∈([]:Aa (Af × Cj)) from hp) (by simp),e0.hok.kept hk,?_⟩
 .exact name_of_addr x.apart (Fa h1) (Fa h2)
 .have hy:scope.names.lookup y=Ab .cell\/scope.names.lookup y=Ab .free:=hy
  rcases hy with hy|hy
  .exact rM hy
  .exact absurd rfl (S.nofree _ (Fa hy))
 .exact Et (x.above y c (Fa h))
 .have hi:i<vs.length:=by
   unfold xQ at h2;by_cases hi:i<vs.length
   .exact hi
   .rw[Cp (by simpa using hi)] at h2
    rw[Sv] at h2
    split at h2 <;> cases h2
  have ha:vs[i]? = Ab v:=by
   unfold xQ at h2;rw[Be (by simpa using hi),Cg] at h2
   cases e:vs[i]? with
   |none=>rw[e] at h2;cases h2
   |some a=>rw[e] at h2;cases h2;rfl
  obtain⟨u,hu,rv⟩:=r.get ha;have hp:ps[i]? = Ab y:=by
   rw[<- S.pre,Mk om];exact h1
  have ndP:ps.Nodup:=by rw[<- S.pre];exact S.nd.sublist (Nm _ _)
  refine⟨u,rv,?_⟩;rcases S.par y (Bu hp) with k|k
  .exact .inl ⟨k,dB ndP hp hu k⟩
  .obtain⟨c,e⟩:=rM (n:=s.heap.objs.size+1) k
   refine .inr ⟨.inl k,c,e,?_⟩;have q:=x.cell y c e;rw[d9 ndP hp hu (by show scope.names.lookup y≠_;rw[k];decide)] at q
   exact q
 .exact e0.hok.fresh (Et (x.above y c (Fa h)))
 .unfold xQ
  show _=N.length;rw[De,Au,List.length_replicate];omega
theorem C3 {CX:CXT}{P:Bc}{w:Bx}{base:Bs}{k:Ai}{f:Af}{name qual:Aq}{params:Pj}{body:Aa Fq}{dV kV doc pm cdv ct oc:Ac}{an od:Al Af}
  {osl:Aw (Al Ac)} {N ps:Aa Aq} {sp:Sp} (lk:K.lookup f=Ab ⟨oc,od,.func (Gi name qual params body scope dV kV doc pm an cdv ct),osl⟩) (hcd:Ld K cdv qual=true) (S:FnScope N ps scope)
  (len:∀ vs H Q E,sp vs H Q E->vs.length=ps.length)
  (hbody:∀ (A:Bk) (outer:Aa Ie) (s:Ag) (H:Hp) (vs:Aa V) (Q:VK) (E:XK),Room k (A.deeper (Gb qual scope s.heap.objs.size f cdv))->sp vs H Q E ->
   ∃ t,PSs (nO CX P w K mg base N qual scope f cdv A outer s H E) body t/\t { nx:=λ_ H'=>Q .non H',rt:=Q } (xQ N vs) H) :
  FnOk P w K mg base CX (k+1) f (Gi name qual params body scope dV kV doc pm an cdv ct) ps sp:=by
 refine⟨len,λA outer s H args us vs Q E hr e0 hb r hsp=>?_⟩;have hl:=len _ _ _ _ hsp;have KX:K.In s.heap:=e0.mod.kin.keeps λb o e=>(e0.bs b o e).1;have lim:s.heap.NoLimit:=e0.mod.nolimit.keeps λb o e=>(e0.bs b o e).1;have hkind:∀ y∈ps.zip us,scope.names.lookup y.1=Ab .local \/ (scope.names.lookup y.1=Ab .cell/\((Hj (s.heap.objs.size+1) scope.names []).lookup y.1).isSome=true):=λ⟨n,v⟩ hy=>by
  rcases S.par n (Ma hy).1 with q|q
  .exact .inl q
  .exact .inr ⟨q,Kh _ _ _ (.inl q)⟩
 refine Ud hr.depth (KX _ _ lk) rfl S.co S.gen rfl (Wl KX hcd) (hb _ _ _ _ ?_);refine Qw S.kind hkind λenv he s1 x=>?_;subst he;refine⟨lim.keeps x.toInCall.keep,codeAny_func ?_⟩;obtain⟨t,ht,hq⟩:=hbody A outer s H vs Q E (hr.deeper _) hsp;have I:Inv (nO CX P w K mg base N qual scope f cdv A outer s H E) [] (xQ N vs) H s1:=dQ S hr.hd e0 hl r x;refine Gq (ht [] s1 (xQ N vs) H _ I hq) (λfl s' hs=>?_) λe s' hs=>hs;have fin:∀ {σ' : St} {H':Hp} {v:V} {u:Ac},Inv (nO CX P w K mg base N qual scope f cdv A outer s H E) [] σ' H' s'->qJ v u->Q v H'->CE outer P w H s Q u s':=
  λ{σ' H' v u} J rv q=>⟨v,H',J.os,J.bare,J.base,J.hok,rv,q⟩
 cases fl with
 |ret u =>
  obtain⟨v,σ',H',J,rv,q⟩:=hs;exact fin J rv q
 |next =>
  obtain⟨σ',H',J,q⟩:=hs;exact fin (v:=V.non) (u:=Cz) J rfl q
 |brk =>
  obtain⟨_,_,_,q⟩:=hs;exact Ao q
 |cont =>
  obtain⟨_,_,_,q⟩:=hs;exact Ao q
end _L
namespace _H
open PySem PyProof.Rows
variable {Q:Ac->Ag->Prop}{lo hi:Al Ak}{items:Aw Ac}
def lexLt:Aa Ak->Aa Ak->Ar
 |[],[]=>false
 |[],_::_=>true
 |_::_,[]=>false
 |x::xs,y::ys=>if x=y then lexLt xs ys else decide (x<y)
theorem lexLt_cons (x y:Ak)(xs ys:Aa Ak):lexLt (x::xs) (y::ys)=if x=y then lexLt xs ys else decide (x<y):=rfl
theorem lexLt_nil_nil:lexLt [] []=false:=rfl
theorem lexLt_nil_cons (y:Ak)(ys:Aa Ak):lexLt [] (y::ys)=true:=rfl
theorem lexLt_cons_nil (x:Ak)(xs:Aa Ak):lexLt (x::xs) [] = false:=rfl
theorem eqAt_int (A:Bk)(s:Ag)(a:Ak)(t:Qf)(c:Ak)(u:Qf):∃ e,SeqAt.EqAt A s (.int a t) (.int c u) e/\(e=true↔a=c):=
 ⟨(a == c),SeqAt.EqAt.int_int a t c u,by simp⟩
theorem JC (A:Bk)(s:Ag)(a:Ak)(t:Qf)(c:Ak)(u:Qf)(prog:Bc)(w:Bx)(E:Ac->Ag->Prop)(Q:Ac->Ag->Prop)(h:Q (.bool (decide (a<c))) s) :
  Ap (As prog w) A (Yr .Lt (.int a t) (.int c u)) Q E s:=
 (Pv h:Ap (As prog w) A (Ct .Lt (.int a t) (.int c u)) Q E s)
section
open PySem.SeqAt
open PySem.AutoSeq1 (wpAny_loadPart')
open PySem.MeetsSeq PySem.MeetsSeq2 PySem.MeetsSeq3
theorem sN (l b:Af)(items items2:Aw Ac)(n n2:Ai)(dd dd2:Al Af)(sl sl2:Aw (Al Ac))(ns ms:Aa Ak)(hi:Gw items.toList ns)(hj:Gw items2.toList ms) :
  Meets (Ik.«tuple.__lt__» ⟨[.ref l,.ref b],[]⟩)
   (λ_ R s=>s.heap.get? l=Ab { cls:=.type "tuple",dict:=dd,data:=.seq items n,slots:=sl } /\ s.heap.get? b=Ab { cls:=.type "tuple",dict:=dd2,data:=.seq items2 n2,slots:=sl2 } /\
    R (.ok (.ret (.bool (lexLt ns ms)))) s):=
 .of_wp λprog w A R s h=>by
  obtain⟨hp,g,d,tk,os⟩:=s;obtain⟨hl,hb,h⟩:=h;have f2:=Ml;have z1:items.size=ns.length:=by rw[<- hi.length];simp
  have z2:items2.size=ms.length:=by rw[<- hj.length];simp
  wp_walk using wpAny_loadPart' hl,wpAny_loadPart' hb,Hk _ (λrest b s'=>b.1=none/\s'=⟨hp,g,d,tk,os⟩/\∃ (vs ws:Aa Ac) (ns' ms':Aa Ak),rest=vs.zip ws /\
   Gw vs ns'/\Gw ws ms'/\ns'.length+items2.size=ms'.length+items.size/\R (.ok (.ret (.bool (lexLt ns' ms')))) ⟨hp,g,d,tk,os⟩) _
  case turn =>
   rintro⟨y,x⟩ rest b s' ⟨hb',rfl,vs,ws,ns',ms',hz,hvi,hwi,hlen,hR⟩;cases hvi with
   |nil=>rw[Xs] at hz;cases hz
   |cons a t hvi' =>
    cases hwi with
    |nil=>rw[Wm] at hz;cases hz
    |cons c u hwi' =>
     rw[Gp] at hz;injection hz with hyx hrest
     injection hyx with hy hx
     subst hy hx;rw[lexLt_cons] at hR;simp only[By] at hlen;obtain⟨e,he,hiff⟩:=eqAt_int A.in1 ⟨hp,g,d,tk,os⟩ a t c u;refine Ad (he prog w _ _ ?_);cases e with
     |true =>
      rw[Bf (hiff.mp rfl)] at hR
      wp_walk
      exact⟨rfl,rfl,_,_,_,_,hrest,hvi',hwi',by omega,hR⟩
     |false =>
      rw[Bb (λq=>absurd (hiff.mpr q) Go)] at hR;have hri:=JC A.in1 ⟨hp,g,d,tk,os⟩ a t c u prog w
      wp_walk using hri
      exact⟨_,rfl,by simpa using hR⟩
  case fin =>
   rintro⟨b1,b2⟩ s' ⟨hb',rfl,vs,ws,ns',ms',hz,hvi,hwi,hlen,hR⟩;simp only at hb';subst hb';have hv:lexLt ns' ms'=decide (items.size<items2.size):=by
    cases hvi with
    |nil =>
     cases hwi with
     |nil =>
      simp only[Ec] at hlen;rw[lexLt_nil_nil];exact(Cb om).symm
     |cons c u hw =>
      simp only[Ec,By] at hlen;rw[lexLt_nil_cons];exact(Cd om).symm
    |cons a t hv =>
     cases hwi with
     |nil =>
      simp only[Ec,By] at hlen;rw[lexLt_cons_nil];exact(Cb om).symm
     |cons c u hw =>
      rw[Gp] at hz;cases hz
   rw[hv] at hR
   wp_walk
   exact⟨_,rfl,by simpa [Jw] using hR⟩
  case h =>
   exact⟨rfl,rfl,items.toList,items2.toList,ns,ms,rfl,hi,hj,by omega,h⟩
end
section
variable {prog:Bc}{w:Bx}{A:Bk}{E:Ac->Ag->Prop}{s:Ag}
theorem lt_tupInts {l b:Af}{items2:Aw Ac}{ns ms:Aa Ak}(hl:Qg s.heap l items)(hb:Qg s.heap b items2)(hi:Gw items.toList ns)(hj:Gw items2.toList ms)
  (hu:A.units<Ee) (h:Q (.bool (lexLt ns ms)) s):Ap (As prog w) A (Ct .Lt (.ref l) (.ref b)) Q E s:=by
 obtain⟨⟨cls,dd,data,sl⟩,ho,hc,n,hd⟩:=id hl;obtain⟨⟨cls2,dd2,data2,sl2⟩,ho2,hc2,n2,hd2⟩:=id hb;simp only at hc hd hc2 hd2;subst hc hd hc2 hd2;exact Nu (op:=.Lt) ⟨_,ho,rfl⟩ ⟨_,ho2,rfl⟩ Ue Tk (Sw _ _) (sN l b items items2 n n2 dd dd2 sl sl2 ns ms hi hj)
  ⟨ho,ho2,show Ic (lexLt ns ms)≠Pb/\Q (.bool (lexLt ns ms)) s from⟨(λx=>nomatch x),h⟩⟩ hu
theorem cat_tup {t b:Af}{vs ws:Aa Ac}(ht:Qg s.heap t vs.toArray)(hb:Qg s.heap b ws.toArray)(hv:vs≠[])
  (h1:ws=[]->Q (.ref t) s) (h2:ws≠[]->Q (.ref s.heap.objs.size) { s with heap:=s.heap.push { cls:=.type "tuple",data:=.seq (vs++ws).toArray } })
  (hsz:vs.length+ws.length<=sizeLine):Ap (As prog w) A (Ff .Add (.ref t) (.ref b)) Q E s:=by
 obtain⟨⟨cls,dd,data,sl⟩,ho,hc,n,hd⟩:=id ht;obtain⟨⟨cls2,dd2,data2,sl2⟩,ho2,hc2,n2,hd2⟩:=id hb;simp only at hc hd hc2 hd2;subst hc hd hc2 hd2;have e:vs.toArray++ws.toArray=(vs++ws).toArray:=by simp
 by_cases hw:ws=[]
 .exact Xa ⟨_,ho,rfl⟩ ⟨_,ho2,rfl⟩ Sm Vs Nv Mx (Mm _ _)
   (tuple_addW1 t b vs.toArray ws.toArray n n2 dd dd2 sl sl2 (by simpa using hv) (by simp[hw])) ⟨ho,ho2,h1 hw⟩
 .refine Xa ⟨_,ho,rfl⟩ ⟨_,ho2,rfl⟩ Sm Vs Nv Mx (Mm _ _)
   (tuple_addW2 t b vs.toArray ws.toArray n n2 dd dd2 sl sl2 (by simpa using hv) (by simpa using hw) (by rw[Bz,Bz];exact hsz)) ⟨ho,ho2,?_⟩
  rw[e];exact h2 hw
def sIx (n d:Ai):Al Ak->Ai
 |none=>d
 |some v=>if v<0 then (v+(n:Ak)).toNat else min v.toNat n
theorem sIx_none (n d:Ai):sIx n d none=d:=rfl
theorem sIx_nat (n d k:Ai):sIx n d (Ab (k:Ak))=min k n:=by
 show (if (k:Ak)<0 then ((k:Ak)+(n:Ak)).toNat else min (k:Ak).toNat n)=min k n
 rw[Bb om,Hv]
theorem EG (n d:Ai)(hd:d<=n)(o:Al Ak):sIx n d o<=n:=by
 cases o with
 |none=>exact hd
 |some v =>
  show (if v<0 then (v+(n:Ak)).toNat else min v.toNat n)<=n
  by_cases hv:v<0
  .rw[Bf hv];omega
  .rw[Bb hv];exact Nat.min_le_right _ _
theorem aM (v:Ak)(n d:Ai):(if v<0 then max (v+(n:Ak)) 0 else min v (n:Ak))=((sIx n d (Ab v):Ai):Ak):=by
 show (if v<0 then max (v+(n:Ak)) 0 else min v (n:Ak))=(((if v<0 then (v+(n:Ak)).toNat else min v.toNat n):Ai):Ak)
 by_cases hv:v<0
 .simp only[Bf hv];omega
 .simp only[Bb hv];omega
theorem oX (lo hi:Al Ak)(n:Ai):Lu lo hi 1 (n:Ak)=(((sIx n 0 lo:Ai):Ak),((sIx n n hi:Ai):Ak)):=by
 have h1:¬ ((1:Ak)<0):=by omega
 unfold Lu;simp only[h1,Dw];refine Wg ?_ ?_
 .cases lo with
  |none=>rfl
  |some v=>exact aM v n 0
 .cases hi with
  |none=>rfl
  |some v=>exact aM v n n
theorem Z5 (i j:Ai):Jm (i:Ak) (j:Ak) 1=j-i:=by
 unfold Jm;have h1:(1:Ak)>0:=by omega
 simp only[h1,Dp,Int.ediv_one]
 split <;> omega
theorem nE {v:Ac}{o:Al Ak}{Q:Al Ak->Ag->Prop}(p:Qx v o)(h:Q o s):Ap (As prog w) A (Zw v) Q E s:=by
 cases p with
 |none=>exact slicePart_none h
 |int i t=>exact slicePart_int h
theorem uX {sl:Af}{vl vu:Ac}{n:Ai}{Q:Ak × Ak × Ai->Ag->Prop}(hs:s.heap.IsSliceOf sl vl vu .none)(pl:Qx vl lo)(pu:Qx vu hi)
  (h:Q (((sIx n 0 lo:Ai):Ak),1,sIx n n hi-sIx n 0 lo) s):Ap (As prog w) A (Qy (.ref sl) (pure (n:Ak))) Q E s:=by
 obtain⟨os,hos,hcs,hds⟩:=id hs;unfold Qy Builtin.Slice.sliceFields;refine Ad (Ad (Ej hos hds (x:=vl) rfl (Ad (Ej hos hds (x:=vu) rfl (Ad (Ej hos hds (x:=.none) rfl (An ?_)))))));refine Ad (slicePart_none ?_);show Ap _ _ (if ((1:Ak) == 0)=true then _ else _) _ _ s
 rw[Bb (by decide)]
 refine Ad (nE pl (Ad (nE pu (Ad (An ?_)))));show Ap _ _ (match Lu lo hi 1 (n:Ak) with|(lo,hi)=>pure (lo,(1:Ak),Jm lo hi 1)) _ _ s
 rw[oX lo hi n];show Ap _ _ (pure (((sIx n 0 lo:Ai):Ak),(1:Ak),Jm ((sIx n 0 lo:Ai):Ak) ((sIx n n hi:Ai):Ak) 1)) _ _ s;rw[Z5];exact An h
theorem UP (xs:Aw Ac)(i k:Ai):((Dd k).filterMap λ(m:Ai)=>xs[((i:Ak)+(m:Ak)*1).toNat]?).toArray=((xs.toList.drop i).take k).toArray:=by
 have e:(λ(m:Ai)=>xs[((i:Ak)+(m:Ak)*1).toNat]?)=λm=>xs[i+m]?:=by
  funext m
  have:((i:Ak)+(m:Ak)*1).toNat=i+m:=by omega
  rw[this]
 rw[e];have:=pick_run xs i k;rw[List.filterMap_map] at this;have e2:((λx=>xs[x]?)∘λx=>i+x)=λm=>xs[i+m]?:=rfl;rw[e2] at this;rw[this]
theorem getItem_tuple_cut {t sl:Af}{vl vu:Ac}(ht:Qg s.heap t items)(hs:s.heap.IsSliceOf sl vl vu .none)(pl:Qx vl lo)(pu:Qx vu hi)
  (hw:¬ (sIx items.size 0 lo=0/\sIx items.size items.size hi=items.size))
  (h:Q (.ref s.heap.objs.size) { s with heap:=s.heap.push { cls:=.type "tuple",data:=.seq ((items.toList.drop (sIx items.size 0 lo)).take (sIx items.size items.size hi-sIx items.size 0 lo)).toArray } })
  (hsz:items.size<=sizeLine):Ap (As prog w) A (My (.ref t) (.ref sl)) Q E s:=by
 have htake:sizeOk (.seq ((items.toList.drop (sIx items.size 0 lo)).take (sIx items.size items.size hi-sIx items.size 0 lo)).toArray):=by
  show ((items.toList.drop (sIx items.size 0 lo)).take (sIx items.size items.size hi-sIx items.size 0 lo)).toArray.size<=sizeLine;rw[Bz,Fn,Lj,Bp];omega
 have hj:sIx items.size items.size hi<=items.size:=EG _ _ (Ax _) hi;obtain⟨os,hos,hcs,hds⟩:=id hs;have hTs:s.TypeIs (.ref sl) "slice":=⟨os,hos,hcs⟩;unfold My
 try with_reducible refine Fj ?_
 first|refine Ad (An ?_)|skip
 refine Ad (Xt ht.typeIs (by decide) ?_)
 refine Ad (Ef (name:=Hy "__getitem__") ht.typeIs Fb
  (Ea Fb ht.typeIs Vt ?_ (Wn _ _)))
 show Ap _ _ (Ll (.ref t) >>= _) _ _ s;refine Ad (tupleItemsOf_ ht ?_);refine Ad (Mz hTs ?_);rw[Bf (by decide)]
 refine Ad (uX hs pl pu ?_);have hno:¬ ((((sIx items.size 0 lo:Ai):Ak) == 0&&(1:Ak) == 1&&(sIx items.size items.size hi-sIx items.size 0 lo) == items.size)=true):=by
  intro q;rw[Av,Av] at q;have q1:((sIx items.size 0 lo:Ai):Ak)=0:=eq_of_beq q.1.1;have q2:sIx items.size items.size hi-sIx items.size 0 lo=items.size:=eq_of_beq q.2;exact hw ⟨by omega,by omega⟩
 show Ap _ _ (if (((sIx items.size 0 lo:Ai):Ak) == 0&&(1:Ak) == 1&&(sIx items.size items.size hi-sIx items.size 0 lo) == items.size)=true then _ else _) _ _ s
 rw[Bb hno,UP]
 first
  |exact Ad (m:=Ju _) (Ek (An ⟨_,rfl,An h⟩) htake)
  |exact Ad (m:=Ju _) (Ek (Ad (An (An ⟨_,rfl,An h⟩))) htake)
  |exact Ad (Ad (m:=Ju _) (Ek (An (An ⟨_,rfl,An h⟩)) htake))
  |exact Ad (Ad (m:=Ju _) (Ek (An ⟨_,rfl,An h⟩) htake))
end
end _H
namespace _L
open PySem PySem.Spec PyProof.Rows
abbrev TO:=St->Hp->(Al Ak->Hp->Prop)->Prop
def PO (X:Cx)(e:Al Bw)(t:TO):Prop:=
 ∀ (pins:Aa (Af × Cj)) (s:Ag) (σ : St) (H:Hp) (Q:Al Ak->Hp->Prop),Inv X pins σ H s->t σ H Q ->
  Ap (As X.prog X.w) X.A (evalPart e X.env) (λu s'=>∃ o H',Inv X pins σ H' s'/\Qx u o/\Q o H') X.xe s
def MK:TO:=λ_ H Q=>Q none H
def I9 (t:TE):TO:=λσ H Q=>t σ H λx H1=>∃ i,x=.int i/\Q (Ab i) H1
theorem gD {ns:Aa Ak}:∀ {us:Aa Ac},qL (ns.map V.int) us->Gw us ns:=by
 induction ns with
 |nil=>intro us r;rw[Xb] at r;cases r;exact .nil
 |cons n ns ih =>
  intro us r;rw[Dc] at r;cases r with
  |cons r1 r2 =>
   obtain⟨t,e⟩:=r1;subst e;exact .cons n t (ih r2)
section
variable {X:Cx}{e:Bw}{te:TE}{lo hi:Al Bw}{tl th:TO}{pos p2:Ey}
theorem FG:PO X none MK:=by
 intro pins s σ H Q I h;rw[evalPart_none];exact An ⟨none,H,I,.none,h⟩
theorem FH (h:PE X e te):PO X (Ab e) (I9 te):=by
 intro pins s σ H Q I hw;rw[evalPart_some];refine thn (h pins s σ H _ I hw) λu s1 ⟨x,H1,I1,r1,q1⟩=>?_;obtain⟨i,rfl,q⟩:=q1;obtain⟨t,rfl⟩:=r1;exact⟨Ab i,H1,I1,.int i t,q⟩
def SlR (X:Cx)(r:V->Al Ak->Al Ak->Hp->VK->Prop):Prop:=
 ∀ (pins:Aa (Af × Cj)) (s:Ag) (σ : St) (H:Hp) (x:V) (v vl vu:Ac) (lo hi:Al Ak) (sl:Af) (Q:VK),Inv X pins σ H s->qJ x v->s.heap.IsSliceOf sl vl vu .none->Qx vl lo->Qx vu hi->r x lo hi H Q ->
  ∃ T id,Zx (.type T) "__getitem__" = pure (Ab (.builtin id))/\s.TypeIs v T/\Ap (As X.prog X.w) X.A (My v (.ref sl)) (EP X pins σ Q) X.xe s
theorem SlR.or {r r':V->Al Ak->Al Ak->Hp->VK->Prop}(h:SlR X r)(h':SlR X r'):SlR X (λx lo hi H Q=>r x lo hi H Q\/r' x lo hi H Q):=by
 intro pins s σ H x v vl vu lo hi sl Q I rx hs pl pu q;rcases q with q|q
 .exact h pins s σ H x v vl vu lo hi sl Q I rx hs pl pu q
 .exact h' pins s σ H x v vl vu lo hi sl Q I rx hs pl pu q
def tSl (r:V->Al Ak->Al Ak->Hp->VK->Prop)(te:TE)(tl th:TO):TE:=λσ H Q=>te σ H λx H1=>tl σ H1 λl H2=>th σ H2 λu H3=>r x l u H3 Q
theorem UN {r:V->Al Ak->Al Ak->Hp->VK->Prop}(hr:SlR X r)(he:PE X e te)(hl:PO X lo tl)(hu:PO X hi th):PE X (.Subscript e (.Slice lo hi none p2) pos) (tSl r te tl th):=by
 intro pins s σ H Q I h;refine Zy (thn (he pins s σ H _ I h) λv s1 ⟨x,H1,I1,r1,q1⟩=>?_);refine wpAny_Slice (thn (hl pins s1 σ H1 _ I1 q1) λvl s2 ⟨l,H2,I2,pl,q2⟩=>thn (hu pins s2 σ H2 _ I2 q2) λvu s3 ⟨u,H3,I3,pu,q3⟩=>?_);rw[evalPart_none];refine An ?_;have I4:Inv X pins σ H3 { s3 with heap:=s3.heap.push { cls:=.type "slice",data:=.fields #[vl,vu,.none] } }:=I3.kept (t':=s3.toks) λb ob q=>Ah _ q
 obtain⟨T,id,hT,ht,hg⟩:=hr pins { s3 with heap:=s3.heap.push { cls:=.type "slice",data:=.fields #[vl,vu,.none] } } σ H3 x v vl vu l u s3.heap.objs.size Q I4 r1 (AaH ..) pl pu q3
 show Ap (As X.prog X.w) X.A (Rj e (.Slice lo hi none p2) v (.ref s3.heap.objs.size)) (EP X pins σ Q) X.xe { s3 with heap:=s3.heap.push { cls:=.type "slice",data:=.fields #[vl,vu,.none] } }
 exact tail_any (ops:=[.ref s3.heap.objs.size,v]) ht hT hg (by with_unfolding_all rfl)
def pS (xs:Aa V)(lo hi:Al Ak):Aa V:=(xs.drop (_H.sIx xs.length 0 lo)).take (_H.sIx xs.length xs.length hi-_H.sIx xs.length 0 lo)
theorem fN (xs:Aa V)(lo hi:Al Ak):(pS xs lo hi).length<=xs.length:=by
 unfold pS;rw[Fn,Lj];omega
def qAK (K:Aj):V->Al Ak->Al Ak->Hp->VK->Prop:=λx lo hi H Q=>∃ a xs,x=.ref a/\SqT K H a xs /\
 ¬ (_H.sIx xs.length 0 lo=0/\_H.sIx xs.length xs.length hi=xs.length)/\∀ p,H p=none->Q (.ref p) (upd H p (.tup (pS xs lo hi)))
theorem EI:SlR X (qAK X.K):=by
 intro pins s σ H x v vl vu lo hi sl Q I rx hs pl pu h;obtain⟨a,xs,rfl,hx,hw,q⟩:=h;cases rx;obtain⟨its,r,ht,hz⟩:=I.tuple hx;have hlen:its.toArray.size=xs.length:=by rw[Bz];exact r.length.symm
 refine⟨"tuple",_,Fb.lookup,ht.typeIs,?_⟩;refine _H.getItem_tuple_cut ht hs pl pu (by rw[hlen];exact hw) ?_ (by rw[hlen];exact hz)
 rw[hlen];refine⟨.ref s.heap.objs.size,_,I.laid (t':=s.toks) (o:=.tup (pS xs lo hi)) (λb ob q=>Ah _ q) (Ax _) ?_,rfl,q _ (I.hok.fresh (Ax _))⟩;exact⟨Dm (fN xs lo hi) hz,_,(r.drop (_H.sIx xs.length 0 lo)).take (_H.sIx xs.length xs.length hi-_H.sIx xs.length 0 lo),Xo _ _⟩
end
end _L
namespace _L
open PySem PySem.Spec PyProof.Rows
variable {pins:Aa (Af × Cj)}{s:Ag}{H:Hp}{σ:St}
def ixN (n:Ai)(i:Ak):Al Ai:=if 0<=i then (if i<n then Ab i.toNat else none) else if -(n:Ak)<=i then Ab (i+n).toNat else none
def atI {α:Type}(xs:Aa α)(i:Ak):Al α:=(ixN xs.length i).bind λj=>xs[j]?
theorem iG {n:Ai}{i:Ak}{j:Ai}(h:ixN n i=Ab j):seqIndex? i n=Ab j/\j<n /\ -(n:Ak)<=i/\i<n:=by
 unfold ixN at h;by_cases h0:0<=i
 .rw[Bf h0] at h
  by_cases h1:i<n
  .rw[Bf h1] at h
   have e:i.toNat=j:=Cs h;exact⟨by rw[Ys h0 h1,e],by omega,by omega,h1⟩
  .rw[Bb h1] at h;cases h
 .rw[Bb h0] at h
  by_cases h1 : -(n:Ak)<=i
  .rw[Bf h1] at h
   have e:(i+n).toNat=j:=Cs h;exact⟨by rw[seqIndex_neg om h1,e],by omega,h1,by omega⟩
  .rw[Bb h1] at h;cases h
theorem aG {α:Type}{xs:Aa α}{i:Ak}{v:α}(h:atI xs i=Ab v):∃ j,seqIndex? i xs.length=Ab j/\xs[j]? = Ab v/\j<xs.length /\ -(xs.length:Ak)<=i/\i<xs.length:=by
 unfold atI at h;cases e:ixN xs.length i with
 |none=>rw[e] at h;cases h
 |some j =>
  rw[e] at h;obtain⟨h1,h2,h3,h4⟩:=iG e;exact⟨j,h1,h,h2,h3,h4⟩
def nK (b:Bw):Prop:=∀ o i,subscripted b false o i=operate [o,i] (My o i)
def IxR (X:Cx)(r:R2):Prop:=
 ∀ (value slice:Bw) (pins:Aa (Af × Cj)) (s:Ag) (σ : St) (H:Hp) (x y:V) (v u:Ac) (Q:VK),Inv X pins σ H s->qJ x v->qJ y u->r x y H Q ->
  subscripted slice false v u=operate [v,u] (My v u)->Ap (As X.prog X.w) X.A (Rj value slice v u) (EP X pins σ Q) X.xe s
def MtR (X:Cx)(id:Em)(r:V->Aa V->Hp->VK->Prop):Prop:=
 ∀ (pins:Aa (Af × Cj)) (s:Ag) (σ : St) (H:Hp) (x:V) (xs:Aa V) (v:Ac) (us:Aa Ac) (Q:VK),Inv X pins σ H s->qJ x v->qL xs us->r x xs H Q ->
  Ap (As X.prog X.w) X.A (call (.builtin id) (v::us)) (EP X pins σ Q) X.xe s
section
variable {X:Cx}{a b:Bw}{ta tb:TE}{pos:Ey}
theorem IxR.or {r r':R2}(h:IxR X r)(h':IxR X r'):IxR X (λx y H Q=>r x y H Q\/r' x y H Q):=by
 intro value slice pins s σ H x y v u Q I rx ry q hs;rcases q with q|q
 .exact h value slice pins s σ H x y v u Q I rx ry q hs
 .exact h' value slice pins s σ H x y v u Q I rx ry q hs
theorem MtR.or {id:Em}{r r':V->Aa V->Hp->VK->Prop}(h:MtR X id r)(h':MtR X id r'):MtR X id (λx xs H Q=>r x xs H Q\/r' x xs H Q):=by
 intro pins s σ H x xs v us Q I rx rs q;rcases q with q|q
 .exact h pins s σ H x xs v us Q I rx rs q
 .exact h' pins s σ H x xs v us Q I rx rs q
theorem AC {r:R2}(hr:IxR X r)(ha:PE X a ta)(hb:PE X b tb)(hs:nK b):PE X (.Subscript a b pos) (tOp r ta tb):=by
 intro pins s σ H Q I h;exact Zy (OE ha hb I h λv u s2 x y H2 I2 rx ry q=>hr a b pins s2 σ H2 x y v u Q I2 rx ry q (hs _ _))
def qAG (K:Aj):R2:=λx y H Q=>∃ p xs i v,x=.ref p/\y=.int i/\SqL K H p xs/\atI xs i=Ab v/\Q v H
def qAH (K:Aj):R2:=λx y H Q=>∃ p xs i v,x=.ref p/\y=.int i/\SqT K H p xs/\atI xs i=Ab v/\Q v H
theorem iH:IxR X (qAG X.K):=by
 intro value slice pins s σ H x y v u Q I rx ry h hs;obtain⟨p,xs,i,z,rfl,rfl,hq,he,q⟩:=h;cases rx;obtain⟨t,rfl⟩:=ry;obtain⟨its,r,pl,hz⟩:=I.list hq;obtain⟨j,h1,h2,h3,h4,h5⟩:=aG he;obtain⟨w,ew,rw'⟩:=r.get h2;have hl:=r.length;have hn:=b7;have fin:EP X pins σ Q w s:=⟨z,H,I,rw',q⟩;by_cases h0:0<=i
 .have hj:i.toNat=j:=by
   rw[Ys h0 h5] at h1;exact Cs h1
  exact item_listR pl.isList h0 om (by rw[hj];simpa using ew) fin hs
 .have hj:(i+(its.toArray.size:Ak)).toNat=j:=by
   rw[seqIndex_neg om h4] at h1;rw[Bz,<- hl];exact Cs h1
  exact Tl (x:=w) pl.isList.typeIs Xu.lookup
   (wpAny_getItem_list_neg (Q:=λr s'=>r=w/\EP X pins σ Q r s') pl.isList om (by rw[Bz] <;> omega) om (by rw[hj];simpa using ew) ⟨rfl,fin⟩) hs
theorem LY:IxR X (qAH X.K):=by
 intro value slice pins s σ H x y v u Q I rx ry h hs;obtain⟨p,xs,i,z,rfl,rfl,hq,he,q⟩:=h;cases rx;obtain⟨t,rfl⟩:=ry;obtain⟨its,r,pl,hz⟩:=I.tuple hq;obtain⟨j,h1,h2,h3,h4,h5⟩:=aG he;obtain⟨w,ew,rw'⟩:=r.get h2;have hl:=r.length;have hn:=b7;have fin:EP X pins σ Q w s:=⟨z,H,I,rw',q⟩;exact Tl (x:=w) pl.typeIs slot_tuple_getitem.lookup
  (getItem_tuple (j:=j) (Q:=λr s'=>r=w/\EP X pins σ Q r s') pl om om (by rw[Bz,<- hl];exact h1) (by simpa using ew) ⟨rfl,fin⟩) hs
theorem QX (its:Aa Ac)(n j:Ai)(u:Ac):Es (·.setIfInBounds j u) { cls:=.type "list",data:=.seq its.toArray n } = { cls:=.type "list",data:=.seq (its.set j u).toArray n }:=by
 simp[Es]
theorem Inv.lst {p:Af}{xs:Aa V}(I:Inv X pins σ H s)(h:H p=Ab (.lst xs)) :
  ∃ (its:Aa Ac) (n:Ai),qL xs its/\s.heap.get? p=Ab { cls:=.type "list",data:=.seq its.toArray n } /\ xs.length<=sizeLine:=by
 obtain⟨z,its,n,r,e⟩:=I.hok p _ h;exact⟨its,n,r,e,z⟩
theorem Inv.lstUpd {p:Af}{xs ys:Aa V}{its its':Aa Ac}{n n':Ai}{f:Cj->Cj}(I:Inv X pins σ H s)(h:H p=Ab (.lst xs))
  (ho:s.heap.get? p=Ab { cls:=.type "list",data:=.seq its.toArray n }) (hf:f { cls:=.type "list",data:=.seq its.toArray n } = { cls:=.type "list",data:=.seq its'.toArray n' }) (r:qL ys its') (hz:ys.length<=sizeLine) (t:Ai) :
  Inv X pins σ (upd H p (.lst ys)) { s with heap:=s.heap.update p f,toks:=t }:=by
 have e:(s.heap.update p f).get? p=Ab { cls:=.type "list",data:=.seq its'.toArray n' }:=by
  rw[Fo f ho (by rw[hf] <;> rfl),hf]
 refine I.write (x:=p) (e:=p) (by rw[h];trivial) (.inl rfl) (λb u hb q=>(Di _ _ (Fy hb)).trans q) ⟨_,e⟩ ?_
 exact⟨hz,its',n',r,e⟩
def AO:V->V->V->Hp->(Hp->Prop)->Prop:=λo i v H Q=>∃ p xs k j,o=.ref p/\i=.int k/\H p=Ab (.lst xs)/\ixN xs.length k=Ab j/\Q (upd H p (.lst (xs.set j v)))
theorem JH:rE X AO:=by
 intro pins s σ H o i v ov iv u Q I ro ri rv h;obtain⟨p,xs,k,j,rfl,rfl,hp,hj,q⟩:=h;cases ro;obtain⟨t,rfl⟩:=ri;obtain⟨its,n,r,ho,hz⟩:=I.lst hp;obtain⟨h1,h2,h3,h4⟩:=iG hj;have hl:=r.length;have hn:=b7;have I':Inv X pins σ (upd H p (.lst (xs.set j v))) { s with heap:=s.heap.update p (Es (·.setIfInBounds j u)) }:=
  I.lstUpd hp ho (QX its n j u) (r.set rv j) (by rw[Zl];exact hz) s.toks
 by_cases h0:0<=k
 .have hk:k.toNat=j:=by
   rw[Ys h0 h4] at h1;exact Cs h1
  exact PySem.W.ki_setAt ho h0 om (by rw[Bz,<- hl];exact h4) (by rw[hk];exact⟨_,I',q⟩)
 .have hk:(k+(its.toArray.size:Ak)).toNat=j:=by
   rw[seqIndex_neg om h3] at h1;rw[Bz,<- hl];exact Cs h1
  exact PySem.W.ki_setBack ho om (by rw[Bz,<- hl];exact h3) om (by rw[hk];exact⟨_,I',q⟩)
theorem cK (lo hi:Al Ak)(n:Ai):(Mb lo hi none n).1=((_H.sIx n 0 lo:Ai):Ak)/\(Mb lo hi none n).2.1=((_H.sIx n n hi:Ai):Ak)/\(Mb lo hi none n).2.2=1:=by
 refine⟨?_,?_,rfl⟩
 .cases lo with
  |none=>simp[Mb,_H.sIx]
  |some i =>
   simp only[Mb,_H.sIx,Yt,show (1:Ak)>0 by decide,Dp]
   by_cases h:i<0
   .simp only[h,Dp] <;> omega
   .simp only[h,Dw] <;> omega
 .cases hi with
  |none=>simp[Mb,_H.sIx]
  |some i =>
   simp only[Mb,_H.sIx,Yt,show (1:Ak)>0 by decide,Dp]
   by_cases h:i<0
   .simp only[h,Dp] <;> omega
   .simp only[h,Dw] <;> omega
theorem sL (its:Aa Ac)(lo hi:Al Ak):slicePick its.toArray lo hi none=((its.drop (_H.sIx its.length 0 lo)).take (_H.sIx its.length its.length hi-_H.sIx its.length 0 lo)).toArray:=by
 obtain⟨h1,h2,h3⟩:=cK lo hi its.toArray.size;unfold slicePick;rw[h1,h2,h3];simp only[sliceRange_one,pick_run,Bz] <;> rfl
def qAJ (K:Aj):V->Al Ak->Al Ak->Hp->VK->Prop:=λx lo hi H Q=>∃ a xs,x=.ref a/\SqL K H a xs/\∀ p,H p=none->Q (.ref p) (upd H p (.lst (pS xs lo hi)))
theorem oG:SlR X (qAJ X.K):=by
 intro pins s σ H x v vl vu lo hi sl Q I rx hs pl pu h;obtain⟨a,xs,rfl,hx,q⟩:=h;cases rx;obtain⟨its,r,ht,hz⟩:=I.list hx;have hlen:=r.length;refine⟨"list",_,Xu.lookup,ht.isList.typeIs,?_⟩;refine wpAny_getItem_list_slice ht.isList hs pl pu .none (by simp) ?_ (by rw[Bz] <;> omega)
 rw[sL,<- hlen];refine⟨.ref s.heap.objs.size,_,I.laid (t':=s.toks) (o:=.lst (pS xs lo hi)) (λb ob q=>Ah _ q) (Ax _) ?_,rfl,q _ (I.hok.fresh (Ax _))⟩;exact⟨Dm (fN xs lo hi) hz,_,0,(r.drop (_H.sIx xs.length 0 lo)).take (_H.sIx xs.length xs.length hi-_H.sIx xs.length 0 lo),AT _ rfl⟩
theorem kM.or {f:Ac}{r r':Aa V->Hp->VK->Prop}(h:kM X f r)(h':kM X f r'):kM X f (λxs H Q=>r xs H Q\/r' xs H Q):=by
 intro pins s σ H xs us Q I rs q;rcases q with q|q
 .exact h pins s σ H xs us Q I rs q
 .exact h' pins s σ H xs us Q I rs q
theorem pI:kM X (.type "tuple") (λxs H Q=>∃ p ys,xs=[.ref p]/\((SqL X.K H p ys/\∀ l,H l=none->Q (.ref l) (upd H l (.tup ys)))\/(SqT X.K H p ys/\Q (.ref p) H))):=by
 intro pins s σ H xs us Q I r h;obtain⟨p,ys,rfl,h⟩:=h;obtain⟨u,rfl,rx⟩:=p6 r;cases rx;rcases h with⟨hq,q⟩|⟨hq,q⟩
 .obtain⟨its,r',pl,hz⟩:=I.list hq
  have hlen:=r'.length;refine call_tuple_list pl.isList (λh' kp=>?_) (by simp only[Bz] <;> omega)
  have I1:Inv X pins σ H { s with heap:=h' }:=I.kept (t':=s.toks) kp
  have I2:Inv X pins σ (upd H h'.objs.size (.tup ys)) { s with heap:=h'.push { cls:=.type "tuple",data:=.seq its.toArray } }:=
   I1.laid (t':=s.toks) (λb o e=>Ah _ e) (Ax _) (show zG X.prog X.w _ _ _ (.tup ys) from⟨hz,its,r',Xo _ _⟩)
  exact⟨.ref h'.objs.size,_,I2,rfl,q _ (I1.hok.fresh (Ax _))⟩
 .obtain⟨its,r',pl,hz⟩:=I.tuple hq
  exact call_tuple_same pl ⟨.ref p,H,I,rfl,q⟩
def tyV (K:Aj)(T:Em)(x:V)(H:Hp):Prop:=match x with
 |.str _=>T = "str"
 |.int _=>T = "int"
 |.ref p=>(T = "list" /\ ∃ xs,SqL K H p xs)\/(T = "tuple" /\ ∃ o,K.lookup p=Ab o/\o.cls=.type "tuple" /\ o.dict=none) \/
   (T = "dict" /\ ((∃ kvs,H p=Ab (.dK kvs))\/∃ kvs,H p=Ab (.dT kvs)))\/(T = "set" /\ ∃ S n,H p=Ab (.set S n))
 |_=>Fh
theorem Y8 {T:Em}{x:V}{v:Ac}(I:Inv X pins σ H s)(r:qJ x v)(ty:tyV X.K T x H) :
  s.TypeIs v T/\∀ a,v=.ref a->∃ ob,s.heap.get? a=Ab ob/\ob.dict=none:=by
 cases x with
 |str z =>
  obtain⟨t,rfl⟩:=r;cases (show T = "str" from ty)
  exact⟨typeIs_str s z t,λ_ e=>nomatch e⟩
 |int i =>
  obtain⟨t,rfl⟩:=r;cases (show T = "int" from ty)
  exact⟨typeIs_int s i t,λ_ e=>nomatch e⟩
 |ref p =>
  cases r;rcases ty with⟨rfl,xs,hq⟩|⟨rfl,o,hk,hc,hd⟩|⟨rfl,hk⟩|⟨rfl,S,n,hk⟩
  .obtain⟨its,_,pl,_⟩:=I.list hq
   refine⟨pl.isList.typeIs,λa e=>?_⟩;cases e;obtain⟨o,n,e,c,hd,_⟩:=pl;exact⟨o,e,hd⟩
  .refine⟨⟨o,I.kIn p o hk,hc⟩,λa e=>?_⟩
   cases e;exact⟨o,I.kIn _ o hk,hd⟩
  .have z:∃ o,s.heap.get? p=Ab o/\o.ExactDict:=by
    rcases hk with⟨kvs,hk⟩|⟨kvs,hk⟩
    .obtain⟨_,_,_,_,o,_,_,e,ex,_⟩:=I.hok p _ hk
     exact⟨o,e,ex⟩
    .obtain⟨_,_,_,_,o,_,_,e,ex,_⟩:=I.hok p _ hk
     exact⟨o,e,ex⟩
   obtain⟨o,e,ex⟩:=z;refine⟨⟨o,e,ex.1⟩,λa e2=>?_⟩;cases e2;exact⟨o,e,ex.2.1⟩
  .obtain⟨o,_,_,_,e,ex,_⟩:=I.hok p _ hk
   refine⟨⟨o,e,ex.1⟩,λa e2=>?_⟩;cases e2;exact⟨o,e,ex.2.1⟩
 |_=>exact Ao ty
variable {o e:Bw}{es:Aa Bw}{to:TE}{t:TA}{name:Aq}{apos cpos:Ey}{T id:Em}{r:V->Aa V->Hp->VK->Prop}
/- xs.append(e),list.index on a module's tuple .. are MtR facts of 06m -/
end
end _L
namespace _L
open PySem PySem.Spec PyProof.Rows
def MtM (X:Cx)(id:Em)(r:V->Aa V->Hp->VK->Prop):Prop:=
 ∀ (pins:Aa (Af × Cj)) (s:Ag) (σ : St) (H:Hp) (x:V) (xs:Aa V) (v:Ac) (us:Aa Ac) (Q:VK),Inv X pins σ H s->qJ x v->qL xs us->r x xs H Q ->
  Ap (As X.prog X.w) X.A (call (.builtin id) (v::us)) (EP X pins σ Q) X.xe s
theorem qL.one {x:V}{us:Aa Ac}(h:qL [x] us):∃ u,us=[u]/\qJ x u:=p6 h
theorem qL.two {x y:V}{us:Aa Ac}(h:qL [x,y] us):∃ u v,us=[u,v]/\qJ x u/\qJ y v:=ZN h
section
variable {X:Cx}{pins:Aa (Af × Cj)}{σ : St}{H:Hp}{s:Ag}{l b:Af}{xs ys zs:Aa V}
theorem Inv.lset {its its':Aa Ac}{n:Ai}{f:Aw Ac->Aw Ac}{t':Ai}(I:Inv X pins σ H s)(hH:H l=Ab (.lst xs))
  (e:s.heap.get? l=Ab { cls:=.type "list",data:=.seq its.toArray n }) (hf:f its.toArray=its'.toArray) (hv:qL ys its') (hz:ys.length<=sizeLine) :
  Inv X pins σ (upd H l (.lst ys)) { s with heap:=s.heap.update l (Es f),toks:=t' }:=by
 have q:=Yu e f;rw[hf] at q;refine I.write (x:=l) (e:=l) (by rw[hH];exact trivial) (.inl rfl) (λb' u hb hu=>(Di s.heap (Es f) (Fy hb)).trans hu) ⟨_,q⟩ ?_
 exact⟨hz,its',_,hv,q⟩
theorem Inv.lstM (I:Inv X pins σ H s)(hH:H l=Ab (.lst xs)):xs.length<=sizeLine/\∃ (its:Aa Ac) (n:Ai),qL xs its/\xs.length=its.length/\s.heap.get? l=Ab { cls:=.type "list",data:=.seq its.toArray n }:=by
 obtain⟨z,its,n,r,e⟩:=I.hok l _ hH;exact⟨z,its,n,r,r.length,e⟩
end
section
variable {X:Cx}
def FZ:V->Aa V->Hp->VK->Prop:=λx vs H Q=>∃ l xs y,x=.ref l/\vs=[y]/\H l=Ab (.lst xs)/\xs.length<sizeLine/\Q .non (upd H l (.lst (xs++[y])))
theorem WA:MtM X "list.append" FZ:=by
 intro pins s σ H x vs v us Q I rx rv h;obtain⟨l,xs,y,rfl,rfl,hH,hz,q⟩:=h;cases rx;obtain⟨u,rfl,ru⟩:=rv.one;obtain⟨z,its,n,r,hl,e⟩:=I.lstM hH;refine call_meets Wp ⟨_,e,rfl⟩ Vu (Vf _ _) (Xv l its.toArray n u (by rw[Bz];omega)) ⟨e,?_⟩
 refine⟨.non,_,I.lset (its':=its++[u]) hH e (by simp) (r.append (.cons ru .nil)) ?_,rfl,q⟩
 rw[De,Kt];omega
end
end _L
namespace _L
open PySem PySem.Spec PyProof.Rows
variable {xs:Aa (Aa Key × Af × Ac)}{Q:Ac->Ag->Prop}{H':Hp}
section
variable {κ : Type}[Ob κ]
def yR (kvs:Aa (κ × V))(k:κ):Al V:=(kvs.find? λkv=>decide (kv.1=k)).map (·.2)
def yP (kvs:Aa (κ × V))(k:κ)(v:V):Aa (κ × V):=
 if (kvs.any λkv=>decide (kv.1=k))=true then kvs.map (λkv=>if kv.1=k then (kv.1,v) else kv) else kvs++[(k,v)]
theorem mU {p:κ × V}{r:Aa (κ × V)}{k:κ}(e:p.1=k):yR (p::r) k=Ab p.2:=by simp[yR,Ki,e]
theorem mT {p:κ × V}{r:Aa (κ × V)}{k:κ}(e:¬ p.1=k):yR (p::r) k=yR r k:=by simp[yR,Ki,e]
theorem cR (k:κ):∀ kvs:Aa (κ × V),(kvs.any λkv=>decide (kv.1=k))=(yR kvs k).isSome
 |[]=>rfl
 |p::r=>by
  rw[Kj];by_cases e:p.1=k
  .simp only[mU e,Cd e,Xc,Wq]
  .rw[mT e,Cb e,Aa3];exact cR k r
theorem jO (kvs:Aa (κ × V))(k:κ)(v:V):(yP kvs k v).length<=kvs.length+1:=by
 unfold yP
 split
 .rw[Au];omega
 .rw[De,By,Ec];omega
theorem uE.isSome_eq {o:Al V}{u:Al Ac}(r:uE o u):o.isSome=u.isSome:=by
 cases o with
 |none=>cases u with
  |none=>rfl
  |some _=>exact(show Fh from r).elim
 |some _=>cases u with
  |none=>exact(show Fh from r).elim
  |some _=>rfl
theorem KV.val {kvs:Aa (κ × V)}{vs:Aa (κ × Ac)}(r:KV kvs vs)(k:κ):uE (yR kvs k) (Tn vs k):=by
 unfold KV at r
 induction r with
 |nil=>exact Jg
 |@cons p q ps qs h t ih =>
  obtain⟨h1,h2⟩:=h;by_cases e:p.1=k
  .have e':q.1=k:=h1.symm.trans e
   have b:Tn (q::qs) k=Ab q.2:=by simp[Tn,Ki,e']
   rw[mU e,b];exact h2
  .have e':¬ q.1=k:=λz=>e (h1.trans z)
   have b:Tn (q::qs) k=Tn qs k:=by simp[Tn,Ki,e']
   rw[mT e,b];exact ih
theorem KV.any {kvs:Aa (κ × V)}{vs:Aa (κ × Ac)}(r:KV kvs vs)(k:κ):(kvs.any λkv=>decide (kv.1=k))=vs.any λkv=>decide (kv.1=k):=by
 unfold KV at r
 induction r with
 |nil=>rfl
 |cons h t ih=>rw[Kj,Kj,ih,h.1]
theorem KV.repl {kvs:Aa (κ × V)}{vs:Aa (κ × Ac)}(r:KV kvs vs)(k:κ){y:V}{u:Ac}(ry:qJ y u) :
  KV (kvs.map λkv=>if kv.1=k then (kv.1,y) else kv) (vs.map λkv=>if kv.1=k then (kv.1,u) else kv):=by
 unfold KV at r ⊢
 induction r with
 |nil=>exact .nil
 |@cons p q ps qs h t ih =>
  rw[Dc,Dc];refine .cons ?_ ih;obtain⟨h1,h2⟩:=h;by_cases e:p.1=k
  .rw[Bf e,Bf (h1.symm.trans e)];exact⟨h1,ry⟩
  .rw[Bb e,Bb (λz=>e (h1.trans z))];exact⟨h1,h2⟩
theorem KV.put {kvs:Aa (κ × V)}{vs:Aa (κ × Ac)}(r:KV kvs vs)(k:κ){y:V}{u:Ac}(ry:qJ y u):KV (yP kvs k y) (stored vs k u):=by
 unfold yP stored;rw[r.any k];by_cases e:(vs.any λkv=>decide (kv.1=k))=true
 .rw[Bf e,Bf e];exact r.repl k ry
 .rw[Bb e,Bb e];exact Paired.snoc r ⟨rfl,ry⟩
theorem KV.keys {kvs:Aa (κ × V)}{vs:Aa (κ × Ac)}(r:KV kvs vs):kvs.map (·.1)=vs.map (·.1):=by
 unfold KV at r
 induction r with
 |nil=>rfl
 |cons h t ih=>rw[Dc,Dc,ih,h.1]
theorem KV.length {kvs:Aa (κ × V)}{vs:Aa (κ × Ac)}(r:KV kvs vs):kvs.length=vs.length:=Paired.length r
end
theorem bX {P:Bc}{w:Bx}{k:Key}{u:Ac}(r:qJ (kV k) u):(zH P w).is k u=true:=by
 cases k with
 |inl i=>obtain⟨t,e⟩:=(show ∃ t,u=Pg i t from r);subst e;exact cX P w i t
 |inr x=>obtain⟨t,e⟩:=(show ∃ t,u=Xl x t from r);subst e;exact cY P w x t
theorem dS {P:Bc}{w:Bx}:∀ {ks:Aa Key} {us:Aa Ac},qL (ks.map kV) us->ItemsAre (zH P w) ks us
 |[],_,r=>by rw[Xb] at r;cases r;exact .nil
 |k::ks,_,r=>by
  rw[Dc] at r;cases r with
  |cons h t=>exact .cons (bX h) (dS t)
abbrev KT (H:Hp):Aa (Aa Key × V)->Aa (Aa Key × Af × Ac)->Prop:=Paired λp q=>p.1=q.1/\H q.2.1=Ab (.tup (p.1.map kV))/\qJ p.2 q.2.2
theorem KT.val {H:Hp}{kvs:Aa (Aa Key × V)}(r:KT H kvs xs)(k:Aa Key):uE (yR kvs k) ((Vv xs k).map (·.2)):=by
 induction r with
 |nil=>exact Jg
 |@cons p q ps qs h t ih =>
  obtain⟨h1,_,h2⟩:=h;by_cases e:p.1=k
  .have e':q.1=k:=h1.symm.trans e
   have b:Vv (q::qs) k=Ab q.2:=by simp[Vv,Ki,e']
   rw[mU e,b];exact h2
  .have e':¬ q.1=k:=λz=>e (h1.trans z)
   have b:Vv (q::qs) k=Vv qs k:=by simp[Vv,Ki,e']
   rw[mT e,b];exact ih
theorem KT.repl {H:Hp}{kvs:Aa (Aa Key × V)}(r:KT H kvs xs)(k:Aa Key){y:V}{u:Ac}(ry:qJ y u) :
  KT H (kvs.map λkv=>if kv.1=k then (kv.1,y) else kv) (xs.map (putAt k u)):=by
 induction r with
 |nil=>exact .nil
 |@cons p q ps qs h t ih =>
  rw[Dc,Dc];refine .cons ?_ ih;obtain⟨h1,h2,h3⟩:=h;unfold putAt;by_cases e:p.1=k
  .rw[Bf e,Bf (h1.symm.trans e)];exact⟨h1,h2,ry⟩
  .rw[Bb e,Bb (λz=>e (h1.trans z))];exact⟨h1,h2,h3⟩
theorem KT.put {H:Hp}{kvs:Aa (Aa Key × V)}(r:KT H kvs xs)(k:Aa Key){b:Af}{y:V}{u:Ac}(hb:H b=Ab (.tup (k.map kV)))(ry:qJ y u) :
  KT H (yP kvs k y) (storedH xs k b u):=by
 have e:(kvs.any λkv=>decide (kv.1=k))=(Vv xs k).isSome:=by
  rw[cR,(r.val k).isSome_eq,Option.isSome_map]
 unfold yP storedH;rw[e];by_cases q:(Vv xs k).isSome=true
 .rw[Bf q,Bf q];exact r.repl k ry
 .rw[Bb q,Bb q];exact Paired.snoc r ⟨rfl,hb,ry⟩
theorem KT.keeps {H:Hp}{kvs:Aa (Aa Key × V)}(r:KT H kvs xs)(ht:∀ b ys,H b=Ab (.tup ys)->H' b=Ab (.tup ys)):KT H' kvs xs:=
 Paired.mapP r λ_ _ z=>⟨z.1,ht _ _ z.2.1,z.2.2⟩
section
variable {P:Bc}{w:Bx}{H:Hp}{h:Bs}{a:Af}
theorem KY {u:HO}(ok:HOk P w H h)(e:Rd H a u):zG P w H h a u:=e.ok ok
theorem sT {kvs:Aa (Key × V)}(ok:HOk P w H h)(e:Rd H a (.dK kvs)):kvs.length<=sizeLine/\(a == Jf)=false/\∃ vs,KV kvs vs/\h.DictOf (zH P w) a vs:=
 show zG P w H h a (.dK kvs) from KY ok e
theorem tB {kvs:Aa (Key × V)}(ok:HOk P w H h)(e:H a=Ab (.dK kvs)):kvs.length<=sizeLine/\(a == Jf)=false/\∃ vs,KV kvs vs/\h.DictOf (zH P w) a vs:=sT ok (.inl e)
theorem eQ {ks:Aa Key}(ok:HOk P w H h)(e:H a=Ab (.tup (ks.map kV))):(Uc (zH P w)).is h ks a:=by
 obtain⟨_,its,r,o,h1,h2,n,h3⟩:=(show zG P w H h a (.tup (ks.map kV)) from ok a _ e)
 exact⟨o,its.toArray,n,h1,h2,h3,by simpa using dS r⟩
theorem Q8 {kvs:Aa (Aa Key × V)}(ok:HOk P w H h)(e:Rd H a (.dT kvs)):kvs.length<=sizeLine/\(a == Jf)=false /\
  ∃ xs,KT H kvs xs/\h.DictOfH (Uc (zH P w)) a xs:=by
 obtain⟨z,y,xs,r,o,es,ep,h1,h2,h3,h4,h5⟩:=(show zG P w H h a (.dT kvs) from KY ok e)
 refine⟨z,y,xs,r,o,es,ep,h1,h2,h3,h4,λx hx=>?_,h5⟩;have all:∀ {l:Aa (Aa Key × V)} {m:Aa (Aa Key × Af × Ac)},KT H l m->∀ x∈m,(Uc (zH P w)).is h x.1 x.2.1:=by
  intro l m q
  induction q with
  |nil=>intro x hx;exact nomatch hx
  |@cons p q ps qs hq t ih =>
   intro x hx;rcases Az.mp hx with e|hx
   .subst e
    exact eQ ok (by rw[<- hq.1];exact hq.2.1)
   .exact ih x hx
 exact all r x hx
theorem HX {kvs:Aa (Aa Key × V)}(ok:HOk P w H h)(e:H a=Ab (.dT kvs)):kvs.length<=sizeLine/\(a == Jf)=false /\
  ∃ xs,KT H kvs xs/\h.DictOfH (Uc (zH P w)) a xs:=Q8 ok (.inl e)
end
def fR (H:Hp)(a:Af)(y:V)(r:Al V):Prop:=
 (∃ kvs k,Rd H a (.dK kvs)/\y=kV k/\r=yR kvs k)\/∃ kvs k b,Rd H a (.dT kvs)/\y=.ref b/\H b=Ab (.tup (k.map kV))/\r=yR kvs k
def nH (H:Hp)(a:Af)(y v:V)(H':Hp):Prop:=
 (∃ kvs k,H a=Ab (.dK kvs)/\y=kV k/\kvs.length<sizeLine/\H'=upd H a (.dK (yP kvs k v))) \/
 ∃ kvs k b,H a=Ab (.dT kvs)/\y=.ref b/\H b=Ab (.tup (k.map kV))/\kvs.length<sizeLine/\H'=upd H a (.dT (yP kvs k v))
theorem fR.k {H:Hp}{a:Af}{kvs:Aa (Key × V)}{k:Key}(e:H a=Ab (.dK kvs)):fR H a (kV k) (yR kvs k):=.inl ⟨kvs,k,.inl e,rfl,rfl⟩
theorem fR.t {H:Hp}{a b:Af}{kvs:Aa (Aa Key × V)}{k:Aa Key}(e:H a=Ab (.dT kvs))(eb:H b=Ab (.tup (k.map kV))):fR H a (.ref b) (yR kvs k):=.inr ⟨kvs,k,b,.inl e,rfl,eb,rfl⟩
theorem nH.k {H:Hp}{a:Af}{kvs:Aa (Key × V)}{k:Key}{v:V}(e:H a=Ab (.dK kvs))(hl:kvs.length<sizeLine):nH H a (kV k) v (upd H a (.dK (yP kvs k v))):=.inl ⟨kvs,k,e,rfl,hl,rfl⟩
theorem nH.t {H:Hp}{a b:Af}{kvs:Aa (Aa Key × V)}{k:Aa Key}{v:V}(e:H a=Ab (.dT kvs))(eb:H b=Ab (.tup (k.map kV)))(hl:kvs.length<sizeLine) :
  nH H a (.ref b) v (upd H a (.dT (yP kvs k v))):=.inr ⟨kvs,k,b,e,rfl,eb,hl,rfl⟩
section
variable {X:Cx}{pins:Aa (Af × Cj)}{σ : St}{H:Hp}{s:Ag}{a:Af}{y v:V}{u r:Ac}{o:Al V}{A:Bk}{E:Ac->Ag->Prop}
theorem Inv.big (I:Inv X pins σ H s):Jf<s.heap.objs.size:=by
 have h:Cy<s.heap.objs.size:=(I.mod.glob.keeps I.bk).lt;exact Hz (by decide) h
theorem X6 (hu:A.units+1<Ee)(I:Inv X pins σ H s)(g:fR H a y (Ab v))(ry:qJ y u)(h:∀ w' s',Inv X pins σ H s'->qJ v w'->Q w' s') :
  Ap (As X.prog X.w) A (My (.ref a) u) Q E s:=by
 rcases g with⟨kvs,k,e,ey,l⟩|⟨kvs,k,b,e,ey,eb,l⟩
 .subst ey
  obtain⟨z,hd,vs,rel,dd⟩:=sT I.hok e;obtain⟨w',hw,rw'⟩:=uE.some_of (v:=v) (o:=Tn vs k) (by rw[l];exact rel.val k)
  exact wpAny_getItem_of (bX ry) dd.mapOf hw (h w' _ (I.tok _) rw')
 .subst ey
  cases (show u=Cw b from ry)
  obtain⟨z,hd,xs,rel,dd⟩:=Q8 I.hok e;obtain⟨w',hw,rw'⟩:=uE.some_of (v:=v) (o:=(Vv xs k).map (·.2)) (by rw[l];exact rel.val k)
  obtain⟨p,hp,hp2⟩:=Co.mp hw;refine wpAny_getItem_heap (Wr hu) (eQ I.hok eb) dd hp ?_;rw[hp2];exact h w' _ (I.tok _) rw'
theorem nR {h':Bs}{t':Ai}{ob:HO}(I:Inv X pins σ H s)(mu:Mut (H a))(hs:Fc a s.heap h')(he:∃ q,h'.get? a=Ab q)(new:zG X.prog X.w (upd H a ob) h' a ob) :
  Inv X pins σ (upd H a ob) { s with heap:=h',toks:=t' }:=
 I.write (x:=a) (e:=a) mu (.inl rfl) (λb q hb z=>(hs.2 b hb).trans z) he new
theorem X9 {P:Bc}{w:Bx}{h':Bs}{kvs:Aa (Key × V)}{vs:Aa (Key × Ac)}(z:kvs.length<=sizeLine)(hd:(a == Jf)=false)(rel:KV kvs vs)(dd:h'.DictOf (zH P w) a vs) :
  zG P w H' h' a (.dK kvs):=⟨z,hd,vs,rel,dd⟩
theorem X7 {Q:Uv->Ag->Prop}(hu:A.units+1<Ee)(I:Inv X pins σ H s)(g:nH H a y v H')(ry:qJ y u)(rv:qJ v r)(h:∀ s',Inv X pins σ H' s'->Q () s') :
  Ap (As X.prog X.w) A (setItem (.ref a) u r) Q E s:=by
 rcases g with⟨kvs,k,e,ey,l,eH⟩|⟨kvs,k,b,e,ey,eb,l,eH⟩
 .subst ey eH
  obtain⟨z,hd,vs,rel,dd⟩:=tB I.hok e;have hz:vs.length<=sizeLine:=by rw[<- rel.length];exact z
  have hl:(yP kvs k v).length<=sizeLine:=by have:=jO kvs k v;omega
  refine wpAny_setItem_pairs (hsz:=hz) (bX ry) dd λh' dd' hs=>h _ ?_;have he:∃ q,h'.get? a=Ab q:=let ⟨q,_,_,hq,_⟩:=dd';⟨q,hq⟩
  exact nR I (by rw[e];exact Jg) hs he (X9 hl hd (rel.put k rv) dd')
 .subst ey eH
  cases (show u=Cw b from ry)
  obtain⟨z,hd,xs,rel,dd⟩:=HX I.hok e;have hz:xs.length<=sizeLine:=by rw[<- Paired.length rel];exact z
  have hl:(yP kvs k v).length<=sizeLine:=by have:=jO kvs k v;omega
  refine wpAny_setItem_heap (hsz:=hz) (Wr hu) (eQ I.hok eb) dd λh' dd' hs=>h _ ?_;obtain⟨q,es,ep,hq,h2,h3,h4,_,h5⟩:=dd';refine nR I (by rw[e];exact Jg) hs ⟨q,hq⟩ ⟨hl,hd,_,(rel.put k eb rv).keeps λc ys ec=>?_,q,es,ep,hq,h2,h3,h4,h5⟩
  rw[qH (CN ec e (λz=>nomatch z))];exact ec
end
section
variable {X:Cx}{pins:Aa (Af × Cj)}{σ : St}{H:Hp}{s:Ag}{a:Af}{kvs:Aa (Key × V)}{k:Key}{u:Ac}{A:Bk}{E:Ac->Ag->Prop}
theorem HL (I:Inv X pins σ H s)(e:Rd H a (.dK kvs))(h:∀ t s',Inv X pins σ H s'->Q (.int kvs.length t) s'):Ap (As X.prog X.w) A (call (.builtin "len") [.ref a]) Q E s:=by
 obtain⟨z,hd,vs,rel,dd⟩:=sT I.hok e;refine call_len_dict hd dd (by rw[<- rel.length];rw[Fg] at z;omega) ?_
 rw[<- rel.length];exact h _ _ (I.tok _)
end
def YK (i:Bw):Prop:=∀ ov iv,subscripted i false ov iv=operate [ov,iv] (My ov iv)
theorem MJ {prog:Bc}{w:Bx}{A:Bk}{E:Ac->Ag->Prop}{s:Ag}{env:Ie}{value slice:Bw}{pos:Ey}{T id:Em}
  (hl:Zx (.type T) "__getitem__" = pure (Ab (.builtin id))) (hs:YK slice)
  (h:Ap (As prog w) A (eval value env) (λo s₁=>Ap (As prog w) A (eval slice env) (λi s₂=>s₂.TypeIs o T/\Ap (As prog w) A (My o i) Q E s₂) E s₁) E s) :
  Ap (As prog w) A (eval (.Subscript value slice pos) env) Q E s:=by
 refine Zy (Gq h (λo s₁ h₁=>Gq h₁ (λi s₂ h₂=>?_) λ_ _ x=>x) λ_ _ x=>x);obtain⟨hT,h₂⟩:=h₂;unfold Rj;refine Ad ?_;rw[getitemInPython_of_ne hT.not_modules];refine Ad (Kk hT hl ?_);have fin:Ap (As prog w) A (subscripted slice false o i) (λr s₃=>Ap (As prog w) A (letTemporaryGo value o r >>= λ_=>pure r) Q E s₃) E s₂:=by
  rw[hs o i];exact wpAny_operating (Gq h₂ (λr s₃ h₃=>Ad (wpAny_letTemporaryGo (An h₃))) λ_ _ x=>x)
 first
  |exact An (Ad fin)
  |exact Ad (An (Ad fin))
  |exact Ad fin
theorem cV {X:Cx}{pins:Aa (Af × Cj)}{σ:St}{H:Hp}{s:Ag}{a:Af}{y:V}{o:Al V}(I:Inv X pins σ H s)(g:fR H a y o):s.TypeIs (.ref a) "dict":=by
 rcases g with⟨kvs,k,e,_,_⟩|⟨kvs,k,b,e,_,_,_⟩
 .obtain⟨_,_,vs,_,dd⟩:=sT I.hok e
  exact dd.typeIs
 .obtain⟨_,_,xs,_,dd⟩:=Q8 I.hok e
  exact dd.typeIs
theorem V8 {P:Bc}{w:Bx}{H:Hp}(h:Bs)(hb:Jf<h.objs.size):zG P w H (h.push { cls:=.type "dict",data:=.dict #[] }) h.objs.size (.dK []):=
 ⟨Gz _,Jv.mpr (Fy (Ci hb)),[],.nil,Heap.DictOf.new h⟩
def EL:TE:=λ_ H Q=>∀ p,H p=none->Q (.ref p) (upd H p (.dK []))
section
variable {X:Cx}{pos:Ey}
theorem UM:PE X (.Dict [] [] pos) EL:=λpins s σ H Q I h =>
 wpAny_Dict_empty ⟨.ref s.heap.objs.size,_,I.laid (a:=s.heap.objs.size) (o:=.dK []) (t':=s.toks) (λ_ _ q=>Ah _ q) (Ax _) (V8 s.heap I.big),rfl,h _ (I.hok.fresh (Ax _))⟩
end
end _L
namespace _A
open PySem PySem.W PySem.Calls PyProof.Rows
theorem tL {P:Params}{h:Bs}:∀ (ns:Aa Ak) (vs:Aa Ac),WellAll P h vs (ns.map WData.int)->Gw vs ns:=by
 intro ns
 induction ns with
 |nil =>
  intro vs w;rw[Xb] at w;cases w;exact .nil
 |cons n ns ih =>
  intro vs w;rw[Dc] at w;cases w with
  |cons a b =>
   cases a;exact .cons _ _ (ih _ b)
theorem Y4 {l:OpenLaw}{n:Ai}(hn:l.most=Ab n){P:Params}{h:Bs}{args:Aa WData}{vals:Aa Ac}
  (hpre:l.row.toRowW.claim.pre args=true) (hwl:WellAll P h vals args) :
  ∃ a vs ns,vals=[Cw a]/\args=[WData.list (ns.map WData.int)]/\h.get? a=Ab { cls:=.type "list",data:=.seq vs.toArray } /\ Gw vs ns/\ns.length<=n:=by
 have hsh:WShape.hasAll [] args [.list .int]=true:=(pre_splitW hpre).1;have hc:l.pre.holds [] { args:=args } = true:=(pre_splitW hpre).2;obtain⟨d,r,rfl,h1,h2⟩:=hasAllW_cons hsh;obtain rfl:=hasAllW_nil h2;obtain⟨xs,rfl,h3⟩:=hasW_list h1;obtain⟨ns,rfl⟩:=items_int h3;have hlen:ns.length<=n:=by
  unfold OpenLaw.pre at hc;have h4:(WTm.not (.lt (.lit (.int (n:Ak))) (.len (.arg 0)))).holds [] { args:=[.list (ns.map .int)] } = true:=by
   have h4:=(holds_andW hc).1;rw[hn] at h4;exact h4
  have h5:=condW_of h4 (w_not (w_lt w_lit (w_len_list (w_arg rfl))));rw[Au] at h5;refine Of λq=>?_;have q':(n:Ak)<((ns.length:Ai):Ak):=by omega
  first
   |(rw[Cd q'] at h5;exact absurd h5 (by decide))
   |(simp at h5;omega)
 cases hwl with
 |cons w1 w2 =>
  cases w2;cases w1 with
  |list ho hall=>exact⟨_,_,ns,rfl,rfl,ho,tL ns _ hall,hlen⟩
theorem WT (l:OpenLaw)(args:Aa WData):l.row.toRowW.claim.post args (.bool true) args=true:=
 postW_of (r:=l.row.toRowW) (X:=(true == true))
  (show WShape.has [] (.bool true) .bool=true by first|rfl|decide|simp[WShape.has,WShape.arms,WShape.armsAll])
  (show (WTm.eq .res (.lit (.bool true))).value [] { args:=args,res:=Ab (.bool true),after:=args } = Ab (.bool (true == true)) from w_eq_bool (w_res rfl) w_lit) rfl
theorem attach_call {l:OpenLaw}{n:Ai}{q:Bc}{loose:Aa Aq}{XP:(Aq->Al Ac)->Bs->Prop}{YP:Bx->Bs->Prop}{d:DefRec}
  (hn:l.most=Ab n) (hdf:d.params.defaults=[])
  (call:∀ (w:Bx) (s₀ s₁:Ag) (mg mb:Aq->Al Ac) (fa:Af) (o:Cj) (pm cd doc:Ac) (a:Af) (vs:Aa Ac) (ns:Aa Ak),
   Ground q loose [] XP w s₀ mg mb s₁.heap->YP w s₁.heap ->
   s₁.heap.get? fa=Ab o->o.data=.func (docDef d.name d.params d.body d.scope pm cd doc)->s₁.heap.CodeRec cd d.name->mg d.name=Ab (.ref fa) ->
   s₁.heap.get? a=Ab { cls:=.type "list",data:=.seq vs.toArray } -> Gw vs ns->ns.length<=n->s₁.gens=#[] ->
   Ih (As l.prog w) Rk (.call (.ref fa) ⟨[.ref a],[]⟩) (λr s'=>r=.ok (.ret (.bool true))/\OldK s₁.heap s'.heap/\s'.os=s₁.os/\Oc s'.gens) s₁) :
  WalkO q loose XP YP l.row.toRowW d [] (λf vs=>Zz f vs):=by
 intro w s₀ s₁ mg mb G Y fa o pm cd doc dV kV ho hd hcd hD hmg hg args vals as hpre hlay hrd hwl hlo;obtain rfl:dV=.none:=Dflts.none hD hdf;obtain rfl:kV=.none:=Dflts.noKw hD;obtain⟨a,vs,ns,rfl,rfl,hobj,hints,hlen⟩:=Y4 hn hpre hwl;refine enter_call (Jh (call w s₀ s₁ mg mb fa o pm cd doc a vs ns G Y ho (fd_plain hd) hcd hmg hobj hints hlen hg) λr s' hq=>?_);obtain⟨rfl,h2,h3,h4⟩:=hq;exact⟨.inl ⟨.bool true,.bool true,[],rfl,λ_=>rfl,.bool true,WT l _,λ_=>⟨Nn,λ_ hm=>(nomatch hm)⟩⟩,h2,h3,h4⟩
end _A
namespace _L
open PySem PySem.Spec PyProof.Rows
theorem YB {vs:Aa Ac}{ns:Aa Ak}(h:Gw vs ns):qL (ns.map V.int) vs:=by
 induction h with
 |nil=>exact .nil
 |cons n t h ih=>exact .cons ⟨t,rfl⟩ ih
def SqX (K:Aj)(H:Hp)(a:Af)(xs:Aa V):Prop:=
 Rd H a (.lst xs)\/∃ (its:Aa Ac) (n:Ai),K.lookup a=Ab { cls:=.type "list",data:=.seq its.toArray n } /\ xs.length<=sizeLine/\qL xs its
theorem SqX.l {K:Aj}{H:Hp}{a:Af}{xs:Aa V}(h:SqX K H a xs):SqL K H a xs:=by
 rcases h with h|⟨its,n,e,l,v⟩
 .exact .inl h
 .exact .inr ⟨_,its.toArray,n,e,rfl,rfl,rfl,by rw[Bz,<- v.length];exact l,by simpa using v⟩
end _L
namespace _L
open PySem PySem.Spec PyProof.Rows
variable {ps:Aa Aq}{f:Af}{x qual:Aq}{H:Hp}
def wW (s:Fq):Pj:=match s with
 |.FunctionDef _ a _ _ _ _ _ _ _ _=>a
 |_=>{ posonlyargs:=[],args:=[],vararg:=none,kwonlyargs:=[],kw_defaults:=[],kwarg:=none,defaults:=[] }
def zJ (s:Fq):Aa Fq:=match s with
 |.FunctionDef _ _ b _ _ _ _ _ _ _=>b
 |_=>[]
def qF (s:Fq):Ei:=match s with
 |.FunctionDef _ _ _ _ _ _ sc _ _ _=>sc
 |_=>{ kind:=.function,names:=[],isGenerator:=false,isCoroutine:=false }
abbrev CX0:CXT:=λ_ _ _ _ _ _=>Fh
structure Fun (K:Aj)(x qual:Aq)(st:Fq)(f:Af)(fd:Fi):Prop where
 ex:∃ (oc:Ac) (od:Al Af) (kV doc pm:Ac) (an:Al Af) (cdv ct:Ac) (osl:Aw (Al Ac)),
  fd=Gi x qual (wW st) (zJ st) (qF st) .none kV doc pm an cdv ct/\K.lookup f=Ab ⟨oc,od,.func fd,osl⟩/\Ld K cdv qual=true
 kp:Gj K (.ref f)=true
section
variable {P:Bc}{w:Bx}{K:Aj}{mg:Aq->Al Ac}{base:Bs}
theorem Fun.ok {st:Fq}{fd:Fi}{N:Aa Aq}{k:Ai}{sp:Sp}(F:Fun K x qual st f fd)(S:FnScope N ps (qF st))(len:∀ vs H Q E,sp vs H Q E->vs.length=ps.length)
  (hbody:∀ (cdv:Ac) (A:Bk) (outer:Aa Ie) (s:Ag) (H:Hp) (vs:Aa V) (Q:VK) (E:XK),Room k (A.deeper (Gb qual (qF st) s.heap.objs.size f cdv))->sp vs H Q E ->
   ∃ t,PSs (nO CX0 P w K mg base N qual (qF st) f cdv A outer s H E).nox (zJ st) t/\t { nx:=λ_ H'=>Q .non H',rt:=Q } (xQ N vs) H):FnOk P w K mg base CX0 (k+1) f fd ps sp:=by
 obtain⟨oc,od,kV,doc,pm,an,cdv,ct,osl,rfl,lk,hcd⟩:=F.ex;refine C3 lk hcd S len λA outer s H vs Q E hr hsp=>?_;obtain⟨t,h,q⟩:=hbody cdv A outer s H vs Q E hr hsp;exact⟨t,h.nox,q⟩
theorem Fun.binds {st:Fq}{fd:Fi}(F:Fun K x qual st f fd)
  (h:∀ (kV doc pm:Ac) (an:Al Af) (cdv ct:Ac) (us:Aa Ac),us.length=ps.length->Tj (Gi x qual (wW st) (zJ st) (qF st) .none kV doc pm an cdv ct) ⟨us,[]⟩=pure (ps.zip us)):vH K fd ps []:=by
 obtain⟨oc,od,kV,doc,pm,an,cdv,ct,osl,rfl,lk,hcd⟩:=F.ex;exact .all (h kV doc pm an cdv ct)
theorem LL {st:Fq}{oc:Ac}{od an:Al Af}{osl:Aw (Al Ac)}{kV doc pm cdv ct:Ac}(l:K.lookup f=Ab ⟨oc,od,.func (Gi x qual (wW st) (zJ st) (qF st) .none kV doc pm an cdv ct),osl⟩)
  (c:Ld K cdv qual=true) (k:Gj K (.ref f)=true):Fun K x qual st f (Gi x qual (wW st) (zJ st) (qF st) .none kV doc pm an cdv ct):=⟨⟨oc,od,kV,doc,pm,an,cdv,ct,osl,rfl,l,c⟩,k⟩
end
def qD (H H':Hp):Prop:=∀ b o,H b=Ab o->H' b=Ab o
theorem qD.refl (H:Hp):qD H H:=λ_ _ h=>h
theorem qD.trans {H1 H2:Hp}(a:qD H H1)(b:qD H1 H2):qD H H2:=λc o h=>b c o (a c o h)
theorem qD.free {H':Hp}(e:qD H H'){l:Af}(h:H' l=AaG):H l=AaG:=by
 cases q:H l with
 |none=>rfl
 |some o =>
  rw[e l o q] at h;cases h
theorem qD.seq {K:Aj}{H':Hp}{a:Af}{xs:Aa V}(e:qD H H')(h:SqL K H a xs):SqL K H' a xs:=by
 rcases h with (h|⟨o,h⟩)|h
 .exact .inl (.inl (e _ _ h))
 .exact .inl (.inr ⟨o,e _ _ h⟩)
 .exact .inr h
end _L
end
section
namespace _D
open PySem PySem.Spec PyProof.Rows _L
inductive D where
 |non|bl (b:Ar)|int (i:Ak)|str (x:Aq)|ty (n:Em)|obj (a:Af)|tup (xs:Aa D)|lst (xs:Aa D)|dct0|loc (i:Ai)|exn (c:Ac)|fd (ks:Aa Key) (ds:Aa D)|clo (a:Af) (vs:Aa V) (ds:Aa D)
def OM (a:Af)(c:Ac):HO:=.ext λh=>∃ ob,h.get? a=Ab ob/\ob.cls=c
inductive MO where
 |dead|lst (xs:Aa D)|dct (kvs:Aa (Key × D))|dcT (kvs:Aa (Aa Ak × D))|ins (C:Af) (fs:Aa (Aq × D))
abbrev Sto:=Aa MO
inductive Res (β : Type) where
 |ok (d:β) (S:Sto)|ex (c:Ac) (x:D) (S:Sto)|bad
@[inline] def Res.bind {β γ:Type}(r:Res β)(f:β->Sto->Res γ) : Res γ:=
 match r with
 |.ok d S=>f d S
 |.ex c x S=>.ex c x S
 |.bad=>.bad
theorem Res.bind_ok {β γ:Type}(d:β)(S:Sto)(f:β->Sto->Res γ) : (Res.ok d S).bind f=f d S:=rfl
section
variable (K:Aj)(P:Hp)(α : Aa Af)
mutual
def Rep:D->V->Prop
 |.non,v=>v=.non
 |.bl b,v=>v=.bl b
 |.int i,v=>v=.int i
 |.str x,v=>v=.str x
 |.ty n,v=>v=.ty n
 |.obj a,v=>v=.ref a/\Gj K (.ref a)=true
 |.tup ds,v=>∃ a vs,v=.ref a/\SqT K P a vs/\qC ds vs
 |.lst ds,v=>∃ a vs,v=.ref a/\SqX K P a vs/\qC ds vs
 |.dct0,v=>∃ a,v=.ref a/\P a=Ab (.dK [])
 |.loc i,v=>∃ a,v=.ref a/\α[i]? = Ab a
 |.exn c,v=>∃ a,v=.ref a/\P a=Ab (OM a c)
 |.fd ks ds,v=>∃ a o vs,v=.ref a/\P a=Ab (.frz o (.dK (ks.zip vs)))/\ks.length=vs.length/\qC ds vs
 |.clo a vs ds,v=>v=.ref a/\qC ds vs
def qC:Aa D->Aa V->Prop
 |[],vs=>vs=[]
 |d::ds,vs=>∃ w ws,vs=w::ws/\Rep d w/\qC ds ws
end
end
section
variable {K:Aj}{P P':Hp}{α α':Aa Af}
theorem wQ (e:qD P P'){a:Af}{xs:Aa V}(h:SqT K P a xs):SqT K P' a xs:=by
 rcases h with (h|⟨o,h⟩)|h
 .exact .inl (.inl (e _ _ h))
 .exact .inl (.inr ⟨o,e _ _ h⟩)
 .exact .inr h
theorem o9 (e:qD P P'){a:Af}{u:HO}(h:Rd P a u):Rd P' a u:=by
 rcases h with h|⟨o,h⟩
 .exact .inl (e _ _ h)
 .exact .inr ⟨o,e _ _ h⟩
theorem xH (e:qD P P'){a:Af}{xs:Aa V}(h:SqX K P a xs):SqX K P' a xs:=by
 rcases h with h|h
 .exact .inl (o9 e h)
 .exact .inr h
theorem fD {i:Ai}{a:Af}(h:α<+:α')(e:α[i]? = Ab a):α'[i]? = Ab a:=by
 obtain⟨r,rfl⟩:=h;rw[Be (Bd.mp e).1];exact e
mutual
theorem Rep.mono (e:qD P P')(h:α<+:α'):∀ (d:D) (v:V),Rep K P α d v->Rep K P' α' d v
 |.non,_,r=>by simpa only [Rep] using r
 |.bl _,_,r=>by simpa only [Rep] using r
 |.int _,_,r=>by simpa only [Rep] using r
 |.str _,_,r=>by simpa only [Rep] using r
 |.ty _,_,r=>by simpa only [Rep] using r
 |.obj _,_,r=>by simpa only [Rep] using r
 |.tup ds,v,r=>by
  simp only[Rep] at r ⊢;obtain⟨a,vs,rfl,q,t⟩:=r;exact⟨a,vs,rfl,wQ e q,qC.mono e h ds vs t⟩
 |.lst ds,v,r=>by
  simp only[Rep] at r ⊢;obtain⟨a,vs,rfl,q,t⟩:=r;exact⟨a,vs,rfl,xH e q,qC.mono e h ds vs t⟩
 |.dct0,v,r=>by
  simp only[Rep] at r ⊢;obtain⟨a,rfl,q⟩:=r;exact⟨a,rfl,e _ _ q⟩
 |.loc i,v,r=>by
  simp only[Rep] at r ⊢;obtain⟨a,rfl,q⟩:=r;exact⟨a,rfl,fD h q⟩
 |.exn c,v,r=>by
  simp only[Rep] at r ⊢;obtain⟨a,rfl,q⟩:=r;exact⟨a,rfl,e _ _ q⟩
 |.fd ks ds,v,r=>by
  simp only[Rep] at r ⊢;obtain⟨a,o,vs,rfl,q,hl,t⟩:=r;exact⟨a,o,vs,rfl,e _ _ q,hl,qC.mono e h ds vs t⟩
 |.clo a vs ds,v,r=>by
  simp only[Rep] at r ⊢;exact⟨r.1,qC.mono e h ds vs r.2⟩
theorem qC.mono (e:qD P P')(h:α<+:α'):∀ (ds:Aa D) (vs:Aa V),qC K P α ds vs->qC K P' α' ds vs
 |[],vs,r=>by simpa only [qC] using r
 |d::ds,vs,r=>by
  simp only[qC] at r ⊢;obtain⟨w,ws,rfl,r1,r2⟩:=r;exact⟨w,ws,rfl,Rep.mono e h d w r1,qC.mono e h ds ws r2⟩
end
theorem qC.nil:qC K P α [] []:=by simp only[qC]
theorem qC.cons {d:D}{v:V}{ds:Aa D}{vs:Aa V}(r:Rep K P α d v)(t:qC K P α ds vs):qC K P α (d::ds) (v::vs):=by
 simp only[qC];exact⟨v,vs,rfl,r,t⟩
theorem qC.nil_inv {vs:Aa V}(r:qC K P α [] vs):vs=[]:=by simpa only [qC] using r
theorem qC.cons_inv {d:D}{ds:Aa D}{vs:Aa V}(r:qC K P α (d::ds) vs):∃ w ws,vs=w::ws/\Rep K P α d w/\qC K P α ds ws:=by simpa only [qC] using r
theorem qC.length:∀ {ds:Aa D} {vs:Aa V},qC K P α ds vs->ds.length=vs.length
 |[],vs,r=>by rw[r.nil_inv];rfl
 |d::ds,vs,r=>by
  obtain⟨w,ws,rfl,_,t⟩:=r.cons_inv;rw[By,By,t.length]
theorem qC.append:∀ {ds es:Aa D} {vs ws:Aa V},qC K P α ds vs->qC K P α es ws->qC K P α (ds++es) (vs++ws)
 |[],es,vs,ws,r,t=>by rw[r.nil_inv];exact t
 |d::ds,es,vs,ws,r,t=>by
  obtain⟨w,us,rfl,r1,r2⟩:=r.cons_inv;exact .cons r1 (r2.append t)
theorem qC.get:∀ {ds:Aa D} {vs:Aa V} {i:Ai} {d:D},qC K P α ds vs->ds[i]? = Ab d->∃ v,vs[i]? = Ab v/\Rep K P α d v
 |[],_,_,_,_,e=>by simp at e
 |d::ds,vs,i,d',r,e=>by
  obtain⟨w,ws,rfl,r1,r2⟩:=r.cons_inv;cases i with
  |zero=>simp at e;subst e;exact⟨w,rfl,r1⟩
  |succ i =>
   obtain⟨v,h1,h2⟩:=r2.get (i:=i) (d:=d') (by simpa using e)
   exact⟨v,by simpa using h1,h2⟩
theorem qC.drop:∀ {ds:Aa D} {vs:Aa V} (n:Ai),qC K P α ds vs->qC K P α (ds.drop n) (vs.drop n)
 |ds,vs,0,r=>by simpa using r
 |[],vs,n+1,r=>by rw[r.nil_inv];exact .nil
 |d::ds,vs,n+1,r=>by
  obtain⟨w,ws,rfl,_,r2⟩:=r.cons_inv;simpa using r2.drop n
theorem qC.take:∀ {ds:Aa D} {vs:Aa V} (n:Ai),qC K P α ds vs->qC K P α (ds.take n) (vs.take n)
 |ds,vs,0,r=>by simpa using qC.nil
 |[],vs,n+1,r=>by rw[r.nil_inv];exact .nil
 |d::ds,vs,n+1,r=>by
  obtain⟨w,ws,rfl,r1,r2⟩:=r.cons_inv;simpa using qC.cons r1 (r2.take n)
theorem qC.set {d:D}{v:V}(q:Rep K P α d v):∀ {ds:Aa D} {vs:Aa V} (n:Ai),qC K P α ds vs->qC K P α (ds.set n d) (vs.set n v)
 |[],vs,n,r=>by rw[r.nil_inv];exact .nil
 |e::ds,vs,0,r=>by
  obtain⟨w,ws,rfl,r1,r2⟩:=r.cons_inv;exact .cons q r2
 |e::ds,vs,n+1,r=>by
  obtain⟨w,ws,rfl,r1,r2⟩:=r.cons_inv;exact .cons r1 (r2.set q n)
end
abbrev qB:=Aa (Al D)
def z9 (K:Aj)(P:Hp)(α : Aa Af)(σ : _L.St)(env:qB):Prop:=env.length=σ.length/\∀ (i:Ai) (d:D),env[i]? = Ab (Ab d)->∃ v,σ[i]? = Ab (Ab v)/\Rep K P α d v
def KVs (K:Aj)(P:Hp)(α : Aa Af){κ : Type}:Aa (κ × D)->Aa (κ × V)->Prop:=Paired λ(p:κ × D) (q:κ × V)=>p.1=q.1/\Rep K P α p.2 q.2
def C9 (ns:Aa Ak):Ak:=Vw (Hl (ns.map hashInt))
def O0 (a:Af)(xs:Aa (Aa Ak × Af × V))(h:Bs):Prop:=∃ us:Aa (Aa Ak × Af × Ac),Paired (λ(p:Aa Ak × Af × V) (q:Aa Ak × Af × Ac)=>p.1=q.1/\p.2.1=q.2.1/\qJ p.2.2 q.2.2) xs us /\
 ∃ o es ep,h.get? a=Ab o/\o.ExactDict/\o.data=.dict es ep/\es.toList=us.map λx=>⟨C9 x.1,.ref x.2.1,x.2.2⟩
abbrev dtO (a:Af)(xs:Aa (Aa Ak × Af × V)):HO:=.ext (O0 a xs)
def DTs (K:Aj)(P:Hp)(α : Aa Af):Aa (Aa Ak × D)->Aa (Aa Ak × Af × V)->Prop:=Paired λ(p:Aa Ak × D) (q:Aa Ak × Af × V)=>p.1=q.1/\SqT K P q.2.1 (q.1.map V.int)/\Rep K P α p.2 q.2.2
def MOk (K:Aj)(H P:Hp)(α : Aa Af)(a:Af):MO->Prop
 |.dead=>Ps
 |.lst ds=>∃ vs,H a=Ab (.lst vs)/\qC K P α ds vs
 |.dct kvs=>∃ vs,H a=Ab (.dK vs)/\KVs K P α kvs vs
 |.dcT kvs=>∃ xs,H a=Ab (dtO a xs)/\(a == Jf)=false/\xs.length<=sizeLine/\(xs.map (·.1)).Nodup/\DTs K P α kvs xs
 |.ins C fs=>∃ dx vs,H a=Ab (.ins C dx vs)/\KVs K P α fs vs
inductive TbAt (x:Aq)(H P:Hp)(α : Aa Af)(T:Af):Prop
 |mk (ps:Aw Ac) (e:H T=Ab (.tbl ps)) (pn:P T=none) (an:T ∉ α) (ok:Lv ps.toList) (cd:∀ pos cv,Pk pos ps.toList=Ab cv->∃ c oc vs t,cv=.ref c/\H c=Ab (.frz oc (.frz oc (.own 0)))/\oc.data=.fields vs/\vs[1]? = Ab (.str (x ++ ".<locals>." ++ "<lambda>") t)):TbAt x H P α T
def oU (K:Aj)(H P:Hp)(α : Aa Af):Prop:=∀ x∈w8,∀ c T,Ds K x=Ab (c,T)->TbAt x H P α T
def LS (u:HO):Prop:=(∃ ps,u=.tbl ps)\/∃ o,u=.frz o (.frz o (.own 0))
theorem oU.keep {K:Aj}{H H' P P':Hp}{α α':Aa Af}(r:oU K H P α)(e:∀ b u,H b=Ab u->LS u->H' b=Ab u)(hp:∀ b u,H b=Ab u->LS u->P b=none->b ∉ α->P' b=none/\b ∉ α'):oU K H' P' α':=λx hx c T h =>
 let ⟨ps,e1,pn,an,ok,cd⟩:=r x hx c T h
 let z:=hp _ _ e1 (.inl ⟨_,rfl⟩) pn an
 ⟨ps,e _ _ e1 (.inl ⟨_,rfl⟩),z.1,z.2,ok,λpos cv q=>let ⟨c,oc,vs,t,a,b,d⟩:=cd pos cv q;⟨c,oc,vs,t,a,e _ _ b (.inr ⟨_,rfl⟩),d⟩⟩
structure Rel (K:Aj)(H P:Hp)(α : Aa Af)(S:Sto):Prop where
 tb:oU K H P α
 sub:qD P H
 len:α.length=S.length
 nd:α.Nodup
 sep:∀ (i:Ai) (a:Af) (o:MO),α[i]? = Ab a->S[i]? = Ab o->o≠.dead->P a=none
 at':∀ (i:Ai) (a:Af) (o:MO),α[i]? = Ab a->S[i]? = Ab o->MOk K H P α a o
 own:∀ (i:Ai) (a:Af),α[i]? = Ab a->H a≠none
section
variable {K:Aj}{H P P':Hp}{α α':Aa Af}{S:Sto}
theorem z9.mono {σ : _L.St}{env:qB}(e:qD P P')(h:α<+:α')(r:z9 K P α σ env):z9 K P' α' σ env:=
 ⟨r.1,λi d q=>let ⟨v,h1,h2⟩:=r.2 i d q;⟨v,h1,Rep.mono e h d v h2⟩⟩
theorem KVs.mono {κ : Type}(e:qD P P')(h:α<+:α'){kvs:Aa (κ × D)}{vs:Aa (κ × V)}(r:KVs K P α kvs vs):KVs K P' α' kvs vs:=by
 refine Paired.mapP r λp q z=>⟨z.1,Rep.mono e h _ _ z.2⟩
theorem DTs.mono (e:qD P P')(h:α<+:α'){kvs:Aa (Aa Ak × D)}{xs:Aa (Aa Ak × Af × V)}(r:DTs K P α kvs xs):DTs K P' α' kvs xs:=
 Paired.mapP r λp q z=>⟨z.1,wQ e z.2.1,Rep.mono e h _ _ z.2.2⟩
theorem MOk.mono {a:Af}(e:qD P P')(h:α<+:α'):∀ {o:MO},MOk K H P α a o->MOk K H P' α' a o
 |.dead,_=>trivial
 |.lst _,⟨vs,q,r⟩=>⟨vs,q,qC.mono e h _ _ r⟩
 |.dct _,⟨vs,q,r⟩=>⟨vs,q,r.mono e h⟩
 |.dcT _,⟨vs,q,d,l,n,r⟩=>⟨vs,q,d,l,n,r.mono e h⟩
 |.ins _ _,⟨dx,vs,q,r⟩=>⟨dx,vs,q,r.mono e h⟩
theorem Rel.grow {H':Hp}(r:Rel K H P α S)(e:qD H H'):Rel K H' P α S where
 tb:=r.tb.keep (λb u q _=>e _ _ q) λ_ _ _ _ p n=>⟨p,n⟩
 sub:=r.sub.trans e
 len:=r.len
 nd:=r.nd
 sep:=r.sep
 at':=λi a o q1 q2=>by
  have m:=r.at' i a o q1 q2;cases o with
  |dead=>trivial
  |lst ds=>obtain⟨vs,q,t⟩:=m;exact⟨vs,e _ _ q,t⟩
  |dct kvs=>obtain⟨vs,q,t⟩:=m;exact⟨vs,e _ _ q,t⟩
  |dcT kvs=>obtain⟨vs,q,t⟩:=m;exact⟨vs,e _ _ q,t⟩
  |ins C fs=>obtain⟨dx,vs,q,t⟩:=m;exact⟨dx,vs,e _ _ q,t⟩
 own:=λi a q=>by
  have m:=r.own i a q;cases z:H a with
  |none=>exact absurd z m
  |some o=>rw[e _ _ z];intro w;cases w
theorem gW {H:Hp}{a:Af}{o:HO}(h:H a=none):qD H (upd H a o):=λb u e=>by rw[qH (qU e h)];exact e
theorem Rel.pure {a:Af}{o:HO}(r:Rel K H P α S)(h:H a=none):Rel K (upd H a o) (upd P a o) α S/\qD P (upd P a o):=by
 have hP:P a=none:=by
  cases z:P a with
  |none=>rfl
  |some u=>rw[r.sub _ _ z] at h;cases h
 have sP:qD P (upd P a o):=gW hP;have r1:=r.grow (gW (o:=o) h);refine⟨⟨r.tb.keep (λb u q _=>(qH (qU q h)).trans q) λb u q _ p n=>⟨(qH (qU q h)).trans p,n⟩,λb u e=>?_,r.len,r.nd,λi b u q1 q2 q3=>?_,λi b u q1 q2=>(r1.at' i b u q1 q2).mono sP (Bg _),r1.own⟩,sP⟩
 .by_cases hb:b=a
  .subst hb;rw[qR] at e ⊢;exact e
  .rw[qH hb] at e ⊢;exact r.sub _ _ e
 .have hb:b≠a:=by rintro rfl;exact r.own i b q1 h
  rw[qH hb];exact r.sep i b u q1 q2 q3
theorem Rel.new {a:Af}{o:HO}{m:MO}(r:Rel K H P α S)(h:H a=none)(hm:MOk K (upd H a o) P (α ++ [a]) a m):Rel K (upd H a o) P (α ++ [a]) (S++[m]):=by
 have hP:P a=none:=by
  cases z:P a with
  |none=>rfl
  |some u=>rw[r.sub _ _ z] at h;cases h
 have r1:=r.grow (gW (o:=o) h);have hp:α<+:α++[a]:=Mp _ _;have split:∀ (i:Ai) (b:Af),(α++[a])[i]? = Ab b->(i<α.length/\α[i]? = Ab b)\/(i=α.length/\b=a):=λi b q=>by
  by_cases hi:i<α.length
  .rw[Be hi] at q;exact .inl ⟨hi,q⟩
  .rw[Cp om] at q
   cases hk:i-α.length with
   |zero=>rw[hk] at q;simp at q;exact .inr ⟨by omega,q.symm⟩
   |succ k=>rw[hk] at q;simp at q
 refine⟨r.tb.keep (λb u q _=>(qH (qU q h)).trans q) λb u q _ p n=>⟨p,λz=>(Cn.mp z).elim n λw=>qU q h (by simpa using w)⟩,r1.sub,by simp[r.len],?_,λi b u q1 q2 q3=>?_,λi b u q1 q2=>?_,λi b q=>?_⟩
 .rw[No]
  refine⟨r.nd,by simp,λb hb c hc e=>?_⟩
  simp at hc;subst hc;subst e;obtain⟨i,hi,e⟩:=Cc.mp hb;exact r.own i b (by rw[Am hi,e]) h
 .rcases split i b q1 with⟨hi,z⟩|⟨hi,rfl⟩
  .rw[Be (by rw[<- r.len];exact hi)] at q2
   exact r.sep i b u z q2 q3
  .exact hP
 .rcases split i b q1 with⟨hi,z⟩|⟨hi,rfl⟩
  .rw[Be (by rw[<- r.len];exact hi)] at q2
   exact(r1.at' i b u z q2).mono (qD.refl _) hp
  .rw[hi,r.len,Cp (Ax _)] at q2
   simp at q2;subst q2;exact hm
 .rcases split i b q with⟨_,z⟩|⟨_,rfl⟩
  .exact r1.own i b z
  .rw[qR];intro z;cases z
theorem dY {N:Aa Af}(hN:N.Nodup){i j:Ai}{x:Af}(a:N[i]? = Ab x)(b:N[j]? = Ab x):i=j:=by
 obtain⟨h1,e1⟩:=Bd.mp a;obtain⟨h2,e2⟩:=Bd.mp b;exact(Sl hN).mp (e1.trans e2.symm)
theorem Rel.put {a:Af}{i:Ai}{o:HO}{m m':MO}(r:Rel K H P α S)(ha:α[i]? = Ab a)(hs:S[i]? = Ab m)(hd:m≠.dead)(hm:MOk K (upd H a o) P α a m'):Rel K (upd H a o) P α (S.set i m'):=by
 have hP:=r.sep i a m ha hs hd;have hi:i<S.length:=(Bd.mp hs).1;refine⟨r.tb.keep (λb u q hu=>?_) λ_ _ _ _ p n=>⟨p,n⟩,λb u e=>?_,by simp[r.len],r.nd,λj b u q1 q2 q3=>?_,λj b u q1 q2=>?_,λj b q=>?_⟩
 .refine(qH ?_).trans q
  rintro rfl;have z:=r.at' i _ m ha hs;cases m with
  |dead=>exact hd rfl
  |lst ds=>obtain⟨vs,z,_⟩:=z;rw[q] at z;rcases hu with⟨_,rfl⟩|⟨_,rfl⟩ <;> cases z
  |dct kvs=>obtain⟨vs,z,_⟩:=z;rw[q] at z;rcases hu with⟨_,rfl⟩|⟨_,rfl⟩ <;> cases z
  |dcT kvs=>obtain⟨vs,z,_⟩:=z;rw[q] at z;rcases hu with⟨_,rfl⟩|⟨_,rfl⟩ <;> cases z
  |ins C fs=>obtain⟨dx,vs,z,_⟩:=z;rw[q] at z;rcases hu with⟨_,rfl⟩|⟨_,rfl⟩ <;> cases z
 .have hb:b≠a:=by rintro rfl;rw[hP] at e;cases e
  rw[qH hb];exact r.sub _ _ e
 .by_cases hj:j=i
  .subst hj;rw[ha] at q1;cases q1;exact hP
  .rw[Cq (Fy hj)] at q2;exact r.sep j b u q1 q2 q3
 .by_cases hj:j=i
  .subst hj;rw[ha] at q1;cases q1
   rw[Er hi] at q2;cases q2;exact hm
  .rw[Cq (Fy hj)] at q2
   have hb:b≠a:=by rintro rfl;exact hj (dY r.nd q1 ha)
   have z:=r.at' j b u q1 q2;cases u with
   |dead=>trivial
   |lst ds=>obtain⟨vs,q,t⟩:=z;exact⟨vs,by rw[qH hb];exact q,t⟩
   |dct kvs=>obtain⟨vs,q,t⟩:=z;exact⟨vs,by rw[qH hb];exact q,t⟩
   |dcT kvs=>obtain⟨vs,q,t⟩:=z;exact⟨vs,by rw[qH hb];exact q,t⟩
   |ins C fs=>obtain⟨dx,vs,q,t⟩:=z;exact⟨dx,vs,by rw[qH hb];exact q,t⟩
 .by_cases hb:b=a
  .subst hb;rw[qR];intro z;cases z
  .rw[qH hb];exact r.own j b q
end
theorem nn {β : Type}{a:β}{p:Prop}(h:(none:Al β) = Ab a):p:=by cases h
theorem gE {β : Type}{c:Prop}[Jl c]{a b:β}(h:(if c then Ab a else none)=Ab b):c/\a=b:=by
 by_cases z:c
 .rw[Bf z] at h;exact⟨z,Cs h⟩
 .rw[Bb z] at h;exact nn h
end _D
end
namespace _D
open PySem PySem.Spec PyProof.Rows _L
variable {us:Aa Ac}{body:Aa Fq}{vs:Aa V}{u vv:Ac}{p C:Af}{od:Al Af}{sl:Aw (Al Ac)}{R:It->Hp->Prop}{sp:Sp}{S:Sto}{Q:VK}
abbrev DE:=qB->Sto->Res D
abbrev DT:=qB->Sto->Res Ar
abbrev DA:=qB->Sto->Res (Aa D)
inductive Out where
 |nx (env:qB) (S:Sto)|rt (d:D) (S:Sto)|bk (env:qB) (S:Sto)|ct (env:qB) (S:Sto)|ex (c:Ac) (x:D) (env:qB) (S:Sto)|bad
abbrev DS:=qB->Sto->Out
def Old (X:Cx)(pins:Aa (Af × Cj))(H:Hp)(b:Af):Prop:=
 (∃ o,X.s₀.heap.get? b=Ab o)\/H b≠none\/(∃ p∈X.pn++pins,p.1=b)\/∃ x,X.env.cells.lookup x=Ab b
def Cv (X:Cx)(pins:Aa (Af × Cj))(H:Hp)(B h:Bs):Prop:=∀ b o,h.get? b=Ab o->Old X pins H b->b ∉ frs X.stack->B.get? b=Ab o
inductive FlyX (X:Cx)(pins:Aa (Af × Cj))(H:Hp)(c:Ac)(e:Af)(h:Bs):Prop where
 |new (g:Bs) (args:Aa Ac):t0 g h e c args->g.FunFrames X.base X.stack->(∀ b o,h.get? b=Ab o->Old X pins H b->g.get? b=Ab o)->FlyX X pins H c e h
 |fly (B:Bs) (a0:Ac):Xd B X.stack e c a0 h->Cv X pins H B h->FlyX X pins H c e h
inductive XOk (X:Cx)(P:Hp)(α : Aa Af)(c:Ac)(x:D)(S:Sto)(u:Ac)(s:Ag):Prop
 |mk (e:Af) (pins:Aa (Af × Cj)) (σ : _L.St) (H:Hp) (P':Hp) (α' : Aa Af) (e1:u=.ref e) (I:Inv X pins σ H s) (r:Rel X.K H P' α' S) (q1:qD P P') (q2:α<+:α') (q3:X.ex=[]/\X.stack=X.env::X.outer/\X.env.frame=Ab X.env.locals) (q4:FlyX X pins H c e s.heap):XOk X P α c x S u s
theorem XOk.base {X:Cx}{P P1:Hp}{α α1:Aa Af}{c:Ac}{x:D}{s:Ag}(e:qD P P1)(h:α<+:α1)(k:XOk X P1 α1 c x S u s):XOk X P α c x S u s:=by
 obtain⟨a,pins,σ,H,P',α',e1,I,r,q1,q2,q3,q4⟩:=k;exact⟨a,pins,σ,H,P',α',e1,I,r,e.trans q1,h.trans q2,q3,q4⟩
section
variable (X:Cx)
def qG {β:Type}(P:Hp)(α : Aa Af)(r:Res β)(Ok:β->Sto->Prop):Prop:=
 match r with
 |.ok d S'=>Ok d S'
 |.ex c x S'=>∀ u s',XOk X P α c x S' u s'->X.xe u s'
 |.bad=>Fh
def OkV (P:Hp)(α : Aa Af)(Q:VK)(d:D)(S':Sto):Prop:=∀ v H' P' α',Rel X.K H' P' α' S'->qD P P'->α<+:α'->Rep X.K P' α' d v->Q v H'
def OkT (P:Hp)(α : Aa Af)(Q:Ar->Hp->Prop)(b:Ar)(S':Sto):Prop:=∀ H' P' α',Rel X.K H' P' α' S'->qD P P'->α<+:α'->Q b H'
def OkA (P:Hp)(α : Aa Af)(Q:Aa V->Hp->Prop)(ds:Aa D)(S':Sto):Prop:=∀ vs H' P' α',Rel X.K H' P' α' S'->qD P P'->α<+:α'->qC X.K P' α' ds vs->Q vs H'
abbrev qP (P:Hp)(α : Aa Af)(r:Res D)(Q:VK):Prop:=qG X P α r (OkV X P α Q)
abbrev wH (P:Hp)(α : Aa Af)(r:Res Ar)(Q:Ar->Hp->Prop):Prop:=qG X P α r (OkT X P α Q)
abbrev pN (P:Hp)(α : Aa Af)(r:Res (Aa D))(Q:Aa V->Hp->Prop):Prop:=qG X P α r (OkA X P α Q)
def z0 (P:Hp)(α : Aa Af)(r:Out)(D:Ends):Prop:=
 match r with
 |.nx env' S'=>∀ σ' H' P' α',Rel X.K H' P' α' S'->z9 X.K P' α' σ' env'->qD P P'->α<+:α'->D.nx σ' H'
 |.bk env' S'=>∀ σ' H' P' α',Rel X.K H' P' α' S'->z9 X.K P' α' σ' env'->qD P P'->α<+:α'->D.bk σ' H'
 |.ct env' S'=>∀ σ' H' P' α',Rel X.K H' P' α' S'->z9 X.K P' α' σ' env'->qD P P'->α<+:α'->D.ct σ' H'
 |.rt d S'=>∀ v H' P' α',Rel X.K H' P' α' S'->qD P P'->α<+:α'->Rep X.K P' α' d v->D.rt v H'
 |.ex c x _ S'=>∀ u s',XOk X P α c x S' u s'->X.xe u s'
 |.bad=>Fh
inductive tD (f:DE)(σ : _L.St)(H:Hp)(Q:VK):Prop
 |mk (P:Hp) (α : Aa Af) (env:qB) (S:Sto) (r:Rel X.K H P α S) (re:z9 X.K P α σ env) (af:qP X P α (f env S) Q):tD f σ H Q
inductive tDT (f:DT)(σ : _L.St)(H:Hp)(Q:Ar->Hp->Prop):Prop
 |mk (P:Hp) (α : Aa Af) (env:qB) (S:Sto) (r:Rel X.K H P α S) (re:z9 X.K P α σ env) (af:wH X P α (f env S) Q):tDT f σ H Q
inductive tDA (f:DA)(σ : _L.St)(H:Hp)(Q:Aa V->Hp->Prop):Prop
 |mk (P:Hp) (α : Aa Af) (env:qB) (S:Sto) (r:Rel X.K H P α S) (re:z9 X.K P α σ env) (af:pN X P α (f env S) Q):tDA f σ H Q
inductive tDS (f:DS)(D:Ends)(σ : _L.St)(H:Hp):Prop
 |mk (P:Hp) (α : Aa Af) (env:qB) (S:Sto) (r:Rel X.K H P α S) (re:z9 X.K P α σ env) (af:z0 X P α (f env S) D):tDS f D σ H
end
section
variable {X:Cx}{P P1:Hp}{α α1:Aa Af}
theorem qP.base {r:Res D}(e:qD P P1)(h:α<+:α1)(k:qP X P α r Q):qP X P1 α1 r Q:=by
 cases r with
 |ok d S=>exact λv H' P' α' r q1 q2 q3=>k v H' P' α' r (e.trans q1) (h.trans q2) q3
 |ex c x S=>exact λu s' q=>k u s' (q.base e h)
 |bad=>exact k
theorem wH.base {r:Res Ar}{Q:Ar->Hp->Prop}(e:qD P P1)(h:α<+:α1)(k:wH X P α r Q):wH X P1 α1 r Q:=by
 cases r with
 |ok d S=>exact λH' P' α' r q1 q2=>k H' P' α' r (e.trans q1) (h.trans q2)
 |ex c x S=>exact λu s' q=>k u s' (q.base e h)
 |bad=>exact k
theorem pN.base {r:Res (Aa D)}{Q:Aa V->Hp->Prop}(e:qD P P1)(h:α<+:α1)(k:pN X P α r Q):pN X P1 α1 r Q:=by
 cases r with
 |ok d S=>exact λv H' P' α' r q1 q2 q3=>k v H' P' α' r (e.trans q1) (h.trans q2) q3
 |ex c x S=>exact λu s' q=>k u s' (q.base e h)
 |bad=>exact k
theorem z0.base {r:Out}{D:Ends}(e:qD P P1)(h:α<+:α1)(k:z0 X P α r D):z0 X P1 α1 r D:=by
 cases r with
 |nx env S=>exact λv H' P' α' r q0 q1 q2=>k v H' P' α' r q0 (e.trans q1) (h.trans q2)
 |bk env S=>exact λv H' P' α' r q0 q1 q2=>k v H' P' α' r q0 (e.trans q1) (h.trans q2)
 |ct env S=>exact λv H' P' α' r q0 q1 q2=>k v H' P' α' r q0 (e.trans q1) (h.trans q2)
 |rt d S=>exact λv H' P' α' r q1 q2 q3=>k v H' P' α' r (e.trans q1) (h.trans q2) q3
 |ex c x env S=>exact λu s' q=>k u s' (q.base e h)
 |bad=>exact k
theorem xr {v:V}{H:Hp}{d:D}(k:OkV X P α Q d S)(r:Rel X.K H P α S)(q:Rep X.K P α d v):Q v H:=k v H P α r (qD.refl _) (Bg _) q
end
section
variable {X:Cx}{a b e:Bw}{pos:Ey}
theorem peW {t t':TE}(h:PE X e t)(w:∀ σ H Q,t' σ H Q->t σ H Q):PE X e t':=λpins s σ H Q I q=>h pins s σ H Q I (w σ H Q q)
theorem psW {st:Fq}{t t':TS}(h:PS X st t)(w:∀ D σ H,t' D σ H->t D σ H):PS X st t':=λpins s σ H D I q=>h pins s σ H D I (w D σ H q)
theorem RE {st:Aa Fq}{t t':TS}(h:PSs X st t)(w:∀ D σ H,t' D σ H->t D σ H):PSs X st t':=λpins s σ H D I q=>h pins s σ H D I (w D σ H q)
theorem paW {es:Aa Bw}{t t':TA}(h:PA X es t)(w:∀ σ H Q,t' σ H Q->t σ H Q):PA X es t':=λpos pins s σ H Q I q=>h pos pins s σ H Q I (w σ H Q q)
structure Got (X:Cx)(pins:Aa (Af × Cj))(σ : _L.St)(env:qB)(P:Hp)(α : Aa Af)(u:Ac)(s1:Ag)(v:V)(H1 P1:Hp)(α1:Aa Af)(d:D)(S1:Sto):Prop where
 inv:Inv X pins σ H1 s1
 val:qJ v u
 rel:Rel X.K H1 P1 α1 S1
 env:z9 X.K P1 α1 σ env
 rep:Rep X.K P1 α1 d v
 same:qD P P1
 pre:α<+:α1
inductive GotG (X:Cx)(pins:Aa (Af × Cj))(σ : _L.St)(env:qB)(P:Hp)(α : Aa Af)(u:Ac)(s1:Ag){γ : Type}(g:D->Sto->Res γ)(Ok:γ->Sto->Prop):Prop
 |mk (v:V) (H1 P1:Hp) (α1:Aa Af) (d:D) (S1:Sto) (G:Got X pins σ env P α u s1 v H1 P1 α1 d S1) (q:qG X P α (g d S1) Ok):GotG X pins σ env P α u s1 g Ok
inductive GotAG (X:Cx)(pins:Aa (Af × Cj))(σ : _L.St)(env:qB)(P:Hp)(α : Aa Af)(us:Aa Ac)(s1:Ag){γ : Type}(g:Aa D->Sto->Res γ)(Ok:γ->Sto->Prop):Prop
 |mk (vs:Aa V) (H1 P1:Hp) (α1:Aa Af) (ds:Aa D) (S1:Sto) (I:Inv X pins σ H1 s1) (rv:qL vs us) (r:Rel X.K H1 P1 α1 S1) (re:z9 X.K P1 α1 σ env) (rp:qC X.K P1 α1 ds vs) (e1:qD P P1) (e2:α<+:α1) (q:qG X P α (g ds S1) Ok):GotAG X pins σ env P α us s1 g Ok
inductive GotT (X:Cx)(pins:Aa (Af × Cj))(σ : _L.St)(env:qB)(P:Hp)(α : Aa Af)(b:Ar)(s1:Ag){γ : Type}(g:Ar->Sto->Res γ)(Ok:γ->Sto->Prop):Prop
 |mk (H1 P1:Hp) (α1:Aa Af) (S1:Sto) (I:Inv X pins σ H1 s1) (r:Rel X.K H1 P1 α1 S1) (re:z9 X.K P1 α1 σ env) (e1:qD P P1) (e2:α<+:α1) (q:qG X P α (g b S1) Ok):GotT X pins σ env P α b s1 g Ok
theorem zN {γ:Type}{f:DE}{g:D->Sto->Res γ}{Ok:γ->Sto->Prop}{pins:Aa (Af × Cj)}{s:Ag}{σ:_L.St}{H P:Hp}{α:Aa Af}{env:qB}(he:PE X e (tD X f))(I:Inv X pins σ H s)(r:Rel X.K H P α S)
  (re:z9 X.K P α σ env) (af:qG X P α ((f env S).bind g) Ok) :
  Ap (As X.prog X.w) X.A (eval e X.env) (λu s1=>GotG X pins σ env P α u s1 g Ok) X.xe s:=by
 refine thn (he pins s σ H (λv H1=>∃ P1 α1 d S1,Rel X.K H1 P1 α1 S1/\z9 X.K P1 α1 σ env/\Rep X.K P1 α1 d v/\qD P P1/\α<+:α1/\qG X P α (g d S1) Ok) I ⟨P,α,env,S,r,re,?_⟩) λu s1 ⟨v,H1,I1,rv,P1,α1,d,S1,q1,q2,q3,q4,q5,q6⟩=>⟨v,H1,P1,α1,d,S1,⟨I1,rv,q1,q2,q3,q4,q5⟩,q6⟩;cases q:f env S with
 |bad=>rw[q] at af;exact af
 |ex c x S'=>rw[q] at af;exact af
 |ok d S' =>
  rw[q] at af;exact λv H' P' α' r' e1 e2 rp=>⟨P',α',d,S',r',re.mono e1 e2,rp,e1,e2,af⟩
theorem wA {γ:Type}{es:Aa Bw}{f:DA}{g:Aa D->Sto->Res γ}{Ok:γ->Sto->Prop}{pins:Aa (Af × Cj)}{s:Ag}{σ:_L.St}{H P:Hp}{α:Aa Af}{env:qB}(he:PA X es (tDA X f))(I:Inv X pins σ H s)(r:Rel X.K H P α S)
  (re:z9 X.K P α σ env) (af:qG X P α ((f env S).bind g) Ok) (pos:Ey) :
  Ap (As X.prog X.w) X.A (spliced (Ft pos (Bm es X.env))) (λus s1=>GotAG X pins σ env P α us s1 g Ok) X.xe s:=by
 refine thn (he pos pins s σ H (λvs H1=>∃ P1 α1 ds S1,Rel X.K H1 P1 α1 S1/\z9 X.K P1 α1 σ env/\qC X.K P1 α1 ds vs/\qD P P1/\α<+:α1/\qG X P α (g ds S1) Ok) I ⟨P,α,env,S,r,re,?_⟩) λu s1 ⟨v,H1,I1,rv,P1,α1,d,S1,q1,q2,q3,q4,q5,q6⟩=>⟨v,H1,P1,α1,d,S1,I1,rv,q1,q2,q3,q4,q5,q6⟩;cases q:f env S with
 |bad=>rw[q] at af;exact af
 |ex c x S'=>rw[q] at af;exact af
 |ok d S' =>
  rw[q] at af;exact λv H' P' α' r' e1 e2 rp=>⟨P',α',d,S',r',re.mono e1 e2,rp,e1,e2,af⟩
theorem kB {γ:Type}{f:DT}{g:Ar->Sto->Res γ}{Ok:γ->Sto->Prop}{pins:Aa (Af × Cj)}{s:Ag}{σ:_L.St}{H P:Hp}{α:Aa Af}{env:qB}{m:Ke Ar}
  (he:∀ (Q:Ar->Hp->Prop),tDT X f σ H Q->Ap (As X.prog X.w) X.A m (TP X pins σ Q) X.xe s) (r:Rel X.K H P α S) (re:z9 X.K P α σ env) (af:qG X P α ((f env S).bind g) Ok) :
  Ap (As X.prog X.w) X.A m (λb s1=>GotT X pins σ env P α b s1 g Ok) X.xe s:=by
 refine thn (he (λb H1=>∃ P1 α1 S1,Rel X.K H1 P1 α1 S1/\z9 X.K P1 α1 σ env/\qD P P1/\α<+:α1/\qG X P α (g b S1) Ok) ⟨P,α,env,S,r,re,?_⟩) λb s1 ⟨H1,I1,P1,α1,S1,q1,q2,q4,q5,q6⟩=>⟨H1,P1,α1,S1,I1,q1,q2,q4,q5,q6⟩;cases q:f env S with
 |bad=>rw[q] at af;exact af
 |ex c x S'=>rw[q] at af;exact af
 |ok d S' =>
  rw[q] at af;exact λH' P' α' r' e1 e2=>⟨P',α',S',r',re.mono e1 e2,e1,e2,af⟩
def dC (d:D):DE:=λ_ S=>.ok d S
def q9 (i:Ai):DE:=λenv S=>match env[i]? with
 |some (Ab d)=>.ok d S
 |_=>.bad
theorem NK:PE X (.Constant (.int i) j pos) (tD X (dC (.int i))):=peW R6 λσ H Q ⟨P,α,env,S,r,re,af⟩=>xr af r (by simp only[Rep])
theorem HM:PE X (.Constant (.bool i) j pos) (tD X (dC (.bl i))):=peW AB λσ H Q ⟨P,α,env,S,r,re,af⟩=>xr af r (by simp only[Rep])
theorem NP:PE X (.Constant (.str i) j pos) (tD X (dC (.str i))):=peW R8 λσ H Q ⟨P,α,env,S,r,re,af⟩=>xr af r (by simp only[Rep])
set_option tactic.hygienic true in
theorem ML {i:Ai}{σ:_L.St}{H:Hp}(h:tD X (q9 i) σ H Q):EM i σ H Q:=by
 obtain⟨P,α,env,S,r,re,af⟩:=h;unfold q9 at af
 split at af
 .rename_i d q
  obtain⟨v,h1,h2⟩:=re.2 i d q;exact⟨v,h1,xr af r h2⟩
 .exact Ao af
theorem dv (i:Ai){x:Aq}(hN:X.N[i]? = Ab x:=by rfl)(hv:Vis X.env.scope x:=by first|exact x0 rfl|exact Yv (x0 rfl)|exact Yv (Yv rfl))(hd:(x == ("__debug__" : Aq))=false:=by decide)
  (hcd:(x == ("__classdict__" : Aq))=false:=by decide):PE X (.Name x pos) (tD X (q9 i)):=peW (WQ hN hv hd hcd) λσ H Q h=>ML h
theorem GU {x:Aq}{d:D}{v:V}(hg:Gl X x)(hm:X.mg x=Ab u)(r:qJ v u)(q:∀ P α,Rep X.K P α d v)(hd:(x == ("__debug__" : Aq))=false:=by decide):PE X (.Name x pos) (tD X (dC d)):=
 peW (FB hg hm r hd) λσ H Q ⟨P,α,env,S,r,re,af⟩=>xr af r (q _ _)
theorem GS {x:Aq}{n:Em}(hg:Gl X x)(hm:X.mg x=none)(hv:Fu x=Ab (.type n))(hn:x ≠ "__name__":=by decide)(hd:(x == ("__debug__" : Aq))=false:=by decide):PE X (.Name x pos) (tD X (dC (.ty n))):=
 peW (FA (v:=.ty n) hg hm hv rfl hn hd) λσ H Q ⟨P,α,env,S,r,re,af⟩=>xr af r (by simp only[Rep])
abbrev G2:=D->D->Sto->Res D
def OpD (X:Cx)(f:Ac->Ac->Ke Ac)(g:G2):Prop:=
 ∀ (pins:Aa (Af × Cj)) (σ : _L.St) (H:Hp) (s:Ag) (P:Hp) (α : Aa Af) (S:Sto) (v u:V) (vv uu:Ac) (a b:D) (Q:VK),Inv X pins σ H s->Rel X.K H P α S->qJ v vv->qJ u uu->Rep X.K P α a v->Rep X.K P α b u->qP X P α (g a b S) Q ->
  Ap (As X.prog X.w) X.A (f vv uu) (EP X pins σ Q) X.xe s
theorem OpD.of {f:Ac->Ac->Ke Ac}{r:R2}{g:G2}(h:OpR X f r)(w:∀ H P α S v u a b Q,Rel X.K H P α S->Rep X.K P α a v->Rep X.K P α b u->qP X P α (g a b S) Q->r v u H Q):OpD X f g:=
 λpins σ H s P α S v u vv uu a b Q I rl r1 r2 p1 p2 af=>h pins s σ H v u vv uu Q I r1 r2 (w H P α S v u a b Q rl p1 p2 af)
def UnD (X:Cx)(f:Ac->Ke Ac)(g:D->Sto->Res D):Prop:=
 ∀ (pins:Aa (Af × Cj)) (σ : _L.St) (H:Hp) (s:Ag) (P:Hp) (α : Aa Af) (S:Sto) (v:V) (vv:Ac) (a:D) (Q:VK),Inv X pins σ H s->Rel X.K H P α S->qJ v vv->Rep X.K P α a v->qP X P α (g a S) Q ->
  Ap (As X.prog X.w) X.A (f vv) (EP X pins σ Q) X.xe s
def IxD (X:Cx)(g:G2):Prop:=
 ∀ (value slice:Bw) (pins:Aa (Af × Cj)) (σ : _L.St) (H:Hp) (s:Ag) (P:Hp) (α : Aa Af) (S:Sto) (v u:V) (vv uu:Ac) (a b:D) (Q:VK),Inv X pins σ H s->Rel X.K H P α S->qJ v vv->qJ u uu->Rep X.K P α a v->Rep X.K P α b u->qP X P α (g a b S) Q ->
  subscripted slice false vv uu=operate [vv,uu] (My vv uu)->Ap (As X.prog X.w) X.A (Rj value slice vv uu) (EP X pins σ Q) X.xe s
def xA (X:Cx)(f:Ac)(g:Aa D->Sto->Res D):Prop:=
 ∀ (pins:Aa (Af × Cj)) (σ : _L.St) (H:Hp) (s:Ag) (P:Hp) (α : Aa Af) (S:Sto) (vs:Aa V) (us:Aa Ac) (ds:Aa D) (Q:VK),Inv X pins σ H s->Rel X.K H P α S->qL vs us->qC X.K P α ds vs->qP X P α (g ds S) Q ->
  Ap (As X.prog X.w) X.A (call f us) (EP X pins σ Q) X.xe s
def d2 (g:G2)(fa fb:DE):DE:=λenv S=>(fa env S).bind λx S1=>(fb env S1).bind λy S2=>g x y S2
def d1 (g:D->Sto->Res D)(fa:DE):DE:=λenv S=>(fa env S).bind g
variable {fa fb:DE}
theorem rX {g:G2}{f:Ac->Ac->Ke Ac}{pins:Aa (Af × Cj)}{s:Ag}{σ:_L.St}{H:Hp}(ho:OpD X f g)(ha:PE X a (tD X fa))(hb:PE X b (tD X fb))(I:Inv X pins σ H s)(h:tD X (d2 g fa fb) σ H Q) :
  Ap (As X.prog X.w) X.A (eval a X.env) (λv s₁=>Ap (As X.prog X.w) X.A (eval b X.env) (λu s₂=>Ap (As X.prog X.w) X.A (f v u) (EP X pins σ Q) X.xe s₂) X.xe s₁) X.xe s:=by
 obtain⟨P,α,env,S,r,re,af⟩:=h;refine thn (zN ha I r re af) λvv s1 ⟨v,H1,P1,α1,d,S1,G1,af1⟩=>?_;refine thn (zN hb G1.inv G1.rel G1.env (P:=P1) (α:=α1) (Ok:=OkV X P1 α1 Q) (g:=λy S2=>g d y S2) ?_) λuu s2 ⟨u,H2,P2,α2,d',S2,G2,af2⟩=>?_
 .exact qP.base G1.same G1.pre af1
 .exact ho pins σ H2 s2 P2 α2 S2 v u vv uu d d' Q G2.inv G2.rel G1.val G2.val (Rep.mono G2.same G2.pre _ _ G1.rep) G2.rep (qP.base G2.same G2.pre af2)
theorem HR {op:Operator}{g:G2}(ho:OpD X (Ff op) g)(ha:PE X a (tD X fa))(hb:PE X b (tD X fb)):PE X (.BinOp a op b pos) (tD X (d2 g fa fb)):=
 λpins s σ H Q I h=>wpAny_BinOp (rX ho ha hb I h)
theorem NH {op:Vo}{g:G2}(ho:OpD X (Ct op) g)(ha:PE X a (tD X fa))(hb:PE X b (tD X fb))(hm:Ls op b=false:=by first|exact bA _|with_unfolding_all rfl):PE X (.Compare a [op] [b] pos) (tD X (d2 g fa fb)):=
 λpins s σ H Q I h=>wpAny_Compare1 (rX ho ha hb I h) hm
theorem HS {op:UnaryOp}{g:D->Sto->Res D}(ho:UnD X (Yp op) g)(ha:PE X a (tD X fa)):PE X (.UnaryOp op a pos) (tD X (d1 g fa)):=by
 intro pins s σ H Q I h;obtain⟨P,α,env,S,r,re,af⟩:=h;exact UnaryOp_ (thn (zN ha I r re af) λvv s1 ⟨v,H1,P1,α1,d,S1,G1,af1⟩=>ho pins σ H1 s1 P1 α1 S1 v vv d Q G1.inv G1.rel G1.val G1.rep (qP.base G1.same G1.pre af1))
theorem HQ {g:G2}(ho:IxD X g)(ha:PE X a (tD X fa))(hb:PE X b (tD X fb))(hs:nK b:=by intro _ _;rfl):PE X (.Subscript a b pos) (tD X (d2 g fa fb)):=by
 intro pins s σ H Q I h;obtain⟨P,α,env,S,r,re,af⟩:=h;have IxR':IxR X (λx y H Q=>∃ P α S a b,Rel X.K H P α S/\Rep X.K P α a x/\Rep X.K P α b y/\qP X P α (g a b S) Q):=λvalue slice pins s σ H x y v u Q I rx ry ⟨P,α,S,a,b,r,p1,p2,af⟩ hsl =>
  ho value slice pins σ H s P α S x y v u a b Q I r rx ry p1 p2 af hsl
 refine peW (AC IxR' ha hb hs) (t':=tD X (d2 g fa fb)) (λσ H Q h=>?_) pins s σ H Q I ⟨P,α,env,S,r,re,af⟩;obtain⟨P,α,env,S,r,re,af⟩:=h;refine⟨P,α,env,S,r,re,?_⟩;unfold d2 at af;cases q:fa env S with
 |bad=>rw[q] at af;exact af
 |ex c x S'=>rw[q] at af;exact af
 |ok d S1 =>
  rw[q] at af;intro v H1 P1 α1 r1 e1 e2 rp;refine⟨P1,α1,env,S1,r1,re.mono e1 e2,?_⟩;have af':qP X P α ((fb env S1).bind λy S2=>g d y S2) Q:=af;cases q2:fb env S1 with
  |bad=>rw[q2] at af';exact af'
  |ex c x S'=>rw[q2] at af';exact λu s' z=>af' u s' (z.base e1 e2)
  |ok d' S2 =>
   rw[q2] at af';intro u H2 P2 α2 r2 e3 e4 rp2;exact⟨P2,α2,S2,d,d',r2,Rep.mono e3 e4 _ _ rp,rp2,qP.base (e1.trans e3) (e2.trans e4) af'⟩
def qA:DA:=λ_ S=>.ok [] S
def q8 (f:DE)(g:DA):DA:=λenv S=>(f env S).bind λx S1=>(g env S1).bind λxs S2=>.ok (x::xs) S2
theorem NB:PA X [] (tDA X qA):=paW R5 λσ H Q ⟨P,α,env,S,r,re,af⟩=>af [] H P α r (qD.refl _) (Bg _) .nil
theorem GR {es:Aa Bw}{g:DA}(ha:PE X e (tD X fa))(hr:PA X es (tDA X g))(hs:Bm (e::es) X.env=(false,eval e X.env)::Bm es X.env:=by rfl):PA X (e::es) (tDA X (q8 fa g)):=by
 intro pos pins s σ H Q I h;obtain⟨P,α,env,S,r,re,af⟩:=h;rw[hs];show Ap _ _ (spliced ((false,eval e X.env)::Ft pos (Bm es X.env))) _ _ s;refine Mq (thn (zN ha I r re af) λu s1 ⟨x,H1,P1,α1,d,S1,G1,af1⟩=>?_);refine thn (wA hr G1.inv G1.rel G1.env (P:=P1) (α:=α1) (Ok:=OkA X P1 α1 Q) (pN.base G1.same G1.pre af1) pos) λus s2 ⟨xs,H2,P2,α2,ds,S2,I2,rv,r2,re2,rp2,e1,e2,af2⟩=>?_;exact⟨x::xs,H2,I2,.cons G1.val rv,af2 _ _ _ _ r2 e1 e2 (.cons (Rep.mono e1 e2 _ _ G1.rep) rp2)⟩
def lim:Ai:=16777216
theorem zV:lim=sizeLine:=Fg.symm
def vS (f:DA):DE:=λenv S=>(f env S).bind λxs S1=>if xs.length<=lim then .ok (.tup xs) S1 else .bad
def nQ (f:DA):DE:=λenv S=>(f env S).bind λxs S1=>if xs.length<=lim then .ok (.lst xs) S1 else .bad
def kX (f:DA):DE:=λenv S=>(f env S).bind λxs S1=>if xs.length<=lim then .ok (.loc S1.length) (S1++[.lst xs]) else .bad
theorem fE {K:Aj}{P:Hp}{α:Aa Af}{a:Af}{ds:Aa D}(h:SqT K P a vs)(r:qC K P α ds vs):Rep K P α (.tup ds) (.ref a):=by simp only[Rep];exact⟨a,vs,rfl,h,r⟩
theorem lT {K:Aj}{P:Hp}{α:Aa Af}{a:Af}{ds:Aa D}(h:SqX K P a vs)(r:qC K P α ds vs):Rep K P α (.lst ds) (.ref a):=by simp only[Rep];exact⟨a,vs,rfl,h,r⟩
theorem gR {H P:Hp}{α:Aa Af}{ds:Aa D}(r:Rel X.K H P α S)(hp:H p=none)(rp:qC X.K P α ds vs)(af:OkV X P α Q (.tup ds) S):Q (.ref p) (upd H p (.tup vs)):=by
 obtain⟨r1,e1⟩:=r.pure (o:=.tup vs) hp;exact af _ _ _ α r1 e1 (Bg _) (fE (.of qR) (qC.mono e1 (Bg _) _ _ rp))
theorem wO {H P:Hp}{α:Aa Af}{ds:Aa D}(r:Rel X.K H P α S)(hp:H p=none)(rp:qC X.K P α ds vs)(af:OkV X P α Q (.lst ds) S):Q (.ref p) (upd H p (.lst vs)):=by
 obtain⟨r1,e1⟩:=r.pure (o:=.lst vs) hp;exact af _ _ _ α r1 e1 (Bg _) (lT (.inl (.inl qR)) (qC.mono e1 (Bg _) _ _ rp))
theorem lO {H P:Hp}{α:Aa Af}{ds:Aa D}(r:Rel X.K H P α S)(hp:H p=none)(rp:qC X.K P α ds vs)(af:OkV X P α Q (.loc S.length) (S++[.lst ds])):Q (.ref p) (upd H p (.lst vs)):=by
 have hpre:α<+:α++[p]:=Mp _ _;have r1:=r.new (o:=.lst vs) (m:=.lst ds) hp ⟨vs,qR,qC.mono (qD.refl _) hpre _ _ rp⟩;refine af _ _ _ _ r1 (qD.refl _) hpre ?_;simp only[Rep];exact⟨p,rfl,by rw[<- r.len];simp⟩
theorem nU {f:DA}{σ:_L.St}{H:Hp}{G:Aa D->Sto->Res D}{mk:Aa V->HO}(h:tD X (λenv S=>(f env S).bind λxs S1=>if xs.length<=lim then G xs S1 else .bad) σ H Q)
  (k:∀ H1 P1 α1 S1 ds vs p,Rel X.K H1 P1 α1 S1->H1 p=none->qC X.K P1 α1 ds vs->qP X P1 α1 (G ds S1) Q->Q (.ref p) (upd H1 p (mk vs))) :
  tDA X f σ H λvs H1=>vs.length<=sizeLine/\∀ p,H1 p=none->Q (.ref p) (upd H1 p (mk vs)):=by
 obtain⟨P,α,env,S,r,re,af⟩:=h;refine⟨P,α,env,S,r,re,?_⟩;have af':qP X P α ((f env S).bind λxs S1=>if xs.length<=lim then G xs S1 else .bad) Q:=af
 cases q:f env S with
 |bad=>rw[q] at af';exact af'
 |ex c x S'=>rw[q] at af';exact af'
 |ok ds S1 =>
  rw[q] at af';intro vs H1 P1 α1 r1 e1 e2 rp;have af2:qP X P α (if ds.length<=lim then G ds S1 else .bad) Q:=af'
  by_cases hl:ds.length<=lim
  .rw[Bf hl] at af2
   exact⟨by rw[<- rp.length,<- zV];exact hl,λp hp=>k H1 P1 α1 S1 ds vs p r1 hp rp (qP.base e1 e2 af2)⟩
  .rw[Bb hl] at af2;exact Ao af2
theorem NQ {es:Aa Bw}{f:DA} {x1} (h:PA X es (tDA X f)):PE X (.Tuple es x1 pos) (tD X (vS f)):=
 peW (R9 h) λσ H Q q=>nU (G:=λxs S1=>.ok (.tup xs) S1) (mk:=.tup) q λH1 P1 α1 S1 ds vs p r hp rp af=>gR r hp rp af
theorem NM {es:Aa Bw}{f:DA}(h:PA X es (tDA X f)):PE X (.List es pos) (tD X (nQ f)):=
 peW (WO h) λσ H Q q=>nU (G:=λxs S1=>.ok (.lst xs) S1) (mk:=.lst) q λH1 P1 α1 S1 ds vs p r hp rp af=>wO r hp rp af
theorem GW {es:Aa Bw}{f:DA}(h:PA X es (tDA X f)):PE X (.List es pos) (tD X (kX f)):=
 peW (WO h) λσ H Q q=>nU (G:=λxs S1=>.ok (.loc S1.length) (S1++[MO.lst xs])) (mk:=.lst) q λH1 P1 α1 S1 ds vs p r hp rp af=>lO r hp rp af
end
section
variable {X:Cx}{a b c e:Bw}{pos:Ey}{fa fb fc:DE}{ta tb:DT}
def x5:D->Sto->Al Ar
 |.non,_=>Ab false
 |.bl b,_=>Ab b
 |.int i,_=>Ab (i != 0)
 |.str x,_=>if x.length<=lim then Ab ((x.length:Ak) != 0) else none
 |.tup xs,_=>Ab (!xs.isEmpty)
 |.lst xs,_=>Ab (!xs.isEmpty)
 |.dct0,_=>Ab false
 |.loc i,S=>match S[i]? with
  |some (.lst xs)=>Ab (!xs.isEmpty)
  |some (.dct kvs)=>Ab (!kvs.isEmpty)
  |_=>none
 |_,_=>none
theorem qC.isEmpty {K:Aj}{P:Hp}{α:Aa Af}{ds:Aa D}(r:qC K P α ds vs):(!ds.isEmpty)=!vs.isEmpty:=by
 cases ds with
 |nil=>rw[r.nil_inv];rfl
 |cons d ds=>obtain⟨w,ws,rfl,_,_⟩:=r.cons_inv;rfl
theorem xZ {K:Aj}{H P:Hp}(e:qD P H){a:Af}{xs:Aa V}(h:SqT K P a xs):SqT K H a xs:=wQ e h
theorem uD {H P:Hp}{α:Aa Af}{v:V}{d:D}{k:Ar}(r:Rel X.K H P α S)(p:Rep X.K P α d v)(h:x5 d S=Ab k):oV X.K v H k:=by
 cases d with
 |non=>simp only[Rep] at p;subst p;cases h;rfl
 |bl b=>simp only[Rep] at p;subst p;cases h;rfl
 |int i=>simp only[Rep] at p;subst p;cases h;rfl
 |str x =>
  simp only[Rep] at p;subst p;obtain⟨hl,rfl⟩:=gE h;exact⟨by rw[<- zV];exact hl,rfl⟩
 |tup xs =>
  simp only[Rep] at p;obtain⟨a,vs,rfl,q,t⟩:=p;cases h;exact .inr (.inl ⟨vs,xZ r.sub q,t.isEmpty⟩)
 |lst xs =>
  simp only[Rep] at p;obtain⟨a,vs,rfl,q,t⟩:=p;cases h;exact .inl ⟨vs,(xH r.sub q).l,t.isEmpty⟩
 |dct0 =>
  simp only[Rep] at p;obtain⟨a,rfl,q⟩:=p;cases h;exact .inr (.inr ⟨[],r.sub _ _ q,rfl⟩)
 |loc i =>
  simp only[Rep] at p;obtain⟨a,rfl,q⟩:=p;have h:(match S[i]? with|some (.lst xs)=>Ab (!xs.isEmpty)|some (.dct kvs)=>Ab (!kvs.isEmpty)|_=>none)=Ab k:=h
  cases hs:S[i]? with
  |none=>rw[hs] at h;exact nn h
  |some m =>
   rw[hs] at h;cases m with
   |lst xs =>
    cases h;obtain⟨vs,z,t⟩:=r.at' i a _ q hs;exact .inl ⟨vs,.of z,t.isEmpty⟩
   |dct kvs =>
    cases h;obtain⟨vs,z,t⟩:=r.at' i a _ q hs;refine .inr (.inr ⟨vs,z,?_⟩);cases t <;> rfl
   |_=>exact nn h
 |ty n=>exact nn h
 |obj a=>exact nn h
 |exn c=>exact nn h
 |fd ks ds=>exact nn h
 |clo a vs ds=>exact nn h
theorem G7 {pins:Aa (Af × Cj)}{s:Ag}{σ:_L.St}{H P:Hp}{α:Aa Af}{v:V}{d:D}{k:Ar}{Q:Ar->Hp->Prop}(I:Inv X pins σ H s)(r:Rel X.K H P α S)(rv:qJ v vv)(p:Rep X.K P α d v)(h:x5 d S=Ab k)(q:Q k H) :
  Ap (As X.prog X.w) X.A (truthy vv) (TP X pins σ Q) X.xe s:=bL pins s σ H v vv Q I rv ⟨k,uD r p h,q⟩
def uV (o:Al Ar)(S:Sto):Res Ar:=match o with
 |some b=>.ok b S
 |none=>.bad
def dTr (f:DE):DT:=λenv S=>(f env S).bind λd S1=>uV (x5 d S1) S1
theorem lV {o:Al Ar}{P:Hp}{α:Aa Af}{Ok:Ar->Sto->Prop}(h:qG X P α (uV o S) Ok):∃ b,o=Ab b/\Ok b S:=by
 cases o with
 |none=>exact Ao h
 |some b=>exact⟨b,rfl,h⟩
theorem L9 (ha:PE X a (tD X fa))(he:∀ whole,isTrue a X.env whole=(do let v <- whole;Rl a.pos;holding [v] (truthy v)):=by intro _;rfl):PT X a (tDT X (dTr fa)):=by
 intro pins s σ H Q I h;obtain⟨P,α,env,S,r,re,af⟩:=h;refine isTrue_plain (thn (zN ha I r re af) λvv s1 ⟨v,H1,P1,α1,d,S1,G1,af1⟩=>?_) (he _);obtain⟨k,e1,q⟩:=lV af1;exact G7 G1.inv G1.rel G1.val G1.rep e1 (q H1 P1 α1 G1.rel G1.same G1.pre)
theorem L7 {op:Vo}{g:G2}(ho:OpD X (Ct op) g)(ha:PE X a (tD X fa))(hb:PE X b (tD X fb))(hm:Ls op b=false:=by first|exact bA _|with_unfolding_all rfl):PT X (.Compare a [op] [b] pos) (tDT X (dTr (d2 g fa fb))):=by
 intro pins s σ H Q I h;obtain⟨P,α,env,S,r,re,af⟩:=h;refine wpAny_isTrue_Compare1 ?_ hm;have key:tD X (d2 g fa fb) σ H (λv H1=>∃ k,oV X.K v H1 k/\Q k H1):=by
  refine⟨P,α,env,S,r,re,?_⟩;have af':qG X P α ((d2 g fa fb env S).bind λd S1=>uV (x5 d S1) S1) (OkT X P α Q):=af;cases q:d2 g fa fb env S with
  |bad=>rw[q] at af';exact af'
  |ex c x S'=>rw[q] at af';exact af'
  |ok d S1 =>
   rw[q] at af';obtain⟨k,e1,qk⟩:=lV (X:=X) af';exact λv H1 P1 α1 r1 e3 e4 rp=>⟨k,uD r1 rp e1,qk H1 P1 α1 r1 e3 e4⟩
 exact thn (rX ho ha hb I key) λv s1 h1=>thn h1 λu s2 h2=>thn h2 λx s3 ⟨y,H3,I3,r3,k,tk,qk⟩=>bL pins s3 σ H3 y x Q I3 r3 ⟨k,tk,qk⟩
def xU (g g':G2)(fa fb fc:DE):DE:=λenv S=>(fa env S).bind λx S1=>(fb env S1).bind λy S2=>(g x y S2).bind λz S3 =>
 match x5 z S3 with
 |some true=>(fc env S3).bind λw S4=>g' y w S4
 |some false=>.ok z S3
 |none=>.bad
inductive GotO (X:Cx)(pins:Aa (Af × Cj))(σ : _L.St)(P:Hp)(α : Aa Af)(w:Ac)(s1:Ag){γ : Type}(k:D->Sto->Res γ)(Ok:γ->Sto->Prop):Prop
 |mk (y:V) (H1 P1:Hp) (α1:Aa Af) (d:D) (S1:Sto) (I:Inv X pins σ H1 s1) (rv:qJ y w) (r:Rel X.K H1 P1 α1 S1) (rp:Rep X.K P1 α1 d y) (e1:qD P P1) (e2:α<+:α1) (q:qG X P α (k d S1) Ok):GotO X pins σ P α w s1 k Ok
theorem c5 {γ:Type}{f:Ac->Ac->Ke Ac}{g:G2}{k:D->Sto->Res γ}{Ok:γ->Sto->Prop}{pins:Aa (Af × Cj)}{σ:_L.St}{H:Hp}{s:Ag}{P:Hp}{α:Aa Af}{v u:V}{uu:Ac}{a b:D}(ho:OpD X f g)(I:Inv X pins σ H s)(r:Rel X.K H P α S)
  (rv:qJ v vv) (ru:qJ u uu) (pa:Rep X.K P α a v) (pb:Rep X.K P α b u) (af:qG X P α ((g a b S).bind k) Ok) :
  Ap (As X.prog X.w) X.A (f vv uu) (λw s1=>GotO X pins σ P α w s1 k Ok) X.xe s:=by
 refine thn (ho pins σ H s P α S v u vv uu a b (λy H1=>∃ P1 α1 d S1,Rel X.K H1 P1 α1 S1/\Rep X.K P1 α1 d y/\qD P P1/\α<+:α1/\qG X P α (k d S1) Ok) I r rv ru pa pb ?_) λw s1 ⟨y,H1,I1,r1,P1,α1,d,S1,q1,q2,q3,q4,q5⟩=>⟨y,H1,P1,α1,d,S1,I1,r1,q1,q2,q3,q4,q5⟩;cases q:g a b S with
 |bad=>rw[q] at af;exact af
 |ex c x S'=>rw[q] at af;exact af
 |ok d S' =>
  rw[q] at af;exact λv H' P' α' r' e1 e2 rp=>⟨P',α',d,S',r',rp,e1,e2,af⟩
theorem qG.base' {β:Type}{P P1:Hp}{α α1:Aa Af}{r:Res β}{Ok Ok1:β->Sto->Prop}(e:qD P P1)(h:α<+:α1)(ho:∀ d S,Ok d S->Ok1 d S)(k:qG X P α r Ok):qG X P1 α1 r Ok1:=by
 cases r with
 |ok d S=>exact ho d S k
 |ex c x S=>exact λu s' q=>k u s' (q.base e h)
 |bad=>exact k
theorem V2 {op op':Vo}{g g':G2}(ho:OpD X (Ct op) g)(ho':OpD X (Ct op') g')(ha:PE X a (tD X fa))(hb:PE X b (tD X fb))(hc:PE X c (tD X fc))
  (hm:Xw [op,op'] [b,c]=false:=by with_unfolding_all rfl):PE X (.Compare a [op,op'] [b,c] pos) (tD X (xU g g' fa fb fc)):=by
 intro pins s σ H Q I h;obtain⟨P,α,env,S,r,re,af⟩:=h;refine Compare_chain (thn (zN ha I r re af) λvv s1 ⟨v,H1,P1,α1,d,S1,G1,af1⟩=>chain_link (thn (zN hb G1.inv G1.rel G1.env (qP.base G1.same G1.pre af1)) λuu s2 ⟨u,H2,P2,α2,d',S2,G2,af2⟩ =>
  thn (c5 ho G2.inv G2.rel G1.val G2.val (Rep.mono G2.same G2.pre _ _ G1.rep) G2.rep (qP.base G2.same G2.pre af2)) λw s3 ⟨y,H3,P3,α3,z,S3,I3,r3,rl3,rp3,e3,e4,af3⟩=>?_)) hm
 cases ht:x5 z S3 with
 |none=>simp only[ht] at af3;exact Ao af3
 |some k =>
  simp only[ht] at af3;have tv:=uD rl3 rp3 ht;refine thn (bL pins s3 σ H3 y w (λk' H'=>k'=k/\H'=H3) I3 r3 ⟨k,tv,rfl,rfl⟩) λk' s4 ⟨H4,I4,hk,hH⟩=>?_;subst hk;subst hH;cases k' with
  |false=>exact ite_ff ⟨y,H4,I4,r3,af3 y H4 P3 α3 rl3 e3 e4 rp3⟩
  |true =>
   refine ite_tt (chain_last (thn (zN hc I4 rl3 (G2.env.mono e3 e4) (qP.base e3 e4 af3)) λww s5 ⟨w',H5,P5,α5,d5,S5,G5,af5⟩=>?_));exact ho' pins σ H5 s5 P5 α5 S5 u w' uu ww d' d5 Q G5.inv G5.rel G2.val G5.val (Rep.mono (e3.trans G5.same) (e4.trans G5.pre) _ _ G2.rep) G5.rep (qP.base G5.same G5.pre af5)
theorem VD {op op':Vo}{g g':G2}(ho:OpD X (Ct op) g)(ho':OpD X (Ct op') g')(ha:PE X a (tD X fa))(hb:PE X b (tD X fb))(hc:PE X c (tD X fc))
  (hm:Xw [op,op'] [b,c]=false:=by with_unfolding_all rfl):PT X (.Compare a [op,op'] [b,c] pos) (tDT X (dTr (xU g g' fa fb fc))):=by
 intro pins s σ H Q I h;obtain⟨P,α,env,S,r,re,af⟩:=h;have af':qG X P α ((xU g g' fa fb fc env S).bind λd S1=>uV (x5 d S1) S1) (OkT X P α Q):=af;have assoc:(xU g g' fa fb fc env S).bind (λd S1=>uV (x5 d S1) S1)=(fa env S).bind λx S1=>(fb env S1).bind λy S2=>(g x y S2).bind λz S3 =>
   match x5 z S3 with
   |some true=>((fc env S3).bind λw S4=>g' y w S4).bind λd S1=>uV (x5 d S1) S1
   |some false=>.ok false S3
   |none=>.bad:=by
  unfold xU;cases fa env S with
  |bad=>rfl
  |ex _ _ _=>rfl
  |ok x S1 =>
   show Res.bind (Res.bind (fb env S1) _) _=Res.bind (fb env S1) _;cases fb env S1 with
   |bad=>rfl
   |ex _ _ _=>rfl
   |ok y S2 =>
    show Res.bind (Res.bind (g x y S2) _) _=Res.bind (g x y S2) _;cases g x y S2 with
    |bad=>rfl
    |ex _ _ _=>rfl
    |ok z S3 =>
     show Res.bind (match x5 z S3 with|some true=>(fc env S3).bind λw S4=>g' y w S4|some false=>.ok z S3|none=>.bad) _=_
     cases ht:x5 z S3 with
     |none=>simp only[ht,Res.bind]
     |some k=>cases k <;> simp only[ht,Res.bind,uV]
 rw[assoc] at af';refine isTrue_chain (thn (zN ha I r re af') λvv s1 ⟨v,H1,P1,α1,d,S1,G1,af1⟩=>test_link (thn (zN hb G1.inv G1.rel G1.env (wH.base G1.same G1.pre af1)) λuu s2 ⟨u,H2,P2,α2,d',S2,G2,af2⟩ =>
  thn (c5 ho G2.inv G2.rel G1.val G2.val (Rep.mono G2.same G2.pre _ _ G1.rep) G2.rep (wH.base G2.same G2.pre af2)) λw s3 ⟨y,H3,P3,α3,z,S3,I3,r3,rl3,rp3,e3,e4,af3⟩=>?_)) hm
 cases ht:x5 z S3 with
 |none=>simp only[ht] at af3;exact Ao af3
 |some k =>
  simp only[ht] at af3;have tv:=uD rl3 rp3 ht;refine thn (bL pins s3 σ H3 y w (λk' H'=>k'=k/\H'=H3) I3 r3 ⟨k,tv,rfl,rfl⟩) λk' s4 ⟨H4,I4,hk,hH⟩=>?_;subst hk;subst hH;cases k' with
  |false=>exact ite_ff ⟨H4,I4,af3 H4 P3 α3 rl3 e3 e4⟩
  |true =>
   have af4:qG X P2 α2 ((fc env S3).bind λw S4=>(g' d' w S4).bind λd S1=>uV (x5 d S1) S1) (OkT X P2 α2 Q):=by
    have e:((fc env S3).bind λw S4=>(g' d' w S4).bind λd S1=>uV (x5 d S1) S1)=(((fc env S3).bind λw S4=>g' d' w S4).bind λd S1=>uV (x5 d S1) S1):=by
     cases fc env S3 <;> rfl
    rw[e];exact af3
   refine ite_tt (test_last (thn (zN hc I4 rl3 (G2.env.mono e3 e4) (wH.base e3 e4 af4)) λww s5 ⟨w',H5,P5,α5,d5,S5,G5,af5⟩ =>
    thn (c5 ho' G5.inv G5.rel G2.val G5.val (Rep.mono (e3.trans G5.same) (e4.trans G5.pre) _ _ G2.rep) G5.rep (wH.base G5.same G5.pre af5)) λx6 s6 ⟨y6,H6,P6,α6,d6,S6,I6,r6,rl6,rp6,e5,e6,af6⟩=>?_))
   obtain⟨k6,q6,z6⟩:=lV af6;exact G7 I6 rl6 r6 rp6 q6 (z6 H6 P6 α6 rl6 e5 e6)
def yX (t:DT):DT:=λenv S=>(t env S).bind λb S1=>.ok (!b) S1
def wV (t u:DT):DT:=λenv S=>(t env S).bind λb S1=>if b then u env S1 else .ok false S1
def yC (t u:DT):DT:=λenv S=>(t env S).bind λb S1=>if b then .ok true S1 else u env S1
theorem L8 (ha:PT X a (tDT X ta)):PT X (.UnaryOp .Not a pos) (tDT X (yX ta)):=by
 intro pins s σ H Q I h;obtain⟨P,α,env,S,r,re,af⟩:=h;refine isTrue_not (thn (kB (λQ' q=>ha pins s σ H Q' I q) r re af) λb s1 ⟨H1,P1,α1,S1,I1,r1,re1,e1,e2,af1⟩=>⟨H1,I1,af1 H1 P1 α1 r1 e1 e2⟩)
def PWD (X:Cx)(e:Bw)(t:DT):Prop:=PW X e (tDT X t)
theorem PWD.pt {t:DT}(h:PWD X e t):PT X e (tDT X t):=h _
theorem PM (ha:PT X a (tDT X ta)):PWD X (.BoolOp .And [a] pos) ta:=FK ha
theorem LB (ha:PT X a (tDT X ta)):PWD X (.BoolOp .Or [a] pos) ta:=RG ha
theorem LA {rest:Aa Bw}(ha:PT X a (tDT X ta))(hb:PWD X (.BoolOp .And (b::rest) pos) tb):PWD X (.BoolOp .And (a::b::rest) pos) (wV ta tb):=by
 intro wh pins s σ H Q I h;obtain⟨P,α,env,S,r,re,af⟩:=h;refine isTrue_and (thn (kB (λQ' q=>ha pins s σ H Q' I q) r re af) λk s1 ⟨H1,P1,α1,S1,I1,r1,re1,e1,e2,af1⟩=>?_);cases k with
 |true=>exact hb wh pins s1 σ H1 Q I1 ⟨P1,α1,env,S1,r1,re1,wH.base e1 e2 af1⟩
 |false=>exact⟨H1,I1,af1 H1 P1 α1 r1 e1 e2⟩
theorem HY {rest:Aa Bw}(ha:PT X a (tDT X ta))(hb:PWD X (.BoolOp .Or (b::rest) pos) tb):PWD X (.BoolOp .Or (a::b::rest) pos) (yC ta tb):=by
 intro wh pins s σ H Q I h;obtain⟨P,α,env,S,r,re,af⟩:=h;refine isTrue_or (thn (kB (λQ' q=>ha pins s σ H Q' I q) r re af) λk s1 ⟨H1,P1,α1,S1,I1,r1,re1,e1,e2,af1⟩=>?_);cases k with
 |true=>exact⟨H1,I1,af1 H1 P1 α1 r1 e1 e2⟩
 |false=>exact hb wh pins s1 σ H1 Q I1 ⟨P1,α1,env,S1,r1,re1,wH.base e1 e2 af1⟩
def nP (f g:DE):DE:=λenv S=>(f env S).bind λx S1=>match x5 x S1 with
 |some true=>g env S1
 |some false=>.ok x S1
 |none=>.bad
def YZ (f:DE):DE:=λenv S=>(f env S).bind λx S1=>match x5 x S1 with
 |some b=>.ok (.bl (!b)) S1
 |none=>.bad
theorem NO  (h:PE X a (tD X fa)):PE X (.BoolOp op [a] pos) (tD X fa):=R7 h
theorem ES {pins:Aa (Af × Cj)}{s:Ag}{σ:_L.St}{H:Hp}{v:V}{k:Ar}{R:Ar->Ag->Prop}(I:Inv X pins σ H s)(rv:qJ v vv)(t:oV X.K v H k)(h:∀ s',Inv X pins σ H s'->R k s') :
  Ap (As X.prog X.w) X.A (truthy vv) R X.xe s:=thn (bL pins s σ H v vv (λk' H'=>k'=k/\H'=H) I rv ⟨k,t,rfl,rfl⟩) λk' s4 ⟨H4,I4,hk,hH⟩=>by subst hk;subst hH;exact h s4 I4
theorem NF {rest:Aa Bw}(ha:PE X a (tD X fa))(hb:PE X (.BoolOp .And (b::rest) pos) (tD X fb)):PE X (.BoolOp .And (a::b::rest) pos) (tD X (nP fa fb)):=by
 intro pins s σ H Q I h;obtain⟨P,α,env,S,r,re,af⟩:=h;refine BoolOp_and (thn (zN ha I r re af) λvv s1 ⟨v,H1,P1,α1,d,S1,G1,af1⟩=>?_);cases ht:x5 d S1 with
 |none=>simp only[ht] at af1;exact Ao af1
 |some k =>
  simp only[ht] at af1;refine ES G1.inv G1.val (uD G1.rel G1.rep ht) λs2 I2=>?_;cases k with
  |true=>exact hb pins s2 σ H1 Q I2 ⟨P1,α1,env,S1,G1.rel,G1.env,qP.base G1.same G1.pre af1⟩
  |false=>exact⟨v,H1,I2,G1.val,af1 v H1 P1 α1 G1.rel G1.same G1.pre G1.rep⟩
theorem NN (ha:PE X a (tD X fa)):PE X (.UnaryOp .Not a pos) (tD X (YZ fa)):=by
 intro pins s σ H Q I h;obtain⟨P,α,env,S,r,re,af⟩:=h;refine UnaryOp_ (thn (zN ha I r re af) λvv s1 ⟨v,H1,P1,α1,d,S1,G1,af1⟩=>?_);cases ht:x5 d S1 with
 |none=>simp only[ht] at af1;exact Ao af1
 |some k =>
  simp only[ht] at af1;exact not_of (ES G1.inv G1.val (uD G1.rel G1.rep ht) λs2 I2=>⟨.bl (!k),H1,I2,rfl,af1 (.bl (!k)) H1 P1 α1 G1.rel G1.same G1.pre (by simp only[Rep])⟩)
def dIf (t:DT)(f g:DE):DE:=λenv S=>(t env S).bind λb S1=>if b then f env S1 else g env S1
theorem HP (hc:PT X c (tDT X ta))(ha:PE X a (tD X fa))(hb:PE X b (tD X fb)):PE X (.IfExp c a b pos) (tD X (dIf ta fa fb)):=by
 intro pins s σ H Q I h;obtain⟨P,α,env,S,r,re,af⟩:=h;refine wpAny_IfExp (thn (kB (λQ' q=>hc pins s σ H Q' I q) r re af) λk s1 ⟨H1,P1,α1,S1,I1,r1,re1,e1,e2,af1⟩=>?_);cases k with
 |true=>exact ha pins s1 σ H1 Q I1 ⟨P1,α1,env,S1,r1,re1,qP.base e1 e2 af1⟩
 |false=>exact hb pins s1 σ H1 Q I1 ⟨P1,α1,env,S1,r1,re1,qP.base e1 e2 af1⟩
end
@[inline] def Res.toS {β:Type}(env:qB)(r:Res β)(k:β->Sto->Out):Out:=
 match r with
 |.ok d S=>k d S
 |.ex c x S=>.ex c x env S
 |.bad=>.bad
section
variable {X:Cx}{a b c e:Bw}{pos:Ey}{fa fb fc:DE}{ta tb:DT}{f g:DS}{st:Fq}{rest:Aa Fq}
def xD:DS:=λenv S=>.nx env S
def qY (f g:DS):DS:=λenv S=>match f env S with
 |.nx env1 S1=>g env1 S1
 |o=>o
theorem L0:PSs X [] (tDS X xD):=RE FI λD σ H ⟨P,α,env,S,r,re,af⟩=>af σ H P α r re (qD.refl _) (Bg _)
theorem PC (h1:PS X st (tDS X f))(h2:PSs X rest (tDS X g)):PSs X (st::rest) (tDS X (qY f g)):=RE (UR h1 h2) λD σ H ⟨P,α,env,S,r,re,af⟩=>by
 refine⟨P,α,env,S,r,re,?_⟩;unfold qY at af;cases q:f env S with
 |nx env1 S1 =>
  rw[q] at af;exact λσ' H' P' α' r' re' e1 e2=>⟨P',α',env1,S1,r',re',z0.base e1 e2 af⟩
 |rt d S1=>rw[q] at af;exact af
 |bk env1 S1=>rw[q] at af;exact af
 |ct env1 S1=>rw[q] at af;exact af
 |ex c x env1 S1=>rw[q] at af;exact af
 |bad=>rw[q] at af;exact af
theorem L3 (h1:PS X st (tDS X f)):PSs X [st] (tDS X f):=FJ h1
theorem w5 {β:Type}{P:Hp}{α:Aa Af}{env:qB}{r:Res β}{k:β->Sto->Out}{D:Ends}(h:z0 X P α (r.toS env k) D):qG X P α r λd S=>z0 X P α (k d S) D:=by
 cases r with
 |ok d S=>exact h
 |ex c x S=>exact h
 |bad=>exact h
inductive GotS (X:Cx)(pins:Aa (Af × Cj))(σ : _L.St)(env:qB)(P:Hp)(α : Aa Af)(u:Ac)(s1:Ag)(k:D->Sto->Out)(E:Ends):Prop
 |mk (v:V) (H1 P1:Hp) (α1:Aa Af) (d:D) (S1:Sto) (G:Got X pins σ env P α u s1 v H1 P1 α1 d S1) (q:z0 X P1 α1 (k d S1) E):GotS X pins σ env P α u s1 k E
theorem t8 {k:D->Sto->Out}{pins:Aa (Af × Cj)}{s:Ag}{σ:_L.St}{H P:Hp}{α:Aa Af}{env:qB}{D:Ends}(he:PE X e (tD X fa))(I:Inv X pins σ H s)(r:Rel X.K H P α S)
  (re:z9 X.K P α σ env) (af:z0 X P α ((fa env S).toS env k) D) :
  Ap (As X.prog X.w) X.A (eval e X.env) (λu s1=>GotS X pins σ env P α u s1 k D) X.xe s:=by
 have af1:qG X P α ((fa env S).bind λd S=>.ok d S) λd S=>z0 X P α (k d S) D:=by
  have:=w5 af;cases q:fa env S <;> rw[q] at this <;> exact this
 exact thn (zN he I r re af1) λu s1 ⟨v,H1,P1,α1,d,S1,G,q⟩=>⟨v,H1,P1,α1,d,S1,G,z0.base G.same G.pre q⟩
def w9 (f:DE):DS:=λenv S=>(f env S).toS env λ_ S1=>.nx env S1
theorem PD (he:PE X e (tD X fa))(hs:Np e none pos.line X.env=pure false:=by rfl):PS X (.Expr e pos) (tDS X (w9 fa)):=by
 intro pins s σ H D I h;obtain⟨P,α,env,S,r,re,af⟩:=h;exact wpAny_Expr_any (thn (t8 he I r re af) λv s1 ⟨x,H1,P1,α1,d,S1,G,q⟩=>⟨σ,H1,G.inv,q σ H1 P1 α1 G.rel G.env (qD.refl _) (Bg _)⟩) I.quiet hs
def qW (f:DE):DS:=λenv S=>(f env S).toS env λd S1=>.rt d S1
theorem L5 (he:PE X e (tD X fa)):PS X (.Return (Ab e) pos) (tDS X (qW fa)):=by
 intro pins s σ H D I h;obtain⟨P,α,env,S,r,re,af⟩:=h;exact wpAny_Return_some (thn (t8 he I r re af) λv s1 ⟨x,H1,P1,α1,d,S1,G,q⟩=>⟨x,σ,H1,G.inv,G.val,q x H1 P1 α1 G.rel (qD.refl _) (Bg _) G.rep⟩)
def sIf (t:DT)(f g:DS):DS:=λenv S=>(t env S).toS env λb S1=>if b then f env S1 else g env S1
theorem HW {as bs:Aa Fq}(hc:PT X c (tDT X ta))(ha:PSs X as (tDS X f))(hb:PSs X bs (tDS X g)):PS X (.If c as bs pos) (tDS X (sIf ta f g)):=by
 intro pins s σ H D I h;obtain⟨P,α,env,S,r,re,af⟩:=h;have af1:qG X P α ((ta env S).bind λd S=>.ok d S) λb S=>z0 X P α (if b then f env S else g env S) D:=by
  have:=w5 af;cases q:ta env S <;> rw[q] at this <;> exact this
 refine wpAny_If (thn (kB (λQ' q=>hc pins s σ H Q' I q) r re af1) λk s1 ⟨H1,P1,α1,S1,I1,r1,re1,e1,e2,af2⟩=>?_);cases k with
 |true=>exact ha pins s1 σ H1 D I1 ⟨P1,α1,env,S1,r1,re1,z0.base e1 e2 af2⟩
 |false=>exact hb pins s1 σ H1 D I1 ⟨P1,α1,env,S1,r1,re1,z0.base e1 e2 af2⟩
abbrev DG:=D->qB->Sto->Res qB
abbrev DGs:=Aa D->qB->Sto->Res qB
def OkE (X:Cx)(P:Hp)(α : Aa Af)(Q:_L.St->Hp->Prop)(env':qB)(S':Sto):Prop:=∀ σ' H' P' α',Rel X.K H' P' α' S'->z9 X.K P' α' σ' env'->qD P P'->α<+:α'->Q σ' H'
def tDG (X:Cx)(g:DG):TG:=λv σ H Q=>∃ P α env S d,Rel X.K H P α S/\z9 X.K P α σ env/\Rep X.K P α d v/\qG X P α (g d env S) (OkE X P α Q)
def cM (X:Cx)(g:DGs):TGs:=λvs σ H Q=>∃ P α env S ds,Rel X.K H P α S/\z9 X.K P α σ env/\qC X.K P α ds vs/\qG X P α (g ds env S) (OkE X P α Q)
theorem z9.set {K:Aj}{P:Hp}{α:Aa Af}{σ:_L.St}{env:qB}{d:D}{v:V}(re:z9 K P α σ env)(i:Ai)(rp:Rep K P α d v):z9 K P α (σ.set i (Ab v)) (env.set i (Ab d)):=by
 refine⟨by simp[re.1],λj d' e=>?_⟩
 by_cases hj:i=j
 .subst hj
  by_cases hi:i<env.length
  .rw[Er hi] at e
   cases e;exact⟨v,by rw[Er (by rw[<- re.1];exact hi)],rp⟩
  .rw[List.getElem?_eq_none (by simp;omega)] at e;cases e
 .rw[Cq hj] at e ⊢
  exact re.2 j d' e
def gNm (i:Ai):DG:=λd env S=>.ok (env.set i (Ab d)) S
theorem GY {i:Ai}{x:Aq}(hN:X.N.Nodup)(hi:X.N[i]? = Ab x:=by rfl)(hx:Loc X.env.scope x:=by first|exact x0 rfl|exact Yv rfl)(hf:X.fn x=true\/X.env.scope.names.lookup x=Ab .local:=by first|exact .inl rfl|exact .inr rfl|assumption):PG X (.Name x pos) (tDG X (gNm i)):=by
 intro pins s σ H v u Q I rv h;obtain⟨P,α,env,S,d,r,re,rp,af⟩:=h;exact FC hN hi hx hf pins s σ H v u Q I rv (af _ H P α r (re.set i rp) (qD.refl _) (Bg _))
def vY:DGs:=λds env S=>match ds with
 |[]=>.ok env S
 |_=>.bad
def xF (g:DG)(gs:DGs):DGs:=λds env S=>match ds with
 |d::r=>(g d env S).bind λenv1 S1=>gs r env1 S1
 |[]=>.bad
theorem GZ:PGs X [] (cM X vY):=by
 intro pins s σ H vs us Q I rv h;obtain⟨P,α,env,S,ds,r,re,rp,af⟩:=h;cases ds with
 |nil=>exact FD pins s σ H vs us Q I rv ⟨rp.nil_inv,af σ H P α r re (qD.refl _) (Bg _)⟩
 |cons d ds=>exact Ao af
theorem V5 {es:Aa Bw}{g:DG}{gs:DGs}(h1:PG X e (tDG X g))(h2:PGs X es (cM X gs))(hs:(Gr (e::es) X.env).map (·.2)=assign e X.env::(Gr es X.env).map (·.2):=by rfl):PGs X (e::es) (cM X (xF g gs)):=by
 intro pins s σ H vs us Q I rv h;obtain⟨P,α,env,S,ds,r,re,rp,af⟩:=h;cases ds with
 |nil=>exact Ao af
 |cons d ds =>
  obtain⟨w,ws,rfl,p1,p2⟩:=rp.cons_inv;refine UO h1 h2 hs pins s σ H _ us Q I rv ⟨w,ws,rfl,P,α,env,S,d,r,re,p1,?_⟩;have af':qG X P α ((g d env S).bind λenv1 S1=>gs ds env1 S1) (OkE X P α Q):=af;cases q:g d env S with
  |bad=>rw[q] at af';exact af'
  |ex c x S'=>rw[q] at af';exact af'
  |ok env1 S1 =>
   rw[q] at af';intro σ' H' P' α' r' re' e1 e2;refine⟨P',α',env1,S1,ds,r',re',qC.mono e1 e2 _ _ p2,qG.base' e1 e2 (λenv' S' ok σ2 H2 P2 α2 r2 re2 e3 e4=>ok σ2 H2 P2 α2 r2 re2 (e1.trans e3) (e2.trans e4)) af'⟩
def gTp (n:Ai)(gs:DGs):DG:=λd env S=>match d with
 |.tup xs=>if xs.length=n then gs xs env S else .bad
 |_=>.bad
set_option tactic.hygienic true in
theorem NT {es:Aa Bw}{k:Ai}{gs:DGs}{n:Ai}(hc:X.calm=true)(h:PGs X es (cM X gs))(hn:(Gr es X.env).length=n:=by rfl)(hst:(Gr es X.env).findIdx? (·.1)=none:=by rfl):PG X (.Tuple es k pos) (tDG X (gTp n gs)):=by
 intro pins s σ H v u Q I rv hw;obtain⟨P,α,env,S,d,r,re,rp,af⟩:=hw;cases d with
 |tup xs =>
  simp only[Rep] at rp;obtain⟨a,vs,rfl,q,t⟩:=rp;simp only[gTp] at af
  split at af
  .rename_i hl
   exact RA hc h hn hst pins s σ H _ u Q I rv ⟨a,vs,rfl,xZ r.sub q,by rw[<- t.length];exact hl,P,α,env,S,xs,r,re,t,af⟩
  .exact Ao af
 |_=>exact Ao af
abbrev G3:=D->D->D->Sto->Res Uv
def OkU (X:Cx)(P:Hp)(α : Aa Af)(Q:Hp->Prop)(_:Uv)(S':Sto):Prop:=∀ H' P' α',Rel X.K H' P' α' S'->qD P P'->α<+:α'->Q H'
def rA (X:Cx)(g:G3):YL:=λo i v H Q=>∃ P α S a b d,Rel X.K H P α S/\Rep X.K P α a o/\Rep X.K P α b i/\Rep X.K P α d v/\qG X P α (g a b d S) (OkU X P α Q)
def gSb (fo fi:DE)(g:G3):DG:=λd env S=>(fo env S).bind λo S1=>(fi env S1).bind λi S2=>(g o i d S2).bind λ_ S3=>.ok env S3
theorem NS {o i:Bw}{fo fi:DE}{g:G3}(ho:PE X o (tD X fo))(hi:PE X i (tD X fi))(hs:rE X (rA X g))
  (ha:∀ v,assign (.Subscript o i pos) X.env v=(do
   let ov <- holding [v] (eval o X.env)
   let iv <- holding [v,ov] (eval i X.env)
   Rl pos
   holding [v,ov,iv] (setItem ov iv v)
   release [v,ov,iv] []):=by intro _;rfl):PG X (.Subscript o i pos) (tDG X (gSb fo fi g)):=by
 intro pins s σ H v u Q I rv h;obtain⟨P,α,env,S,d,r,re,rp,af⟩:=h;rw[ha];refine Ad (Fj (thn (zN ho I r re af) λov s1 ⟨x,H1,P1,α1,d1,S1,G1,af1⟩=>?_));refine Ad (Fj (thn (zN hi G1.inv G1.rel G1.env (P:=P1) (α:=α1) (Ok:=OkE X P1 α1 Q) (qG.base' G1.same G1.pre (λenv' S' ok σ2 H2 P2 α2 r2 re2 e3 e4=>ok σ2 H2 P2 α2 r2 re2 (G1.same.trans e3) (G1.pre.trans e4)) af1)) λiv s2 ⟨y,H2,P2,α2,d2,S2,G2,af2⟩=>?_));refine Ad (Lr (Ad (Fj (thn (hs pins s2 σ H2 x y v ov iv u (λH3=>Q σ H3) G2.inv G1.val G2.val rv ⟨P2,α2,S2,d1,d2,d,G2.rel,Rep.mono G2.same G2.pre _ _ G1.rep,G2.rep,Rep.mono (G1.same.trans G2.same) (G1.pre.trans G2.pre) _ _ rp,?_⟩) λ_ s3 ⟨H3,I3,q3⟩=>?_))))
 .cases q:g d1 d2 d S2 with
  |bad=>rw[q] at af2;exact af2
  |ex c x S'=>rw[q] at af2;exact λu s' z=>af2 u s' (z.base G2.same G2.pre)
  |ok w S3 =>
   rw[q] at af2;exact λH' P' α' r' e1 e2=>af2 σ H' P' α' r' (G2.env.mono e1 e2) (G2.same.trans e1) (G2.pre.trans e2)
 .exact wpAny_release ⟨σ,H3,I3,q3⟩
def zP (f:DE)(g:DG):DS:=λenv S=>(f env S).toS env λd S1=>(g d env S1).toS env λenv' S2=>.nx env' S2
theorem ZT {g:DG}{d:D}{env:qB}{P:Hp}{α:Aa Af}{D':Ends}(h:z0 X P α ((g d env S).toS env λenv' S2=>.nx env' S2) D'):qG X P α (g d env S) (OkE X P α D'.nx):=by
 cases q:g d env S with
 |bad=>rw[q] at h;exact h
 |ex c x S'=>rw[q] at h;exact h
 |ok env1 S1=>rw[q] at h;exact h
theorem NY {tg:Bw}{g:DG}(he:PE X e (tD X fa))(hg:PG X tg (tDG X g))(hs:Lq [tg] e pos.line X.env=pure false:=by rfl)(hw:Lp [tg] e X.env=pure none:=by rfl)
  (h1:(Gr [tg] X.env).map (·.2)=[assign tg X.env]:=by rfl):PS X (.Assign [tg] e pos) (tDS X (zP fa g)):=by
 intro pins s σ H D I h;obtain⟨P,α,env,S,r,re,af⟩:=h;refine wpAny_Assign_stores (thn (t8 he I r re af) λv s1 ⟨x,H1,P1,α1,d,S1,G,q⟩=>?_) hs hw;rw[h1];exact thn (hg pins s1 σ H1 x v _ G.inv G.val ⟨P1,α1,env,S1,d,G.rel,G.env,G.rep,ZT q⟩) λ_ s2 q=>q
theorem L6 {i:Ai}{x:Aq}{pos':Ey}(hN:X.N.Nodup)(he:PE X e (tD X fa))(hi:X.N[i]? = Ab x:=by rfl)(hx:Loc X.env.scope x:=by first|exact x0 rfl|exact Yv rfl)(hs:Np e (Ab (.Name x pos')) pos.line X.env=pure false:=by rfl)
  (hf:X.fn x=true\/X.env.scope.names.lookup x=Ab .local:=by first|exact .inl rfl|exact .inr rfl|assumption):PS X (.Assign [.Name x pos'] e pos) (tDS X (zP fa (gNm i))):=by
 intro pins s σ H D I h;obtain⟨P,α,env,S,r,re,af⟩:=h;refine wpAny_Assign_Name (thn (t8 he I r re af) λv s1 ⟨y,H1,P1,α1,d,S1,G,q⟩=>?_) hs;exact gX G.inv hN hi hx G.val (λs2 I2=>⟨_,H1,I2,q _ H1 P1 α1 G.rel (G.env.set i G.rep) (qD.refl _) (Bg _)⟩) hf
def c6 (i j:Ai)(env:qB)(S1:Sto):Aa D->Out
 |[x,y]=>.nx ((env.set i (Ab x)).set j (Ab y)) S1
 |_=>.bad
def lY (i j:Ai)(f:DA):DS:=λenv S=>(f env S).toS env λds S1=>c6 i j env S1 ds
theorem L4 {i j:Ai}{x y:Aq}{f:DA}{px py pt:Ey} {kt k2 pt2} (hc:X.calm=true) (hN:X.N.Nodup) (ha:PA X [a,b] (tDA X f)) (hi:X.N[i]? = Ab x:=by rfl) (hj:X.N[j]? = Ab y:=by rfl) (hij:i≠j:=by decide)
  (hx:X.env.scope.names.lookup x=Ab .local:=by rfl) (hy:X.env.scope.names.lookup y=Ab .local:=by rfl)
  (hw:Lp [.Tuple [.Name x px,.Name y py] kt pt] (.Tuple [a,b] k2 pt2) X.env=pure (Ab [x,y]):=by rfl)
  (hs:Lq [.Tuple [.Name x px,.Name y py] kt pt] (.Tuple [a,b] k2 pt2) pos.line X.env=pure false:=by rfl) :
  PS X (.Assign [.Tuple [.Name x px,.Name y py] kt pt] (.Tuple [a,b] k2 pt2) pos) (tDS X (lY i j f)):=psW (RD hc hN hi hj hij hx hy ha hw hs) λD σ H ⟨P,α,env,S,r,re,af⟩=>by
 refine⟨P,α,env,S,r,re,?_⟩;have af1:=w5 af;cases q:f env S with
 |bad=>rw[q] at af1;exact af1
 |ex c x S'=>rw[q] at af1;exact af1
 |ok ds S1 =>
  rw[q] at af1;intro vs H' P' α' r' e1 e2 rp;have af2:z0 X P α (c6 i j env S1 ds) D:=af1;cases ds with
  |nil=>exact Ao af2
  |cons d ds=>cases ds with
   |nil=>exact Ao af2
   |cons d' ds=>cases ds with
    |cons _ _=>exact Ao af2
    |nil =>
     obtain⟨w,ws,rfl,p1,t⟩:=rp.cons_inv;obtain⟨w',ws',rfl,p2,t⟩:=t.cons_inv;rw[t.nil_inv];exact⟨w,w',rfl,af2 _ _ P' α' r' (((re.mono e1 e2).set i p1).set j p2) e1 e2⟩
end
structure ItD (K:Aj)(J:It)(P:Hp)(α : Aa Af)(ds:Aa D):Prop where
 go:∀ i H P1 α1 S,i<ds.length->Rel K H P1 α1 S->qD P P1->α<+:α1->J.go i H
 yld:∀ i H x H' P1 α1 S,i<ds.length->Rel K H P1 α1 S->qD P P1->α<+:α1->J.yld i H x H'->∃ P2 d,ds[i]? = Ab d/\Rel K H' P2 α1 S/\qD P1 P2/\Rep K P2 α1 d x
 stop:∀ i H P1 α1 S,ds.length<=i->Rel K H P1 α1 S->qD P P1->α<+:α1->J.stop i H
abbrev DI:=qB->Sto->Res (Aa D)
def OkI (X:Cx)(P:Hp)(α : Aa Af)(R:It->Hp->Prop)(ds:Aa D)(S':Sto):Prop:=∀ J H' P' α',Rel X.K H' P' α' S'->qD P P'->α<+:α'->ItD X.K J P' α' ds->R J H'
inductive tDI (X:Cx)(f:DI)(σ : _L.St)(H:Hp)(R:It->Hp->Prop):Prop
 |mk (P:Hp) (α : Aa Af) (env:qB) (S:Sto) (r:Rel X.K H P α S) (re:z9 X.K P α σ env) (af:qG X P α (f env S) (OkI X P α R)):tDI X f σ H R
def yG {β:Type}(o:Al β)(S:Sto):Res β:=match o with
 |some b=>.ok b S
 |none=>.bad
theorem vD {X:Cx}{β:Type}{o:Al β}{P:Hp}{α:Aa Af}{Ok:β->Sto->Prop}(h:qG X P α (yG o S) Ok):∃ b,o=Ab b/\Ok b S:=by
 cases o with
 |none=>exact Ao h
 |some b=>exact⟨b,rfl,h⟩
theorem xW {X:Cx}{β:Type}{c:Prop}[Jl c]{r:Res β}{P:Hp}{α : Aa Af}{Ok:β->Sto->Prop}(h:qG X P α (if c then r else .bad) Ok):c/\qG X P α r Ok:=by
 by_cases z:c
 .rw[Bf z] at h;exact⟨z,h⟩
 .rw[Bb z] at h;exact Ao h
theorem WN {X:Cx}{β:Type}{ds:Aa D}{g:D->Res β}{P:Hp}{α:Aa Af}{Ok:β->Sto->Prop}(h:qG X P α (match ds with|[d]=>g d|_=>.bad) Ok):∃ d,ds=[d]/\qG X P α (g d) Ok:=by
 cases ds with
 |nil=>exact Ao h
 |cons d ds =>
  cases ds with
  |nil=>exact⟨d,rfl,h⟩
  |cons _ _=>exact Ao h
theorem lN {β:Type}{i:Ai}{f:Aa D->Al β}{g:Aa (Key × D)->Al β}{b:β}(h:(match S[i]? with|some (.lst xs)=>f xs|some (.dct kvs)=>g kvs|_=>none)=Ab b):(∃ xs,S[i]? = Ab (.lst xs)/\f xs=Ab b)\/∃ kvs,S[i]? = Ab (.dct kvs)/\g kvs=Ab b:=by
 cases e:S[i]? with
 |none=>rw[e] at h;exact nn h
 |some m =>
  rw[e] at h;cases m with
  |lst xs=>exact .inl ⟨xs,rfl,h⟩
  |dct kvs=>exact .inr ⟨kvs,rfl,h⟩
  |_=>exact nn h
theorem DQ {β:Type}{i:Ai}{f:Aa D->Al β}{b:β}(h:(match S[i]? with|some (.lst xs)=>f xs|_=>none)=Ab b):∃ xs,S[i]? = Ab (.lst xs)/\f xs=Ab b:=by
 cases e:S[i]? with
 |none=>rw[e] at h;exact nn h
 |some m =>
  rw[e] at h;cases m with
  |lst xs=>exact⟨xs,rfl,h⟩
  |_=>exact nn h
inductive ItV (d:D)(xs:Aa D):Prop
 |tup (e:d=.tup xs)
 |lst (e:d=.lst xs)
def KQ {β:Type}(S:Sto)(n:Ai)(f:Aa D->Res β) : Res β:=match S[n]? with
 |some (.lst xs)=>f xs
 |_=>.bad
theorem gQ {X:Cx}{β:Type}{n:Ai}{f:Aa D->Res β}{P:Hp}{α:Aa Af}{Ok:β->Sto->Prop}(h:qG X P α (KQ S n f) Ok):∃ xs,S[n]? = Ab (.lst xs)/\qG X P α (f xs) Ok:=by
 unfold KQ at h;cases e:S[n]? with
 |none=>rw[e] at h;exact Ao h
 |some m =>
  rw[e] at h;cases m with
  |lst xs=>exact⟨xs,rfl,h⟩
  |_=>exact Ao h
def x9:D->Al (Aa D)
 |.tup xs=>Ab xs
 |.lst xs=>Ab xs
 |_=>none
theorem itV {d:D}{xs:Aa D}(h:x9 d=Ab xs):ItV d xs:=by
 cases d with
 |tup ys=>exact .tup (congrArg D.tup (Cs h))
 |lst ys=>exact .lst (congrArg D.lst (Cs h))
 |_=>exact nn h
def yH (f:DE):DI:=λenv S=>(f env S).bind λd S1=>yG (x9 d) S1
section
variable {X:Cx}{K:Aj}{tg e:Bw}{fa:DE}{pos:Ey}
theorem VY {P:Hp}{α:Aa Af}{a:Af}{ds:Aa D}(q:SqL K P a vs)(t:qC K P α ds vs):ItD K (Itl K a) P α ds where
 go:=λi H P1 α1 S hi r e _=>⟨vs,vs[i]'(by rw[<- t.length];exact hi),(e.trans r.sub).seq q,by simp⟩
 yld:=λi H x H' P1 α1 S hi r e e2 y=>by
  obtain⟨rfl,y⟩:=y;have hx:=y vs ((e.trans r.sub).seq q);obtain⟨v,h1,h2⟩:=t.get (Am hi);rw[hx] at h1;cases h1;exact⟨P1,_,Am hi,r,qD.refl _,Rep.mono e e2 _ _ h2⟩
 stop:=λi H P1 α1 S hi r e _=>⟨vs,(e.trans r.sub).seq q,by rw[<- t.length];exact hi⟩
theorem BA {P:Hp}{α:Aa Af}{a:Af}{ds:Aa D}(q:SqT K P a vs)(t:qC K P α ds vs):ItD K (Itt K a) P α ds where
 go:=λi H P1 α1 S hi r e _=>⟨vs,vs[i]'(by rw[<- t.length];exact hi),wQ (e.trans r.sub) q,by simp⟩
 yld:=λi H x H' P1 α1 S hi r e e2 y=>by
  obtain⟨rfl,y⟩:=y;have hx:=y vs (wQ (e.trans r.sub) q);obtain⟨v,h1,h2⟩:=t.get (Am hi);rw[hx] at h1;cases h1;exact⟨P1,_,Am hi,r,qD.refl _,Rep.mono e e2 _ _ h2⟩
 stop:=λi H P1 α1 S hi r e _=>⟨vs,wQ (e.trans r.sub) q,by rw[<- t.length];exact hi⟩
theorem eO {pins:Aa (Af × Cj)}{σ:_L.St}{H P:Hp}{α:Aa Af}{s:Ag}{v:V}{d:D}{ds:Aa D}(I:Inv X pins σ H s)(r:Rel X.K H P α S)(rv:qJ v vv)(rp:Rep X.K P α d v)(hd:x9 d=Ab ds)
  (q:OkI X P α R ds S):Ap (As X.prog X.w) X.A (Od vv) (PIE X pins σ tg R) X.xe s:=by
 cases d with
 |tup xs =>
  cases hd;simp only[Rep] at rp;obtain⟨a,vs,rfl,sq,t⟩:=rp;cases rv;obtain⟨its,rv,p,hz⟩:=I.tuple (xZ r.sub sq);refine Fx (show s.heap.IsTuple a its.toArray from p) ?_
  refine⟨s.heap.objs.size,[s.heap.objs.size],_,_,H,rfl,I.kept (t':=s.toks) λb o e=>Ah _ e,ZM a _,⟨_,AT _ rfl,rfl,rfl⟩,λb hb=>?_,q _ _ P α r (qD.refl _) (Bg _) (BA sq t)⟩;have e:b=s.heap.objs.size:=by simpa using hb
  subst e;exact I.fpOk (Ax _) (I.hok.fresh (Ax _))
 |lst xs =>
  cases hd;simp only[Rep] at rp;obtain⟨a,vs,rfl,sq,t⟩:=rp;cases rv;obtain⟨its,rv,p,hz⟩:=I.list ((xH r.sub sq).l);refine Gc p.isList ?_;refine⟨s.heap.objs.size,[s.heap.objs.size],_,_,H,rfl,I.kept (t':=s.toks) λb o e=>Ah _ e,sI a _,⟨_,AT _ rfl,rfl,rfl⟩,λb hb=>?_,q _ _ P α r (qD.refl _) (Bg _) (VY sq.l t)⟩;have e:b=s.heap.objs.size:=by simpa using hb
  subst e;exact I.fpOk (Ax _) (I.hok.fresh (Ax _))
 |_=>cases hd
theorem OkI.base {P P1:Hp}{α α1:Aa Af}{ds:Aa D}(e:qD P P1)(h:α<+:α1)(k:OkI X P α R ds S):OkI X P1 α1 R ds S:=λJ H' P' α' r q1 q2 q3=>k J H' P' α' r (e.trans q1) (h.trans q2) q3
theorem NU (ha:PE X e (tD X fa)):PI X tg e (tDI X (yH fa)):=by
 intro pins s σ H R I h;obtain⟨P,α,env,S,r,re,af⟩:=h;refine thn (zN ha I r re af) λvv s1 ⟨v,H1,P1,α1,d,S1,G1,af1⟩=>?_;obtain⟨ds,e1,q⟩:=vD af1;exact eO G1.inv G1.rel G1.val G1.rep e1 (q.base G1.same G1.pre)
def xY (lo:Ak)(n:Ai):Aa D:=(Dd n).map λ(i:Ai)=>D.int (lo+(i:Ak))
theorem gT (lo:Ak)(n:Ai):(xY lo n).length=n:=by simp[xY]
theorem dR {P:Hp}{α:Aa Af}{lo:Ak}{n:Ai}:ItD K (Itr lo n) P α (xY lo n) where
 go:=λi H P1 α1 S hi r e _=>by rw[gT] at hi;exact hi
 yld:=λi H x H' P1 α1 S hi r e e2 y=>by
  obtain⟨rfl,rfl⟩:=y;rw[gT] at hi;exact⟨P1,.int (lo+i),by simp[xY,hi],r,qD.refl _,by simp only[Rep]⟩
 stop:=λi H P1 α1 S hi r e _=>by rw[gT] at hi;exact hi
def bE (ds:Aa D):Al (Aa D):=match ds with
 |[.int j]=>if -(2 ^ 62)<=j/\j<2 ^ 62 then Ab (xY 0 j.toNat) else none
 |[.int i,.int j]=>if -(2 ^ 62)<=i/\i<2 ^ 62 /\ -(2 ^ 62)<=j/\j<2 ^ 62 then Ab (xY i (j-i).toNat) else none
 |_=>none
def uI (f:DA):DI:=λenv S=>(f env S).bind λds S1=>yG (bE ds) S1
def asI:D->Al Ak
 |.int i=>Ab i
 |_=>none
theorem fT {d:D}{i:Ak}(h:asI d=Ab i):d=.int i:=by
 cases d with
 |int k=>exact congrArg D.int (Cs h)
 |_=>exact nn h
inductive RngV:Aa D->Aa D->Prop
 |one (j:Ak) (h : -(2 ^ 62)<=j/\j<2 ^ 62):RngV [.int j] (xY 0 j.toNat)
 |two (i j:Ak) (h : -(2 ^ 62)<=i/\i<2 ^ 62 /\ -(2 ^ 62)<=j/\j<2 ^ 62):RngV [.int i,.int j] (xY i (j-i).toNat)
theorem AQ (d:D):bE [d]=(asI d).bind λj=>if -(2 ^ 62)<=j/\j<2 ^ 62 then Ab (xY 0 j.toNat) else none:=by cases d <;> rfl
theorem AR (d d':D):bE [d,d']=(asI d).bind λi=>(asI d').bind λj=>if -(2 ^ 62)<=i/\i<2 ^ 62 /\ -(2 ^ 62)<=j/\j<2 ^ 62 then Ab (xY i (j-i).toNat) else none:=by
 cases d with
 |int i=>cases d' <;> rfl
 |_=>rfl
theorem M6 {ds its:Aa D}(h:bE ds=Ab its):RngV ds its:=by
 cases ds with
 |nil=>exact nn h
 |cons d ds =>
  cases ds with
  |nil =>
   obtain⟨j,e,h⟩:=Eg.mp ((AQ d).symm.trans h);obtain⟨c,rfl⟩:=gE h;rw[fT e];exact .one j c
  |cons d' ds =>
   cases ds with
   |nil =>
    obtain⟨i,e,h⟩:=Eg.mp ((AR d d').symm.trans h);obtain⟨j,e',h⟩:=Eg.mp h;obtain⟨c,rfl⟩:=gE h;rw[fT e,fT e'];exact .two i j c
   |cons _ _ =>
    have h0:∀ d'' t,bE (d::d'::d''::t)=none:=λd'' t=>by cases d <;> first|rfl|(cases d' <;> rfl)
    exact nn ((h0 _ _).symm.trans h)
theorem lU {P:Hp}{α:Aa Af}{i:Ak}{ds:Aa D}(r:qC K P α (.int i::ds) vs):∃ ws,vs=.int i::ws/\qC K P α ds ws:=by
 obtain⟨w,ws,rfl,p,t⟩:=r.cons_inv;exact⟨ws,congrArg (· :: ws) (by simpa only [Rep] using p),t⟩
theorem PI.weak {iter:Bw}{t t':TI}(h:PI X tg iter t)(w:∀ σ H R,t' σ H R->t σ H R):PI X tg iter t':=λpins s σ H R I q=>h pins s σ H R I (w σ H R q)
end
section
variable {X:Cx}{tg a b:Bw}{f:DA}{p pos:Ey}
theorem V7 {e:Bw}{es:Aa Bw}(hg:Gl X "range")(hm:X.mg "range" = none)(ha:PA X (e::es) (tDA X f))(hs:Bm (e::es) X.env=(false,eval e X.env)::Bm es X.env:=by rfl)(hpl:(Ft pos (Bm es X.env)).any (·.1)=false:=by rfl) :
  PI X tg (.Call (.Name "range" p) (e::es) [] pos) (tDI X (uI f)):=by
 intro pins s σ H R I h;obtain⟨P,α,env,S,r,re,af⟩:=h;refine Call_ (vO I hg hm boot_range (Ha (thn (wA ha I r re af pos) λus s1 ⟨vs,H1,P1,α1,ds,S1,I1,rv,r1,re1,rp,e1,e2,af1⟩=>?_) hs hpl));obtain⟨its,hi,q⟩:=vD af1;cases M6 hi with
 |one j c =>
  obtain⟨ws,rfl,t1⟩:=lU rp;cases t1.nil_inv;obtain⟨u,rfl,t,rfl⟩:=p6 rv;refine call_range_1 (cE I1 om om c.1 c.2 ?_);have z:=q (Itr 0 j.toNat) H1 P1 α1 r1 e1 e2 dR;rw[Int.sub_zero];exact z
 |two i j c =>
  obtain⟨ws,rfl,t1⟩:=lU rp;obtain⟨ws2,rfl,t2⟩:=lU t1;cases t2.nil_inv;obtain⟨u,u',rfl,⟨t,rfl⟩,t',rfl⟩:=ZN rv;exact call_range_2 (cE I1 c.1 c.2.1 c.2.2.1 c.2.2.2 (q (Itr i (j-i).toNat) H1 P1 α1 r1 e1 e2 dR))
def yN (g:DG)(f:DS):Aa D->qB->Sto->Out
 |[],env,S=>.nx env S
 |d::ds,env,S=>(g d env S).toS env λenv1 S1=>match f env1 S1 with
  |.nx env2 S2=>yN g f ds env2 S2
  |.ct env2 S2=>yN g f ds env2 S2
  |.bk env2 S2=>.nx env2 S2
  |o=>o
def uW (fi:DI)(g:DG)(f:DS):DS:=λenv S=>(fi env S).toS env λds S1=>yN g f ds env S1
inductive LoopW (X:Cx)(P1:Hp)(α1:Aa Af)(g:DG)(f:DS)(ds:Aa D)(D:Ends)(i m:Ai)(σ : _L.St)(H:Hp):Prop
 |mk (hi:i<=ds.length) (hm:m=ds.length-i) (P2:Hp) (α2:Aa Af) (env2:qB) (S2:Sto) (r:Rel X.K H P2 α2 S2) (re:z9 X.K P2 α2 σ env2) (e1:qD P1 P2) (e2:α1<+:α2) (af:z0 X P2 α2 (yN g f (ds.drop i) env2 S2) D):LoopW X P1 α1 g f ds D i m σ H
theorem NZ {iter:Bw}{fi:DI}{g:DG}{f:DS}(hp:Rg (As X.prog X.w) X.A X.env X.xe)(hc:X.calm=true)(hi:PI X tg iter (tDI X fi))(hg:PG X tg (tDG X g))(hb:PSs X body (tDS X f))
  (hs:∀ x,Ep iter X.env x=pure x:=by intro _;rfl):PS X (.For tg iter body [] pos) (tDS X (uW fi g f)):=psW (RC hp hc hi hg hb hs) λD σ H ⟨P,α,env,S,r,re,af⟩=>by
 refine⟨P,α,env,S,r,re,?_⟩;have af1:=w5 af;cases q:fi env S with
 |bad=>rw[q] at af1;exact af1
 |ex c x S'=>rw[q] at af1;exact af1
 |ok ds S1 =>
  rw[q] at af1;have af2:z0 X P α (yN g f ds env S1) D:=af1;intro J H1 P1 α1 r1 e1 e2 it;refine⟨LoopW X P1 α1 g f ds D,
   ⟨ds.length,Gz _,rfl,P1,α1,env,S1,r1,re.mono e1 e2,qD.refl _,Bg _,z0.base e1 e2 af2⟩,?_⟩
  rintro i m σ2 H2 ⟨hi,rfl,P2,α2,env2,S2,r2,re2,e3,e4,af3⟩;by_cases hlt:i<ds.length
  .refine .inr ⟨it.go i H2 P2 α2 S2 hlt r2 e3 e4,LoopW X P1 α1 g f ds D (i+1) (ds.length-(i+1)),λσ' H' w=>⟨_,?_,w⟩,λx H3 y=>?_⟩
   .omega
   .obtain⟨P3,d,hd,r3,e5,rp⟩:=it.yld i H2 x H3 P2 α2 S2 hlt r2 e3 e4 y
    have hdr:ds.drop i=d::ds.drop (i+1):=by
     rw[Fk hlt];rw[Am hlt] at hd;rw[Cs hd]
    rw[hdr] at af3;have af4:=w5 (z0.base e5 (Bg _) af3);refine⟨P3,α2,env2,S2,d,r3,re2.mono e5 (Bg _),rp,?_⟩;cases q2:g d env2 S2 with
    |bad=>rw[q2] at af4;exact af4
    |ex c x S'=>rw[q2] at af4;exact af4
    |ok env3 S3 =>
     rw[q2] at af4;intro σ4 H4 P4 α4 r4 re4 e6 e7;refine⟨P4,α4,env3,S3,r4,re4,?_⟩;have af5:=z0.base e6 e7 af4;cases q3:f env3 S3 with
     |bad=>simp only[q3] at af5;exact af5
     |ex c x env4 S4=>simp only[q3] at af5;exact af5
     |rt d4 S4=>simp only[q3] at af5;exact af5
     |bk env4 S4=>simp only[q3] at af5;exact af5
     |nx env4 S4 =>
      simp only[q3] at af5;exact λσ5 H5 P5 α5 r5 re5 e8 e9=>⟨hlt,rfl,P5,α5,env4,S4,r5,re5,((e3.trans e5).trans e6).trans e8,(e4.trans e7).trans e9,z0.base e8 e9 af5⟩
     |ct env4 S4 =>
      simp only[q3] at af5;exact λσ5 H5 P5 α5 r5 re5 e8 e9=>⟨hlt,rfl,P5,α5,env4,S4,r5,re5,((e3.trans e5).trans e6).trans e8,(e4.trans e7).trans e9,z0.base e8 e9 af5⟩
  .have hdr:ds.drop i=[]:=Kl om
   rw[hdr] at af3;exact .inl ⟨it.stop i H2 P2 α2 S2 om r2 e3 e4,af3 σ2 H2 P2 α2 r2 re2 (qD.refl _) (Bg _)⟩
end
abbrev DF:=Aa D->Sto->Res D
section
variable {X:Cx}{x:Aq}{p pos:Ey}{e:Bw}{es:Aa Bw}{F:DF}{fa:DA}
def qS (F:DF)(fa:DA):DE:=λenv S=>(fa env S).bind λds S1=>F ds S1
theorem dF {pins:Aa (Af × Cj)}{s1:Ag}{σ:_L.St}{H1 P P1:Hp}{α α1:Aa Af}{ds:Aa D}{S1:Sto}(hc:xA X u F)(I1:Inv X pins σ H1 s1)(r1:Rel X.K H1 P1 α1 S1)(rv:qL vs us)
  (rp:qC X.K P1 α1 ds vs) (e1:qD P P1) (e2:α<+:α1) (af:qG X P α (F ds S1) (OkV X P α Q)):Ap (As X.prog X.w) X.A (call u us) (EP X pins σ Q) X.xe s1:=hc pins σ H1 s1 P1 α1 S1 vs us ds Q I1 r1 rv rp (qP.base e1 e2 af)
theorem V0 {id:Em}(hc:xA X (.builtin id) F)(hg:Gl X x)(hm:X.mg x=none)(hv:Fu x=Ab (.builtin id))(ha:PA X (e::es) (tDA X fa))(hn:x ≠ "__name__":=by decide)(hdb:(x == ("__debug__" : Aq))=false:=by decide)
  (he:Bm (e::es) X.env=(false,eval e X.env)::Bm es X.env:=by rfl) (hpl:(Ft pos (Bm es X.env)).any (·.1)=false:=by rfl):PE X (.Call (.Name x p) (e::es) [] pos) (tD X (qS F fa)):=by
 intro pins s σ H Q I h;obtain⟨P,α,env,S,r,re,af⟩:=h;refine Ho (vO I hg hm hv ?_ hn hdb);exact Ox (thn (wA ha I r re af pos) λus s1 ⟨vs,H1,P1,α1,ds,S1,I1,rv,r1,re1,rp,e1,e2,af1⟩=>dF hc I1 r1 rv rp e1 e2 af1) he hpl
theorem X8 {T:Em}(hc:xA X (.type T) F)(hg:Gl X x)(hm:X.mg x=none)(hv:Fu x=Ab (.type T))(ha:PA X (e::es) (tDA X fa))(hn:x ≠ "__name__":=by decide)(hdb:(x == ("__debug__" : Aq))=false:=by decide)
  (he:Bm (e::es) X.env=(false,eval e X.env)::Bm es X.env:=by rfl) (hpl:(Ft pos (Bm es X.env)).any (·.1)=false:=by rfl):PE X (.Call (.Name x p) (e::es) [] pos) (tD X (qS F fa)):=by
 intro pins s σ H Q I h;obtain⟨P,α,env,S,r,re,af⟩:=h;refine Ho (vO I hg hm hv ?_ hn hdb);exact Ha (thn (wA ha I r re af pos) λus s1 ⟨vs,H1,P1,α1,ds,S1,I1,rv,r1,re1,rp,e1,e2,af1⟩=>dF hc I1 r1 rv rp e1 e2 af1) he hpl
end
theorem zG.there {P:Bc}{w:Bx}{H:Hp}{h:Bs}{a:Af}{o:HO}(x:zG P w H h a o):∃ ob,h.get? a=Ab ob:=by
 cases o with
 |lst xs=>obtain⟨_,_,_,_,e⟩:=x;exact⟨_,e⟩
 |tup xs=>obtain⟨_,_,_,ob,e,_⟩:=x;exact⟨_,e⟩
 |dK kvs=>obtain⟨_,_,_,_,o,_,_,e,_⟩:=x;exact⟨_,e⟩
 |dT kvs=>obtain⟨_,_,_,_,o,_,_,e,_⟩:=x;exact⟨_,e⟩
 |set S n=>obtain⟨o,_,_,_,e,_⟩:=x;exact⟨_,e⟩
 |ins C dx fs=>obtain⟨_,_,_,e,_⟩:=x;exact⟨_,e⟩
 |own y=>obtain⟨_,e⟩:=x;exact⟨_,e⟩
 |xd fs=>obtain⟨_,⟨_,_,_,e,_⟩,_⟩:=x;exact⟨_,e⟩
 |rng lo hi=>obtain⟨_,_,_,e⟩:=x;exact⟨_,e⟩
 |frz ob u=>obtain⟨e,_⟩:=x;exact⟨_,e⟩
 |tbl ps=>exact⟨_,show h.get? a=Ab _ from x⟩
 |met f y=>exact⟨_,show h.get? a=Ab _ from x⟩
 |ext φ => obtain⟨_,e,_⟩:=x;exact e
section
variable {X:Cx}{pins:Aa (Af × Cj)}{σ : _L.St}{H:Hp}{s:Ag}{B h':Bs}
abbrev Fn1 (X:Cx):Prop:=X.ex=[]/\X.stack=X.env::X.outer/\X.env.frame=Ab X.env.locals
theorem Fn1.mem (F:Fn1 X){b:Af}:b∈frs X.stack↔b=X.env.locals\/b∈X.fs:=by
 rw[F.2.1];unfold frs;rw[Ig,F.2.2];exact Az
theorem Old.there (I:Inv X pins σ H s)(F:Fn1 X){b:Af}(o:Old X pins H b):∃ ob,s.heap.get? b=Ab ob:=by
 rcases o with⟨o,e⟩|e|⟨p,hp,rfl⟩|⟨x,e⟩
 .exact I.base.there b o e (by rw[F.1];simp)
 .cases q:H b with
  |none=>exact absurd q e
  |some u=>exact zG.there (I.hok b u q)
 .exact⟨_,(I.pin p hp).1⟩
 .obtain⟨v,ob,ho,_⟩:=I.cell x b e
  exact⟨ob,ho⟩
theorem Inv.fly (I:Inv X pins σ H s)(F:Fn1 X)(cv:Cv X pins H B s.heap)(st:B.StaysIn h')(up:s.heap.UpToSlots h'):Inv X pins σ H { s with heap:=h' } /\ Cv X pins H B h':=by
 have kp:∀ b o,s.heap.get? b=Ab o->Old X pins H b->b ∉ frs X.stack->h'.get? b=Ab o:=λb o e q n=>st b o (cv b o e q n);have neL:∀ b o,X.s₀.heap.get? b=Ab o->b≠X.env.locals:=λb o e=>Ci (Bh (Ay e) I.ok.above);have nofr:∀ b o,X.s₀.heap.get? b=Ab o->b ∉ X.fs->b ∉ frs X.stack:=λb o e n z=>(F.mem.mp z).elim (neL b o e) n;have nx:∀ b,b ∉ X.ex:=λb=>by rw[F.1];simp
 have frU:∀ b,b∈frs X.stack->∀ o,s.heap.get? b=Ab o->∃ sl,h'.get? b=Ab { o with slots:=sl }:=λb hb o e=>by
  obtain⟨_,o',e',nf⟩:=I.stack.mem hb;rw[e] at e';cases e';exact up b o e nf
 have cellK:∀ x c,X.env.cells.lookup x=Ab c->∀ v,s.heap.IsCell c v->h'.IsCell c v:=λx c e v ⟨o,ho,hd⟩=>by
  obtain⟨sl,q⟩:=up c o ho λvs z=>by rw[hd] at z;cases z
  exact⟨_,q,hd⟩
 refine⟨⟨I.ok,I.os,I.bare,⟨λb o e n hb hx=>?_,λb o e n hb hx=>?_,I.base.free,λb o e hx=>?_,I.base.tups,I.base.frzs,I.base.tbls⟩,?_,λx c e=>?_,I.free,I.freeC,λp hp=>?_,λa o e=>?_,I.len⟩,λb o e q n=>?_⟩
 .exact kp b o (I.base.keep b o e n hb hx) (.inl ⟨o,e⟩) (nofr b o e hb)
 .obtain⟨sl,e1⟩:=I.base.slot b o e n hb hx
  obtain⟨sl',e2⟩:=frU b (F.mem.mpr (.inr hb)) _ e1;exact⟨sl',e2⟩
 .obtain⟨o',e1⟩:=I.base.there b o e hx
  by_cases hb:b∈frs X.stack
  .obtain⟨sl,e2⟩:=frU b hb _ e1
   exact⟨_,e2⟩
  .exact⟨o',kp b o' e1 (.inl ⟨o,e⟩) hb⟩
 .obtain⟨m,hn,hl⟩:=I.loc
  refine⟨m,up.ns hn,λi x v e1 e2 e3=>?_⟩;obtain⟨u,r,l⟩:=hl i x v e1 e2 e3;refine⟨u,r,?_⟩;rcases l with l|⟨k,c,e,z⟩
  .exact .inl l
  .exact .inr ⟨k,c,e,cellK x c e _ z⟩
 .obtain⟨v,z⟩:=I.cell x c e
  exact⟨v,cellK x c e v z⟩
 .obtain⟨e,n,ne,nf,d⟩:=I.pin p hp
  exact⟨kp p.1 p.2 e (.inr (.inr (.inl ⟨p,hp,rfl⟩))) λz=>(F.mem.mp z).elim ne nf,n,ne,nf,d⟩
 .refine(I.hok a o e).stay (λb u hb q=>?_) (λ_ q=>q) λ_ _ q=>q
  have hn:H b≠none:=by
   rcases hb with rfl|hb
   .rw[e];intro z;cases z
   .rw[hb];intro z;cases z
  exact kp b u q (.inr (.inl hn)) λz=>hn (I.stkFree b z)
 .obtain⟨o1,e1⟩:=Old.there I F q
  have e2:=cv b o1 e1 q n;have e3:=st b o1 e2;rw[e] at e3;cases e3;exact e2
theorem DW {c:Ac}{e:Af}{g:Bs}{args:Aa Ac}(I:Inv X pins σ H s)(hm:t0 g s.heap e c args)(hf:g.FunFrames X.base X.stack)(hk:∀ b o,s.heap.get? b=Ab o->Old X pins H b->g.get? b=Ab o) :
  (Ph g (frs X.stack)).StaysIn g/\g.FunFrames (Ph g (frs X.stack)) X.stack/\Cv X pins H (Ph g (frs X.stack)) s.heap:=
 ⟨λb o q=>Wj _ q,PySem.W.funFrames_hide hf λenv he a ha=>Iu.mpr ⟨env,he,ha⟩,λb o e q n=>Vm _ (hk b o e q) n⟩
theorem XZ {M:Nl}{A:Bk}{E:Ac->Ag->Prop}{c:Ac}{e:Af}{Q:Uv->Ag->Prop}(I:Inv X pins σ H s)(F:Fn1 X)(hA:A.frames=Ab X.stack)(f:FlyX X pins H c e s.heap)
  (hQ:∀ h' B a0,Xd B X.outer e c a0 h'->Inv X pins σ H { s with heap:=h' } -> Cv X pins H B h'->Q () { s with heap:=h' }) : Ap M A (leaving X.env (.ref e)) Q E s:=by
 cases f with
 |new g args hm hf hk =>
  obtain⟨k1,k2,k3⟩:=DW I hm hf hk;rw[F.2.1] at hA;refine wpAny_leaves_madeW hA F.2.2 k1 (by rw[<- F.2.1];exact k2) hm λh' t x1 x2 x3 x4=>?_
  obtain⟨I1,cv1⟩:=Inv.fly I F k3 x1.1 x4;exact hQ h' _ _ x1 I1 cv1
 |fly B a0 fl cv =>
  rw[F.2.1] at hA;refine wpAny_leaves_onW hA F.2.2 (by rw[<- F.2.1];exact fl) λh' x1 x2=>?_
  obtain⟨I1,cv1⟩:=Inv.fly I F cv x1.1 x2;exact hQ h' _ _ x1 I1 cv1
end
def CXd (P:Bc)(w:Bx):CXT:=λouter H s E u s' =>
 ∃ e c H' B a0,u=.ref e/\s'.os=s.os/\Oc s'.gens/\Un (frs outer) [] H H' s.heap s'.heap/\HOk P w H' s'.heap/\Xd B outer e c a0 s'.heap /\
  (∀ b o,s'.heap.get? b=Ab o->((∃ o,s.heap.get? b=Ab o)\/H' b≠none)->b ∉ frs outer->B.get? b=Ab o)/\E c none H'
section
variable {X:Cx}{pins:Aa (Af × Cj)}{σ : _L.St}{H:Hp}{s s':Ag}
theorem LI {E:XK}(I:Inv X pins σ H s)(F:Fn1 X)(h:CXd X.prog X.w X.stack H s E u s'):∃ e c H',u=.ref e/\Inv X pins σ H' s'/\FlyX X pins H' c e s'.heap/\E c none H':=by
 obtain⟨e,c,H',B,a0,rfl,os,bare,un,hok,fl,cov,q⟩:=h;have I':Inv X pins σ H' s':=Inv.call' I os un hok bare (ch:=[]) λb z=>absurd z (by simp)
 refine⟨e,c,H',rfl,I',.fly B a0 fl λb o eb old n=>cov b o eb ?_ n,q⟩;rcases old with⟨o,z⟩|z|⟨p,hp,rfl⟩|⟨x,z⟩
 .exact .inl (I.base.there b o z (by rw[F.1];simp))
 .exact .inr z
 .exact .inl ⟨_,(I.pin p hp).1⟩
 .obtain⟨v,ob,ho,_⟩:=I.cell x b z
  exact .inl ⟨ob,ho⟩
end
structure RoomC (cm:Ar)(k:Ai)(A:Bk):Prop where
 hd:cm=true->A.handled=none
 dp:A.depth+3*k+5<Qh
 un:A.units+16*k+200<Ee
 gd:A.guards=Ab []
theorem RoomC.mono {cm:Ar}{j k:Ai}{A:Bk}(r:RoomC cm k A)(h:j<=k:=by decide):RoomC cm j A:=⟨r.hd,by have:=r.dp;omega,by have:=r.un;omega,r.gd⟩
theorem RoomC.deeper {cm:Ar}{k:Ai}{A:Bk}(r:RoomC cm (k+1) A)(env:Ie):RoomC cm k (A.deeper env):=
 ⟨r.hd,by have:=r.dp;show A.depth+1+3*k+5<_;omega,by have:=r.un;show A.units+3+16*k+200<_;omega,r.gd⟩
theorem RoomC.depth {cm:Ar}{k:Ai}{A:Bk}(r:RoomC cm k A):A.depth<Qh:=by have:=r.dp;omega
theorem RoomC.units {cm:Ar}{k:Ai}{A:Bk}(r:RoomC cm k A):A.units+64<Ee:=by have:=r.un;omega
theorem RoomC.of {k:Ai}{A:Bk}(r:Room k A):RoomC true k A:=⟨λ_=>r.hd,r.dp,r.un,r.gd⟩
theorem RoomC.any {cm:Ar}{k:Ai}{A:Bk}(r:RoomC cm k A):RoomC false k A:=⟨(λz=>nomatch z),r.dp,r.un,r.gd⟩
theorem RoomC.mark {cm:Ar}{k:Ai}{A:Bk}(r:RoomC cm k A)(h:Al Ac):RoomC false k (A.mark h):=⟨(λz=>nomatch z),r.dp,r.un,r.gd⟩
abbrev Cx.re (X:Cx)(A:Bk)(cm:Ar)(E:Ac->Ag->Prop):Cx:={ X with A:=A,calm:=cm,xe:=E }
theorem Inv.re {X:Cx}{pins:Aa (Af × Cj)}{σ:_L.St}{H:Hp}{s:Ag}(I:Inv X pins σ H s)(A:Bk)(cm:Ar)(E:Ac->Ag->Prop)(hf:A.frames=Ab X.stack)(hh:cm=true->A.handled=none):Inv (Cx.re X A cm E) pins σ H s:=
 ⟨⟨I.ok.mod,I.ok.kind,I.ok.glob,I.ok.blt,I.ok.above,I.ok.inj,I.ok.has,I.ok.cab,hh,hf,I.ok.stk,I.ok.exf,I.ok.bs,I.ok.bsz,I.ok.noex,I.ok.exfs,I.ok.funs,I.ok.frf⟩,I.os,I.bare,I.base,I.loc,I.cell,I.free,I.freeC,I.pin,I.hok,I.len⟩
structure FnX (P:Bc)(w:Bx)(K:Aj)(mg:Aq->Al Ac)(base:Bs)(cm:Ar)(k:Ai)(f:Af)(fd:Fi)(ps:Aa Aq)(sp:Sp):Prop where
 len:∀ vs H Q E,sp vs H Q E->vs.length=ps.length
 run:∀ (A:Bk) (outer:Aa Ie) (s:Ag) (H:Hp) (args:Args) (us:Aa Ac) (vs:Aa V) (Q:VK) (E:XK),RoomC cm k A->Env0 P w K mg base A outer s H->Oe s fd args (ps.zip us)->qL vs us->sp vs H Q E ->
  Ih (As P w) A (.call (.ref f) args) (CR (CXd P w) outer P w H s Q E) s
theorem FnX.ok {P:Bc}{w:Bx}{K:Aj}{mg:Aq->Al Ac}{base:Bs}{k:Ai}{f:Af}{fd:Fi}{ps:Aa Aq}(F:FnX P w K mg base true k f fd ps sp):FnOk P w K mg base (CXd P w) k f fd ps sp:=
 ⟨F.len,λA outer s H args us vs Q E hr=>F.run A outer s H args us vs Q E (.of hr)⟩
theorem FnX.any {P:Bc}{w:Bx}{K:Aj}{mg:Aq->Al Ac}{base:Bs}{cm:Ar}{k:Ai}{f:Af}{fd:Fi}{ps:Aa Aq}(F:FnX P w K mg base false k f fd ps sp):FnX P w K mg base cm k f fd ps sp:=
 ⟨F.len,λA outer s H args us vs Q E hr=>F.run A outer s H args us vs Q E hr.any⟩
theorem FnX.imp {P:Bc}{w:Bx}{K:Aj}{mg:Aq->Al Ac}{base:Bs}{cm:Ar}{k:Ai}{f:Af}{fd:Fi}{ps:Aa Aq}{sp':Sp}(F:FnX P w K mg base cm k f fd ps sp)
  (h:∀ vs H Q E,sp' vs H Q E->sp vs H Q E):FnX P w K mg base cm k f fd ps sp':=
 ⟨λvs H Q E q=>F.len vs H Q E (h _ _ _ _ q),λA outer s H args us vs Q E hr he hb hv hs=>F.run A outer s H args us vs Q E hr he hb hv (h _ _ _ _ hs)⟩
def cxC (cm:Ar)(P:Bc)(w:Bx)(K:Aj)(mg:Aq->Al Ac)(base:Bs)(N:Aa Aq)(qual:Aq)(scope:Ei)(f:Af)(cd:Ac)(A:Bk)(outer:Aa Ie)(s:Ag)(H:Hp)(E:XK):Cx where
 prog:=P
 w:=w
 K:=K
 mg:=mg
 base:=base
 A:=A.deeper (Gb qual scope s.heap.objs.size f cd)
 N:=N
 s₀:=s
 H₀:=H
 env:=Gb qual scope s.heap.objs.size f cd
 outer:=outer
 stack:=Gb qual scope s.heap.objs.size f cd::outer
 ex:=[]
 calm:=cm
 fn:=λ_=>true
 pn:=[]
 xe:=λe s'=>Ap (As P w) (A.deeper (Gb qual scope s.heap.objs.size f cd)) (leaving (Gb qual scope s.heap.objs.size f cd) e) (λ_ s''=>CXd P w outer H s E e s'') (λe' s''=>CXd P w outer H s E e' s'') s'
section
variable {P:Bc}{w:Bx}{K:Aj}{mg:Aq->Al Ac}{base:Bs}{cm:Ar}{N:Aa Aq}{qual:Aq}{scope:Ei}{f:Af}{cd:Ac}{A:Bk}{outer:Aa Ie}{s:Ag}{H:Hp}{E:XK}
theorem YX:Rg (As P w) (A.deeper (Gb qual scope s.heap.objs.size f cd)) (Gb qual scope s.heap.objs.size f cd) (cxC cm P w K mg base N qual scope f cd A outer s H E).xe:=PassesOwn.leaving (Q₁:=λe s''=>CXd P w outer H s E e s'')
abbrev xeL (P:Bc)(w:Bx)(A:Bk)(env:Ie)(outer:Aa Ie)(H:Hp)(s:Ag)(E:XK):Ac->Ag->Prop:=λe s'=>Ap (As P w) (A.deeper env) (leaving env e) (λ_ s''=>CXd P w outer H s E e s'') (λe' s''=>CXd P w outer H s E e' s'') s'
theorem rW {X:Cx}{P0:Hp}{α:Aa Af}{c:Ac}{x:D}{s':Ag}(hA:X.A=A.deeper X.env)(k:XOk X P0 α c x S u s')
  (q:∀ H' P' α',Rel X.K H' P' α' S->qD P0 P'->α<+:α'->E c none H'):xeL X.prog X.w A X.env X.outer X.H₀ X.s₀ E u s':=by
 obtain⟨e,pins,σ,H1,P1,α1,rfl,I,r,e1,e2,F,fl⟩:=k;unfold xeL;rw[<- hA];refine XZ I F I.ok.frames fl λh' B a0 x1 I1 cv=>?_;refine⟨e,c,H1,B,a0,rfl,I1.os,I1.bare,by have z:=I1.base;rw[F.1] at z;exact z,I1.hok,x1,λb o eb hb n=>cv b o eb ?_ λz=>?_,q H1 P1 α1 r e1 e2⟩
 .rcases hb with z|z
  .exact .inl z
  .exact .inr (.inl z)
 .rcases (Fn1.mem F).mp z with z|z
  .subst z
   rcases hb with⟨o',e'⟩|z
   .exact absurd (Ay e') (Nw.mpr I1.ok.above)
   .exact z I1.free
  .exact n z
theorem QM {ps:Aa Aq}{s1:Ag}(S:FnScope N ps scope)(hd:cm=true->A.handled=none)(e0:Env0 P w K mg base A outer s H)(hl:vs.length=ps.length)(r:qL vs us)
  (x:InCallC s s.heap.objs.size (Vq (Gb qual scope s.heap.objs.size f cd).kindOf (ps.zip us) λ_=>none) (Hj (s.heap.objs.size+1) scope.names []) (Vr (Gb qual scope s.heap.objs.size f cd).kindOf (ps.zip us) λ_=>none) s1) :
  Inv (cxC cm P w K mg base N qual scope f cd A outer s H E) [] (_L.xQ N vs) H s1:=by
 have I:=dQ (CX:=CXd P w) (E:=E) (A:={ A with handled:=none }) S rfl ⟨e0.frames,e0.mod,e0.bs,e0.bsz,e0.funs,e0.frf,e0.hok,e0.bare⟩ hl r x
 have J:=Inv.re I (A.deeper (Gb qual scope s.heap.objs.size f cd)) cm (cxC cm P w K mg base N qual scope f cd A outer s H E).xe (Pa e0.frames) hd;exact J
end
theorem XG {P:Bc}{w:Bx}{K:Aj}{mg:Aq->Al Ac}{base:Bs}{cm:Ar}{k:Ai}{f:Af}{qual:Aq}{params:Pj}{scope:Ei}{oc:Ac}{an:Al Af}{osl:Aw (Al Ac)}{x:Aq}{kV doc pm cdv ct:Ac}{N ps:Aa Aq}
  {A:Bk} {outer:Aa Ie} {s:Ag} {H:Hp} {args:Args} {us:Aa Ac} {vs:Aa V} {Q:VK} {E:XK} (lk:K.lookup f=Ab ⟨oc,od,.func (Gi x qual params body scope .none kV doc pm an cdv ct),osl⟩) (hcd:Ld K cdv qual=true) (S:FnScope N ps scope) (hl:vs.length=ps.length) (hr:RoomC cm (k+1) A)
  (e0:Env0 P w K mg base A outer s H) (hb:Oe s (Gi x qual params body scope .none kV doc pm an cdv ct) args (ps.zip us)) (r:qL vs us)
  (hbody:∃ t,PSs (cxC cm P w K mg base N qual scope f cdv A outer s H E) body t/\t { nx:=λ_ H'=>Q .non H',rt:=Q } (_L.xQ N vs) H) :
  Ih (As P w) A (.call (.ref f) args) (CR (CXd P w) outer P w H s Q E) s:=by
 have KX:K.In s.heap:=e0.mod.kin.keeps λb o e=>(e0.bs b o e).1;have lim:s.heap.NoLimit:=e0.mod.nolimit.keeps λb o e=>(e0.bs b o e).1;have hkind:∀ y∈ps.zip us,scope.names.lookup y.1=Ab .local \/ (scope.names.lookup y.1=Ab .cell/\((Hj (s.heap.objs.size+1) scope.names []).lookup y.1).isSome=true):=λ⟨n,v⟩ hy=>by
  rcases S.par n (Ma hy).1 with q|q
  .exact .inl q
  .exact .inr ⟨q,Kh _ _ _ (.inl q)⟩
 refine Ud hr.depth (KX _ _ lk) rfl S.co S.gen rfl (Wl KX hcd) (hb _ _ _ _ ?_);refine Qw S.kind hkind λenv he s1 x=>?_;subst he;refine⟨lim.keeps x.toInCall.keep,codeAny_func ?_⟩;obtain⟨t,ht,hq⟩:=hbody;have I:Inv (cxC cm P w K mg base N qual scope f cdv A outer s H E) [] (_L.xQ N vs) H s1:=QM S hr.hd e0 hl r x;refine Gq (ht [] s1 (_L.xQ N vs) H _ I hq) (λfl s' hs=>?_) λe s' hs=>hs;have fin:∀ {σ' : _L.St} {H':Hp} {v:V} {u:Ac},Inv (cxC cm P w K mg base N qual scope f cdv A outer s H E) [] σ' H' s'->qJ v u->Q v H'->CE outer P w H s Q u s':=
  λ{σ' H' v u} J rv q=>⟨v,H',J.os,J.bare,J.base,J.hok,rv,q⟩
 cases fl with
 |ret u =>
  obtain⟨v,σ',H',J,rv,q⟩:=hs;exact fin J rv q
 |next =>
  obtain⟨σ',H',J,q⟩:=hs;exact fin (v:=V.non) (u:=Cz) J rfl q
 |brk =>
  obtain⟨_,_,_,q⟩:=hs;exact Ao q
 |cont =>
  obtain⟨_,_,_,q⟩:=hs;exact Ao q
def kN (K:Aj)(x:Aq)(cdv:Ac):Prop:=∀ c T,Ds K x=Ab (c,T)->cdv=.ref c
theorem LK {P:Bc}{w:Bx}{K:Aj}{mg:Aq->Al Ac}{base:Bs}{cm:Ar}{k:Ai}{f:Af}{x qual:Aq}{st:Fq}{fd:Fi}{N ps:Aa Aq}(F:Fun K x qual st f fd)(S:FnScope N ps (qF st))
  (len:∀ vs H Q E,sp vs H Q E->vs.length=ps.length)
  (hbody:∀ (cdv:Ac) (A:Bk) (outer:Aa Ie) (s:Ag) (H:Hp) (vs:Aa V) (Q:VK) (E:XK),fd.code=cdv/\Mod K mg base->RoomC cm k (A.deeper (Gb qual (qF st) s.heap.objs.size f cdv))->sp vs H Q E ->
   ∃ t,PSs (cxC cm P w K mg base N qual (qF st) f cdv A outer s H E) (zJ st) t/\t { nx:=λ_ H'=>Q .non H',rt:=Q } (_L.xQ N vs) H) :
  FnX P w K mg base cm (k+1) f fd ps sp:=by
 obtain⟨oc,od,kV,doc,pm,an,cdv,ct,osl,rfl,lk,hcd⟩:=F.ex;exact⟨len,λA outer s H args us vs Q E hr e0 hb r hsp=>XG lk hcd S (len _ _ _ _ hsp) hr e0 hb r (hbody cdv A outer s H vs Q E ⟨rfl,e0.mod⟩ (hr.deeper _) hsp)⟩
def yK (n:Ai)(ds:Aa D):qB:=ds.map Ab++sK (n-ds.length) none
def Z4:Out->Res D
 |.rt d S=>.ok d S
 |.nx _ S=>.ok .non S
 |.ex c x _ S=>.ex c x S
 |_=>.bad
def qM (n:Ai)(g:DS):DF:=λds S=>Z4 (g (yK n ds) S)
def spR (K:Aj)(P:Hp)(α : Aa Af)(R:Res D)(Q:VK)(E:XK):Prop:=match R with
 |.ok d S'=>∀ v H' P' α',Rel K H' P' α' S'->qD P P'->α<+:α'->Rep K P' α' d v->Q v H'
 |.ex c _ S'=>∀ H' P' α',Rel K H' P' α' S'->qD P P'->α<+:α'->E c none H'
 |.bad=>Fh
def spD (K:Aj)(n:Ai)(F:DF):Sp:=λvs H Q E=>vs.length=n/\∃ P α ds S,Rel K H P α S/\qC K P α ds vs/\spR K P α (F ds S) Q E
theorem Z7 {K:Aj}{P:Hp}{α:Aa Af}{N:Aa Aq}{ds:Aa D}(r:qC K P α ds vs):z9 K P α (_L.xQ N vs) (yK N.length ds):=by
 refine⟨by simp[yK,_L.xQ,r.length],λi d e=>?_⟩
 unfold yK at e;unfold _L.xQ;by_cases hi:i<ds.length
 .rw[Be (by simpa using hi),Cg] at e
  rw[Be (by rw[Au,<- r.length];exact hi),Cg]
  cases q:ds[i]? with
  |none=>rw[q] at e;cases e
  |some d' =>
   rw[q] at e;cases e;obtain⟨v,h1,h2⟩:=r.get q;exact⟨v,by rw[h1];rfl,h2⟩
 .rw[Cp (by simpa using hi),Sv] at e
  split at e <;> cases e
section
variable {P:Bc}{w:Bx}{K:Aj}{mg:Aq->Al Ac}{base:Bs}{cm:Ar}
theorem rK {qual:Aq}{scope:Ei}{f:Af}{cdv:Ac}{A:Bk}{outer:Aa Ie}{s:Ag}{H P':Hp}{E:XK}{N:Aa Aq}{g:DS}{α:Aa Af}{ds:Aa D}{S':Sto}(hb:PSs (cxC cm P w K mg base N qual scope f cdv A outer s H E) body (tDS (cxC cm P w K mg base N qual scope f cdv A outer s H E) g))
  (r:Rel K H P' α S') (rp:qC K P' α ds vs) (af:spR K P' α (qM N.length g ds S') Q E):∃ t,PSs (cxC cm P w K mg base N qual scope f cdv A outer s H E) body t/\t { nx:=λ_ H'=>Q .non H',rt:=Q } (_L.xQ N vs) H:=by
 refine⟨_,hb,P',α,yK N.length ds,S',r,Z7 rp,?_⟩;unfold qM at af;cases q:g (yK N.length ds) S' with
 |rt d S1=>rw[q] at af;exact λv H' P1 α1 r1 e1 e2 p1=>af v H' P1 α1 r1 e1 e2 p1
 |nx env S1=>rw[q] at af;exact λσ' H' P1 α1 r1 re1 e1 e2=>af .non H' P1 α1 r1 e1 e2 (by simp only[Rep])
 |bk env S1=>rw[q] at af;exact Ao af
 |ct env S1=>rw[q] at af;exact Ao af
 |ex c x env S1=>rw[q] at af;exact λu s' z=>rW (A:=A) rfl z λH' P1 α1 r1 e1 e2=>af H' P1 α1 r1 e1 e2
 |bad=>rw[q] at af;exact Ao af
theorem fnX {x qual:Aq}{st:Fq}{f:Af}{fd:Fi}{N ps:Aa Aq}{k:Ai}{g:DS}(F:Fun K x qual st f fd)(S:FnScope N ps (qF st))
  (hbody:∀ (cdv:Ac) (A:Bk) (outer:Aa Ie) (s:Ag) (H:Hp) (E:XK),fd.code=cdv/\Mod K mg base->RoomC cm k (A.deeper (Gb qual (qF st) s.heap.objs.size f cdv)) ->
   PSs (cxC cm P w K mg base N qual (qF st) f cdv A outer s H E) (zJ st) (tDS (cxC cm P w K mg base N qual (qF st) f cdv A outer s H E) g)) :
  FnX P w K mg base cm (k+1) f fd ps (spD K ps.length (qM N.length g)):=by
 refine LK F S (λvs H Q E h=>h.1) λcdv A outer s H vs Q E hc hr h=>?_;obtain⟨hl,P',α,ds,S',r,rp,af⟩:=h;exact rK (hbody cdv A outer s H E hc hr) r rp af
end
section
variable {X:Cx}{cm:Ar}{k:Ai}{f:Af}{fd:Fi}{ps:Aa Aq}{F:DF}{x:Aq}{p pos:Ey}{e:Bw}{es:Aa Bw}{fa:DA}{n:Ai}
def qI (n:Ai)(F:DF)(fa:DA):DE:=λenv S=>(fa env S).bind λds S1=>if ds.length=n then F ds S1 else .bad
def EX (X:Cx)(P:Hp)(α : Aa Af)(R:Res D):XK:=λc _ H'=>match R with
 |.ex c' _ S'=>c=c'/\∃ P' α',Rel X.K H' P' α' S'/\qD P P'/\α<+:α'
 |_=>Fh
theorem cL {P:Hp}{α:Aa Af}{R:Res D}(af:qP X P α R Q):spR X.K P α R Q (EX X P α R):=by
 cases R with
 |ok d S'=>exact af
 |ex c x S'=>exact λH' P' α' r' e1 e2=>⟨rfl,P',α',r',e1,e2⟩
 |bad=>exact af
theorem fZ {pins:Aa (Af × Cj)}{σ:_L.St}{H:Hp}{s:Ag}{P:Hp}{α:Aa Af}{R:Res D}(hF:(∃ c x S',R=.ex c x S')->Fn1 X)(I:Inv X pins σ H s)(af:qP X P α R Q)
  (h:Ih (As X.prog X.w) X.A (.call u ⟨us,[]⟩) (CR (CXd X.prog X.w) X.stack X.prog X.w H s Q (EX X P α R)) s):Ap (As X.prog X.w) X.A (call u us) (EP X pins σ Q) X.xe s:=by
 refine Vx (Jh h λr s' hq=>?_);cases r with
 |error u =>
  have hq:CXd X.prog X.w X.stack H s (EX X P α R) u s':=hq;cases R with
  |ok d S'=>obtain⟨_,_,_,_,_,_,_,_,_,_,_,_,q⟩:=hq;exact Ao q
  |bad=>exact Ao af
  |ex c' x' S' =>
   have hG:=hF ⟨_,_,_,rfl⟩;obtain⟨a,c,H',rfl,I',fl,rfl,P',α',r',e1,e2⟩:=LI I hG hq;exact af _ _ ⟨a,pins,σ,H',P',α',rfl,I',r',e1,e2,hG,fl⟩
 |ok fl =>
  cases fl with
  |ret u=>exact I.after hq
  |next=>exact Ao hq
  |brk=>exact Ao hq
  |cont=>exact Ao hq
theorem M9 {pins:Aa (Af × Cj)}{σ:_L.St}{H:Hp}{s:Ag}{P:Hp}{α:Aa Af}{ds:Aa D}(G:FnX X.prog X.w X.K X.mg X.base cm k f fd ps (spD X.K n F))(hr:RoomC cm k X.A)(hb:vH X.K fd ps [])(hF:Fn1 X)
  (I:Inv X pins σ H s) (r:Rel X.K H P α S) (rv:qL vs us) (rp:qC X.K P α ds vs) (hn:ds.length=n) (af:qP X P α (F ds S) Q):Ap (As X.prog X.w) X.A (call (.ref f) us) (EP X pins σ Q) X.xe s:=by
 have hsp:spD X.K n F vs H Q (EX X P α (F ds S)):=⟨by rw[<- rp.length];exact hn,P,α,ds,S,r,rp,cL af⟩
 have hl:us.length=ps.length:=by rw[<- rv.length];exact G.len _ _ _ _ hsp
 have hb':=hb s us I.kIn (by rw[Fw];exact hl)
 rw[Fw] at hb';exact fZ (λ_=>hF) I af (G.run X.A X.stack s H ⟨us,[]⟩ us vs Q _ hr I.env0 hb' rv hsp)
theorem dJ {env:qB}{S S1:Sto}{P:Hp}{α:Aa Af}{ds:Aa D}{Ok:D->Sto->Prop}(h:qG X P α (if ds.length=n then F ds S1 else .bad) Ok):ds.length=n/\qG X P α (F ds S1) Ok:=by
 by_cases hn:ds.length=n
 .rw[Bf hn] at h;exact⟨hn,h⟩
 .rw[Bb hn] at h;exact Ao h
theorem GT (G:FnX X.prog X.w X.K X.mg X.base cm k f fd ps (spD X.K n F))(hr:RoomC cm k X.A)(hF:Fn1 X)(hg:Gl X x)(hm:X.mg x=Ab (.ref f))(hk:Gj X.K (.ref f)=true)(hb:vH X.K fd ps [])
  (ha:PA X (e::es) (tDA X fa)) (hdb:(x == ("__debug__" : Aq))=false:=by decide) (he:Bm (e::es) X.env=(false,eval e X.env)::Bm es X.env:=by rfl) (hpl:(Ft pos (Bm es X.env)).any (·.1)=false:=by rfl) :
  PE X (.Call (.Name x p) (e::es) [] pos) (tD X (qI n F fa)):=by
 intro pins s σ H Q I h;obtain⟨P,α,env,S,r,re,af⟩:=h;refine Ho (kG I hg hm ?_ hdb);refine Qo (h₀:=X.base) I.ok.mod.kin hk (thn (wA ha I r re af pos) λus s1 ⟨vs,H1,P1,α1,ds,S1,I1,rv,r1,re1,rp,e1,e2,af1⟩=>⟨I1.kIn,?_⟩) he hpl;obtain⟨hn,af2⟩:=dJ (env:=env) (S:=S) af1;exact M9 G hr hb hF I1 r1 rv rp hn (qP.base e1 e2 af2)
end
abbrev rH:Aa Ac:=[.type "ValueError",.type "Exception",.type "BaseException",.type "object"]
def CA:Ac->Ar
 |.str _ _=>true
 |_=>false
def kI (K:Aj)(N:Af):Ar:=(match Og N K with
 |some o=>match o.data with
  |.dict es _=>es.toList.all λe=>CA e.key
  |_=>false
 |none=>false)&&decide (Fd K N "__init__" = Ab none)
theorem y9 {K:Aj}{N:Af}(h:kI K N=true):u8 K N=true/\Fd K N "__init__" = Ab none:=by
 unfold kI at h;rw[Av,Ce] at h;refine⟨?_,h.2⟩;have h1:=h.1;unfold u8;cases e:Og N K with
 |none=>rw[e] at h1;cases h1
 |some o =>
  rw[e] at h1;obtain⟨oc,od,dt,sl⟩:=o;cases dt with
  |dict es ep =>
   simp only at h1 ⊢;rw[Array.all_toList] at h1;refine Eq.trans (congrArg (λf=>Array.all es f) (funext λe=>?_)) h1;cases e.key <;> rfl
  |_=>cases h1
def r8 (K:Aj)(C:Af)(f:Ac->Xx->Aw (Al Ac)->Ar):Ar:=match Og C K with
 |some o=>(match o.data with|.cls cd=>f o.cls cd o.slots|_=>false)
 |none=>false
theorem hZ {K:Aj}{f:Ac->Xx->Aw (Al Ac)->Ar}(h:r8 K C f=true):∃ oc od cd sl,Og C K=Ab ⟨oc,od,.cls cd,sl⟩/\f oc cd sl=true:=by
 unfold r8 at h;cases e:Og C K with
 |none=>rw[e] at h;exact Dg h
 |some o =>
  rw[e] at h;obtain⟨oc,od,dt,sl⟩:=o;cases dt with
  |cls cd=>exact⟨oc,od,cd,sl,rfl,h⟩
  |_=>exact Dg h
def m9 (K:Aj)(C A:Af):Ar:=r8 K C λoc cd sl=>r8 K A λ_ ca _=>decide (oc=.type "type")&&(decide (cd.mro=.ref C::.ref A::rH)&&(!cd.hasDel&&(kI K cd.ns&&(kI K ca.ns&&(decide (sl.toList.length=6)&&decide (sl.toList[4]? = Ab (Ab (.builtin "ValueError.__new__"))))))))
inductive ExcO (h:Bs)(C:Af):Prop
 |mk (nm q:Aq) (N:Af) (bs bm:Aa Ac) (hdct:Ar) (sn:Aa Aq) (sub:Aa Ac) (ab:Ar) (col:Al Ar) (dd:Al Af) (k0 k1 k2 k3 k5:Al Ac) (mN:Aq->Al Ac) (hC:h.get? C=Ab (excClassObj nm q C N bs bm hdct sn sub ab col dd k0 k1 k2 k3 k5 "ValueError.__new__")) (hN:h.Ns N mN) (hni:mN "__init__" = none) (T:OwnTail h rH bm):ExcO h C
theorem lR {β:Type}{l:Aa β}{n:Ai}(h:l.length=n+1):∃ a t,l=a::t/\t.length=n:=by
 cases l with
 |nil=>exact Nat.noConfusion h
 |cons a t=>exact⟨a,t,rfl,Nat.succ.inj h⟩
theorem six {β:Type}{l:Aa β}(h:l.length=6):∃ a b c d e f,l=[a,b,c,d,e,f]:=by
 obtain⟨a,t,e1,h⟩:=lR h;obtain⟨b,t2,e2,h⟩:=lR h;obtain⟨c,t3,e3,h⟩:=lR h;obtain⟨d,t4,e4,h⟩:=lR h;obtain⟨e,t5,e5,h⟩:=lR h;obtain⟨f,t6,e6,h⟩:=lR h;exact⟨a,b,c,d,e,f,by rw[e1,e2,e3,e4,e5,e6,Na.mp h]⟩
theorem SE {cd:Xx}{tl:Aa Ac}{k0 k1 k2 k3 k4 k5:Al Ac}{n:Em}(hm:cd.mro=.ref C::tl)(hd:cd.hasDel=false)(hs:sl.toList=[k0,k1,k2,k3,k4,k5])(hn:sl.toList[4]? = Ab (Ab (.builtin n))) :
  (⟨.type "type",od,.cls cd,sl⟩:Cj)=excClassObj cd.name cd.qualname C cd.ns cd.bases tl cd.hasDict cd.slotNames cd.subclasses cd.abstract cd.collection od k0 k1 k2 k3 k5 n:=by
 rw[hs] at hn;cases hn;cases cd;cases sl;cases hm;cases hd;cases hs;rfl
theorem PP {K:Aj}{h:Bs}{A:Af}{cd:Xx}(KI:K.In h)(e:Og C K=Ab ⟨.type "type",od,.cls cd,sl⟩)(h2:cd.mro=.ref C::.ref A::rH)(h3:cd.hasDel=false)(h4:kI K cd.ns=true)(h6:sl.toList.length=6)(h7:sl.toList[4]? = Ab (Ab (.builtin "ValueError.__new__")))(T:OwnTail h rH (.ref A::rH)):ExcO h C:=by
 obtain⟨k0,k1,k2,k3,x,k5,es⟩:=six h6;exact⟨_,_,_,_,_,_,_,_,_,_,_,k0,k1,k2,k3,k5,_,(KI _ _ e).trans (congrArg Ab (SE h2 h3 es h7)),.of_isNs (Ws KI (y9 h4).1),Se KI (y9 h4).1 (y9 h4).2,T⟩
theorem PQ {K:Aj}{h:Bs}{A:Af}(KI:K.In h)(z:m9 K C A=true):ExcO h C:=by
 obtain⟨oc,od,cd,sl,e,z⟩:=hZ z;obtain⟨qc,qd,ca,ql,e2,z⟩:=hZ z;have a1:=Hu.mp z;have a2:=Hu.mp a1.2;have a3:=Hu.mp a2.2;have a4:=Hu.mp a3.2;have a5:=Hu.mp a4.2;have a6:=Hu.mp a5.2;rw[Ca a1.1] at e;exact PP KI e (Ca a2.1) (Ku _▸a3.1) a4.1 (Ca a6.1) (Ca a6.2) (.own (KI _ _ e2) (.of_isNs (Ws KI (y9 a5.1).1)) (Se KI (y9 a5.1).1 (y9 a5.1).2) .base)
section
variable {X:Cx}{pos:Ey}{fa:DA}
def bF (c:Ac)(fa:DA):DS:=λenv S=>(fa env S).toS env λds S1=>if ds.length<=lim then .ex c .non env S1 else .bad
inductive GotAS (X:Cx)(pins:Aa (Af × Cj))(σ : _L.St)(env:qB)(P:Hp)(α : Aa Af)(us:Aa Ac)(s1:Ag)(k:Aa D->Sto->Out)(E:Ends):Prop
 |mk (vs:Aa V) (H1 P1:Hp) (α1:Aa Af) (ds:Aa D) (S1:Sto) (I:Inv X pins σ H1 s1) (rv:qL vs us) (r:Rel X.K H1 P1 α1 S1) (re:z9 X.K P1 α1 σ env) (rp:qC X.K P1 α1 ds vs) (e1:qD P P1) (e2:α<+:α1) (q:z0 X P1 α1 (k ds S1) E):GotAS X pins σ env P α us s1 k E
theorem GQ {es:Aa Bw}{k:Aa D->Sto->Out}{pins:Aa (Af × Cj)}{s:Ag}{σ:_L.St}{H P:Hp}{α:Aa Af}{env:qB}{D:Ends}(he:PA X es (tDA X fa))(I:Inv X pins σ H s)(r:Rel X.K H P α S)
  (re:z9 X.K P α σ env) (af:z0 X P α ((fa env S).toS env k) D) (pos:Ey) :
  Ap (As X.prog X.w) X.A (spliced (Ft pos (Bm es X.env))) (λus s1=>GotAS X pins σ env P α us s1 k D) X.xe s:=by
 have af1:qG X P α ((fa env S).bind λd S=>.ok d S) λd S=>z0 X P α (k d S) D:=by
  have:=w5 af;cases q:fa env S <;> rw[q] at this <;> exact this
 exact thn (wA he I r re af1 pos) λu s1 ⟨vs,H1,P1,α1,ds,S1,I1,rv,r1,re1,rp,e1,e2,q⟩=>⟨vs,H1,P1,α1,ds,S1,I1,rv,r1,re1,rp,e1,e2,z0.base e1 e2 q⟩
theorem VB {x:Aq}{Ae:Af}{e₀:Bw}{rest:Aa Bw}{np cpos:Ey}(hc:X.calm=true)(hF:Fn1 X)(hg:Gl X x)(hm:X.mg x=Ab (.ref C))(hx:m9 X.K C Ae=true)(ha:PA X (e₀::rest) (tDA X fa))
  (hdb:(x == ("__debug__" : Aq))=false:=by decide) (he:Bm (e₀::rest) X.env=(false,eval e₀ X.env)::Bm rest X.env:=by rfl) (hpl:(Ft cpos (Bm rest X.env)).any (·.1)=false:=by rfl) :
  PS X (.Raise (Ab (.Call (.Name x np) (e₀::rest) [] cpos)) none pos) (tDS X (bF (.ref C) fa)):=by
 intro pins s σ H D I h;obtain⟨P,α,env,S,r,re,af⟩:=h;obtain⟨nm,qn,N,bs,tl,hdct,sn,sub,ab,col,dd,k0,k1,k2,k3,k5,mN,hC,hN,hni,T⟩:=PQ I.mod.kin hx;refine wpAny_Raise_call_subT (C:=C) (nm:=nm) (q:=qn) (N:=N) (bs:=bs) (bm:=tl) (hdct:=hdct) (sn:=sn) (sub:=sub) (ab:=ab) (col:=col) (dd:=dd) (k0:=k0) (k1:=k1) (k2:=k2) (k3:=k3) (k5:=k5)
  Qz (mN:=mN) (T.hasType Qz.hasBase) (I.ok.hd hc) (by rw[he];show (false||(Ft cpos (Bm rest X.env)).any (·.1))=false;rw[hpl];rfl) hni (kG I hg hm ⟨rfl,?_⟩ hdb)
 have run:=GQ ha I r re af cpos;rw[he] at run ⊢;refine Vg (thn run λus s2 ⟨vs,H1,P1,α1,ds,S1,I1,rv,r1,re1,rp,e1,e2,q⟩=>?_);have hl:us.length=ds.length:=by rw[rp.length,rv.length]
 by_cases hz:ds.length<=lim
 .rw[Bf hz] at q
  refine⟨rfl,by rw[hl,<- zV];exact hz,I1.bk _ _ hC,hN.keeps I1.bk,T.keeps I1.bk,λh' e hm=>q _ _ ⟨e,pins,σ,H1,P1,α1,rfl,I1.kept (t':=s2.toks) hm.keeps,r1,qD.refl _,Bg _,hF,.new s2.heap us hm I1.stack λb o eb old=>?_⟩⟩
  obtain⟨o1,q1⟩:=Old.there I1 hF old;have q2:=hm.keeps b o1 q1;rw[eb] at q2;cases q2;exact q1
 .rw[Bb hz] at q;exact Ao q
end
abbrev Cx.tryIn (X:Cx)(E:Ac->Ag->Prop)(pn:Aa (Af × Cj)):Cx:={ X with xe:=E,pn:=pn }
end _D
namespace _D
open PySem PySem.Spec PyProof.Rows _L PySem.W
structure ExnK (K:Aj)(C:Af):Prop where
 ga:findIn K (.ref C) "__getattribute__" = Ab (Ab (.builtin "BaseException.__getattribute__"))
 hk:findIn K (.ref C) "__getattr__" = Ab none
 cl:findIn K (.ref C) "__class__" = Ab (Ab (.builtin "object.__class__"))
 sp:specialIn K (.builtin "object.__class__") "__get__" = Ab (Ab (.builtin "getset_descriptor.__get__"))
 tk:takesIn K (.builtin "object.__class__")=Ab true
 mo:mroIn K C (.type "object")=Ab true
 mb:mroIn K C (.type "BaseException")=Ab true
 isC:(clsIn K C).isSome=true
end _D
namespace _D
open PySem PySem.Spec PyProof.Rows _L
variable {cells:Aa (Aq × Af)}{α α1:Aa Af}{ds:Aa D}{E:Ac->Ag->Prop}{C:Af}{s:Ag}{K:Aj}{w:Bx}{o:Cj}{H P P1:Hp}{S S1:Sto}
theorem gY {α:Type}{t:Ke α}{Q Q':α->Ag->Prop}{M:Nl}{A:Bk}(h:Ap M A t Q (λ_ _=>Fh) s)(hQ:∀ a s,Q a s->Q' a s):Ap M A t Q' E s:=Gq h hQ λ_ _ x=>x.elim
def uY (ifs:Aa Bw)(env:Ie):Ke Ar:=forIn ifs true λc r=>if r=true then do let ok <- AaD c env (eval c env);pure (Km ok) else pure (Km r)
def PTs (X:Cx)(ifs:Aa Bw)(t:DT):Prop:=
 ∀ (pins:Aa (Af × Cj)) (s:Ag) (σ : _L.St) (H:Hp) (Q:Ar->Hp->Prop),Inv X pins σ H s->tDT X t σ H Q->Ap (As X.prog X.w) X.A (uY ifs X.env) (TP X pins σ Q) X.xe s
def xM:DT:=λ_ S=>.ok true S
section
variable {X:Cx}
theorem fQ {prog:Bc}{A:Bk}{env:Ie}{Q:Ar->Ag->Prop}:∀ (ifs:Aa Bw) {s:Ag},Q false s ->
  Ap (As prog w) A (forIn ifs false λc r=>if r=true then do let ok <- AaD c env (eval c env);pure (Km ok) else pure (Km r)) Q E s
 |[],s,h=>by rw[Ni];exact An h
 |c::cs,s,h=>by
  rw[Mc];rw[Bb (by simp)]
  refine Ad (An ?_);exact fQ cs h
theorem PL:PTs X [] xM:=λpins s σ H Q I ⟨P,α,env,S,r,re,af⟩=>by
 unfold uY;rw[Ni];exact An ⟨H,I,af H P α r (qD.refl _) (Bg _)⟩
theorem VE {c:Bw}{cs:Aa Bw}{t u:DT}(h1:PT X c (tDT X t))(h2:PTs X cs u):PTs X (c::cs) (wV t u):=λpins s σ H Q I ⟨P,α,env,S,r,re,af⟩=>by
 unfold uY;rw[Mc,Bf rfl];refine Ad (Ad (thn (kB (λQ' q=>h1 pins s σ H Q' I q) r re af) λb s1 ⟨H1,P1,α1,S1,I1,r1,re1,e1,e2,af1⟩=>An ?_));cases b with
 |true=>exact h2 pins s1 σ H1 Q I1 ⟨P1,α1,env,S1,r1,re1,wH.base e1 e2 af1⟩
 |false=>exact fQ cs ⟨H1,I1,af1 H1 P1 α1 r1 e1 e2⟩
theorem qAD {e:Bw}{f:DE}{pins:Aa (Af × Cj)}{σ:_L.St}{env:qB}{d:D}(he:PE X e (tD X f))(I:Inv X pins σ H s)(r:Rel X.K H P α S)(re:z9 X.K P α σ env)(q:f env S=.ok d S1) :
  Ap (As X.prog X.w) X.A (eval e X.env) (λu s1=>∃ v H1 P1 α1,Got X pins σ env P α u s1 v H1 P1 α1 d S1) X.xe s:=by
 refine thn (zN (g:=λd S=>Res.ok d S) (Ok:=λd' S'=>d'=d/\S'=S1) he I r re (by rw[q];exact⟨rfl,rfl⟩)) λu s1 ⟨v,H1,P1,α1,d',S',G,h1,h2⟩=>?_
 have e1:d'=d:=h1;have e2:S'=S1:=h2;subst e1;subst e2;exact⟨v,H1,P1,α1,G⟩
theorem AF {ifs:Aa Bw}{t:DT}{pins:Aa (Af × Cj)}{σ:_L.St}{env:qB}{b:Ar}(he:PTs X ifs t)(I:Inv X pins σ H s)(r:Rel X.K H P α S)(re:z9 X.K P α σ env)(q:t env S=.ok b S1) :
  Ap (As X.prog X.w) X.A (uY ifs X.env) (λb' s1=>b'=b/\∃ H1 P1 α1,Inv X pins σ H1 s1/\Rel X.K H1 P1 α1 S1/\z9 X.K P1 α1 σ env/\qD P P1/\α<+:α1) X.xe s:=by
 refine thn (he pins s σ H (λb' H1=>b'=b/\∃ P1 α1,Rel X.K H1 P1 α1 S1/\z9 X.K P1 α1 σ env/\qD P P1/\α<+:α1) I ⟨P,α,env,S,r,re,?_⟩) λb' s1 ⟨H1,I1,e,P1,α1,q1,q2,q3,q4⟩=>⟨e,H1,P1,α1,I1,q1,q2,q3,q4⟩;rw[q];exact λH' P' α' r' e1 e2=>⟨rfl,P',α',r',re.mono e1 e2,e1,e2⟩
theorem qAE {tg:Bw}{g:DG}{pins:Aa (Af × Cj)}{σ:_L.St}{env env1:qB}{d:D}{v:V}{u:Ac}(hg:PG X tg (tDG X g))(I:Inv X pins σ H s)(r:Rel X.K H P α S)(re:z9 X.K P α σ env)(rv:qJ v u)
  (rp:Rep X.K P α d v) (q:g d env S=.ok env1 S1) :
  Ap (As X.prog X.w) X.A (assign tg X.env u) (λ_ s1=>∃ σ1 H1 P1 α1,Inv X pins σ1 H1 s1/\Rel X.K H1 P1 α1 S1/\z9 X.K P1 α1 σ1 env1/\qD P P1/\α<+:α1) X.xe s:=by
 refine thn (hg pins s σ H v u (λσ1 H1=>∃ P1 α1,Rel X.K H1 P1 α1 S1/\z9 X.K P1 α1 σ1 env1/\qD P P1/\α<+:α1) I rv ⟨P,α,env,S,d,r,re,rp,?_⟩) λ_ s1 ⟨σ1,H1,I1,P1,α1,q1,q2,q3,q4⟩=>⟨σ1,H1,P1,α1,I1,q1,q2,q3,q4⟩;rw[q];exact λσ' H' P' α' r' re' e1 e2=>⟨P',α',r',re',e1,e2⟩
def pM (K:Aj)(P:Hp)(α : Aa Af)(ds:Aa D)(o:Cj):Prop:=∃ (its:Aa Ac) (n:Ai) (vs:Aa V),o={ cls:=.type "list",data:=.seq its.toArray n } /\ qL vs its/\qC K P α ds vs/\ds.length<=lim
theorem pM.mono (e:qD P P1)(h:α<+:α1)(a:pM K P α ds o):pM K P1 α1 ds o:=by
 obtain⟨its,n,vs,q1,q2,q3,q4⟩:=a;exact⟨its,n,vs,q1,q2,qC.mono e h _ _ q3,q4⟩
theorem pM.cell (a:pM K P α ds o):∀ v,o.data≠.cell v:=by
 obtain⟨its,n,vs,rfl,_⟩:=a;intro v z;cases z
theorem Inv.pin1 {pins:Aa (Af × Cj)}{σ:_L.St}{a:Af}(I:Inv X pins σ H s)(f:zZ X pins H a)(e:s.heap.get? a=Ab o)(d:∀ v,o.data≠.cell v):Inv X (pins++[(a,o)]) σ H s:=
 I.pins_of λp hp=>(Cn.mp hp).elim (λz=>I.pin p (Bt _ z)) λz=>by
  have e':p=(a,o):=by simpa using z
  subst e';exact⟨e,f.1,f.2.1,f.2.2.1,d⟩
theorem Inv.pinned1 {pins:Aa (Af × Cj)}{σ:_L.St}{a:Af}(I:Inv X (pins++[(a,o)]) σ H s):s.heap.get? a=Ab o/\H a=none:=by
 have:=I.pin (a,o) (Bt _ (Bt _ (by simp)))
 exact⟨this.1,this.2.1⟩
end
structure Acc where
 m:Ar
 O:Aj->Hp->Aa Af->Aa D->Cj->Prop
 mono:∀ {K:Aj} {P P1:Hp} {α α1:Aa Af} {ds:Aa D} {o:Cj},qD P P1->α<+:α1->O K P α ds o->O K P1 α1 ds o
 cell:∀ {K:Aj} {P:Hp} {α : Aa Af} {ds:Aa D} {o:Cj},O K P α ds o->∀ v,o.data≠.cell v
@[reducible] def accL:Acc:=⟨false,pM,pM.mono,pM.cell⟩
def xK (m:Ar)(elt:Bw)(gens:Aa Dx)(scope:Ei)(pos:Ey):Bw:=match m with
 |false=>.ListComp elt gens scope pos
 |true=>.SetComp elt gens scope pos
structure TurnSt (B:Acc)(Y:Cx)(pins:Aa (Af × Cj))(P1:Hp)(α1:Aa Af)(fp:Aa Af)(acc:Af)(env:qB)(S:Sto)(ds:Aa D)(s:Ag)(σ : _L.St)(H P:Hp)(α : Aa Af)(o:Cj):Prop where
 inv:Inv Y pins σ H s
 rel:Rel Y.K H P α S
 env:z9 Y.K P α σ env
 same:qD P1 P
 pre:α1<+:α
 fpn:∀ b∈fp,H b=none
 acn:H acc=none
 at':s.heap.get? acc=Ab o
 acc:B.O Y.K P α ds o
def wF (cells:Aa (Aq × Af)):Aa (Aq × Hn)->Aa (Aq × Af)->Aa (Aq × Af)
 |[],cs=>cs
 |(n,k)::r,cs=>wF cells r (if k == .free then (n,(cells.lookup n).getD 0)::cs else cs)
theorem pJ {env:Ie}{scope:Ei}(h:∀ y∈scope.names,y.2=.free->∃ c,env.cells.lookup y.1=Ab c):Sn scope env=pure (wF env.cells scope.names []):=by
 have go:∀ (l:Aa (Aq × Hn)) (cs:Aa (Aq × Af)),(∀ y∈l,y.2=.free->∃ c,env.cells.lookup y.1=Ab c) ->
   (forIn l cs λx cs=>match x with|(name,kind)=>if (kind == Gd)=true then do let a <- cellOf env name;pure (Km ((name,a)::cs)) else pure (Km cs):Ke (Aa (Aq × Af)))=pure (wF env.cells l cs):=by
  intro l
  induction l with
  |nil=>intro cs _;rfl
  |cons y r ih =>
   intro cs hl;obtain⟨n,k⟩:=y;rw[Mc];by_cases hk:k=.free
   .subst hk
    obtain⟨c,hc⟩:=hl (n,.free) Cu rfl;have hc':env.cells.lookup n=Ab c:=hc;have e:cellOf env n=pure c:=by unfold cellOf;rw[hc']
    simp only[Gu,Dp,e,pure_bind];rw[ih _ λz hz=>hl z (Bl _ hz)];simp only[wF,Gu,Dp,hc',Oh]
   .have hb:(k == Gd)=false:=by simpa using hk
    simp only[hb,Br,Dw,pure_bind];rw[ih _ λz hz=>hl z (Bl _ hz)];simp only[wF,hb,Br,Dw]
 unfold Sn;have:=go scope.names [] h;simp only[bind_pure];exact this
theorem jM {x:Aq}{c:Af}:∀ (l:Aa (Aq × Hn)) (cs:Aa (Aq × Af)),(wF cells l cs).lookup x=Ab c->cs.lookup x=Ab c\/((x,Gd)∈l/\c=(cells.lookup x).getD 0)
 |[],cs,h=>.inl h
 |(n,k)::r,cs,h=>by
  rcases jM r _ h with h|⟨h1,h2⟩
  .by_cases hk:k=.free
   .subst hk
    simp only[Gu,Dp,Jx] at h;cases hb:x == n with
    |true =>
     rw[hb] at h;have e:x=n:=by simpa using hb
     subst e;exact .inr ⟨Cu,(Cs h).symm⟩
    |false=>rw[hb] at h;exact .inl h
   .have hb:(k == Gd)=false:=by simpa using hk
    simp only[hb,Br,Dw] at h;exact .inl h
  .exact .inr ⟨Bl _ h1,h2⟩
theorem j8 {x:Aq}:∀ (l:Aa (Aq × Hn)) (cs:Aa (Aq × Af)),((x,Gd)∈l\/∃ c,cs.lookup x=Ab c)->∃ c,(wF cells l cs).lookup x=Ab c
 |[],cs,h=>by
  rcases h with h|h
  .cases h
  .exact h
 |(n,k)::r,cs,h=>by
  refine j8 r _ ?_;rcases h with h|⟨c,h⟩
  .rcases Az.mp h with e|h
   .cases e
    exact .inr ⟨(cells.lookup x).getD 0,by simp only[Gu,Dp,Jx]⟩
   .exact .inl h
  .by_cases hk:k=.free
   .subst hk
    simp only[Gu,Dp,Jx];cases hb:x == n with
    |true=>exact .inr ⟨_,rfl⟩
    |false=>exact .inr ⟨c,h⟩
   .have hb:(k == Gd)=false:=by simpa using hk
    simp only[hb,Br,Dw];exact .inr ⟨c,h⟩
structure CompSc (scX:Ei)(NX:Aa Aq)(scope:Ei)(N':Aa Aq)(cap:Aa (Al Ai)):Prop where
 kind:scope.kind=.function
 names:∀ y∈scope.names,y.2=.local -> scope.names.lookup y.1=Ab .local
 cel:∀ y∈scope.names,y.2=.cell->scope.names.lookup y.1=Ab .cell
 free:∀ y∈scope.names,y.2=.free->scX.names.lookup y.1=Ab .cell\/scX.names.lookup y.1=Ab .free
 fr2:∀ y∈scope.names,y.2=.free->scope.names.lookup y.1=Ab .free
 len:cap.length=N'.length
 caps:((cap.zip N').all λp=>match p.1 with|none=>true|some i=>NX[i]? == Ab p.2&&scope.names.lookup p.2 == Ab .free)=true
 nd:N'.Nodup
def vA (cap:Aa (Al Ai))(σ : _L.St):_L.St:=cap.map λo=>match o with
 |none=>none
 |some i=>(σ[i]?).join
def zY (cap:Aa (Al Ai))(env:qB):qB:=cap.map λo=>match o with
 |none=>none
 |some i=>(env[i]?).join
theorem Y0 {σ:_L.St}{env:qB}(re:z9 K P α σ env)(cap:Aa (Al Ai)):z9 K P α (vA cap σ) (zY cap env):=by
 refine⟨by simp[vA,zY],λj d e=>?_⟩
 unfold zY at e;unfold vA;rw[Cg] at e ⊢;cases q:cap[j]? with
 |none=>rw[q] at e;cases e
 |some o =>
  rw[q] at e;cases o with
  |none=>cases e
  |some i =>
   have e':(env[i]?).join=Ab d:=by simpa using e
   cases z:env[i]? with
   |none=>rw[z] at e';cases e'
   |some w =>
    rw[z] at e';have e'':w=Ab d:=e';subst e'';obtain⟨v,h1,h2⟩:=re.2 i d z;exact⟨v,by simp[h1],h2⟩
def qV (X:Cx)(N':Aa Aq)(scope:Ei)(cl:Aa (Aq × Af))(C:Af)(ex:Aa Af)(s₀:Ag)(H₀:Hp):Cx:=
 { X with N:=N',s₀:=s₀,H₀:=H₀,env:=compEnvC scope cl C X.env,outer:=X.stack,stack:=X.stack,ex:=ex,fn:=λx=>decide (scope.names.lookup x=Ab .cell),pn:=[],xe:=λ_ _=>Fh }
theorem uU {scope:Ei}{env:Ie}:∀ {names:Aa (Aq × Hn)} {x:Aq} {k:Hn},
  (names.map λ(n,k)=>if (k == Gd&&env.scope.kind == .function&&env.kindOf n == Ab .cell) then (n,Ol) else (n,k)).lookup x=Ab k ->
  names.lookup x=Ab k\/(k=.cell/\names.lookup x=Ab .free)
 |[],_,_,h=>by simp at h
 |(n,k0)::r,x,k,h=>by
  rw[Dc,Jx] at h;rw[Jx];dsimp only at h;cases hb:(k0 == Gd&&env.scope.kind == .function&&env.kindOf n == Ab .cell) with
  |true =>
   rw[hb] at h;simp only[Dp] at h;cases hx:x == n with
   |true =>
    rw[hx] at h;have e:Ol=k:=Cs h;have hk:k0=.free:=by
     have:=(Av _ _).mp hb;have:=(Av _ _).mp this.1;simpa using this.1
    subst hk;exact .inr ⟨e.symm,rfl⟩
   |false=>rw[hx] at h;exact uU (scope:=scope) h
  |false =>
   rw[hb] at h;simp only[Br,Dw] at h;cases hx:x == n with
   |true=>rw[hx] at h;exact .inl h
   |false=>rw[hx] at h;exact uU (scope:=scope) h
section
variable {X:Cx}{scope:Ei}{N':Aa Aq}{cap:Aa (Al Ai)}{pins:Aa (Af × Cj)}{σ : _L.St}{H2:Hp}{s2:Ag}{fp:Aa Af}
theorem kU (S:CompSc X.env.scope X.N scope N' cap){x:Aq}{k:Hn}(h:(relabel scope X.env).names.lookup x=Ab k):scope.names.lookup x=Ab k\/(k=.cell/\scope.names.lookup x=Ab .free):=uU (scope:=scope) h
theorem X3 (S:CompSc X.env.scope X.N scope N' cap)(ok:X.Ok){x:Aq}{c:Af}(h:(wF X.env.cells scope.names []).lookup x=Ab c):X.env.cells.lookup x=Ab c/\(x,Gd)∈scope.names:=by
 rcases jM _ _ h with h|⟨hm,hc⟩
 .cases h
 .have:=S.free _ hm rfl
  obtain⟨c',hc'⟩:=ok.has x this;rw[hc',Oh] at hc;rw[hc',hc];exact⟨rfl,hm⟩
def UK (scope:Ei)(C:Af):Aa (Aq × Af):=Hj (C+1) scope.names []
def kR (X:Cx)(scope:Ei)(C:Af):Aa (Aq × Af):=Hj (C+1) scope.names (wF X.env.cells scope.names [])
theorem yS:∀ (names:Aa (Aq × Hn)) (lo:Ai) (acc:Aa (Aq × Af)),Hj lo names acc=Hj lo names [] ++ acc
 |[],_,_=>rfl
 |(n,k)::r,lo,acc=>by
  unfold Hj
  split
  .rw[yS r _ ((n,lo)::acc),yS r _ [(n,lo)],Cf];rfl
  .exact yS r lo acc
set_option tactic.hygienic true in
theorem pQ:∀ (names:Aa (Aq × Hn)) (lo:Ai) {n:Aq} {c:Af},(n,c)∈Hj lo names [] -> (n,Ol)∈names
 |[],_,_,_,h=>by cases h
 |(n0,k)::r,lo,n,c,h=>by
  unfold Hj at h
  split at h
  .rename_i hk
   rw[yS] at h;rcases Cn.mp h with h|h
   .exact Bl _ (pQ r _ h)
   .have e:(n,c)=(n0,lo):=by simpa using h
    cases e;have:k=Ol:=by simpa using hk
    rw[this];exact Cu
  .exact Bl _ (pQ r _ h)
theorem xB (S:CompSc X.env.scope X.N scope N' cap)(ok:X.Ok){C:Af}{x:Aq}{c:Af}(h:(kR X scope C).lookup x=Ab c):((x,c)∈UK scope C/\scope.names.lookup x=Ab .cell)\/(X.env.cells.lookup x=Ab c/\(x,Gd)∈scope.names):=by
 unfold kR at h;rw[yS,Wt] at h;cases q:(Hj (C+1) scope.names []).lookup x with
 |some c' =>
  rw[q] at h;cases h;have m:=Fa q;exact .inl ⟨m,S.cel _ (pQ _ _ m) rfl⟩
 |none =>
  rw[q] at h;exact .inr (X3 S ok h)
theorem rS (S:CompSc X.env.scope X.N scope N' cap)(ok:X.Ok){C:Af}{x:Aq}(h:scope.names.lookup x=Ab .cell\/scope.names.lookup x=Ab .free):∃ c,(kR X scope C).lookup x=Ab c:=by
 unfold kR;rw[yS,Wt];rcases h with h|h
 .have:=Kh scope.names (C+1) [] (x:=x) (.inl h)
  obtain⟨c,hc⟩:=Jt.mp this;exact⟨c,by rw[hc];rfl⟩
 .obtain⟨c',hc'⟩:=j8 (cells:=X.env.cells) scope.names [] (.inl (Fa h))
  rw[hc'];cases (Hj (C+1) scope.names []).lookup x with
  |none=>exact⟨c',rfl⟩
  |some c=>exact⟨c,rfl⟩
theorem GP (S:CompSc X.env.scope X.N scope N' cap)(I2:Inv X pins σ H2 s2)(hf:∀ b∈fp,zZ X pins H2 b)(hlt:∀ b∈fp,b<s2.heap.objs.size)(hC:s2.heap.objs.size<=C){h1:Bs}(co:CellsOk h1 (C+1) (UK scope C)) :
  (qV X N' scope (kR X scope C) C fp s2 H2).Ok where
 mod:=I2.ok.mod
 kind:=S.kind
 glob:=I2.ok.glob
 blt:=I2.ok.blt
 above:=hC
 inj:=λx y c h1 h2=>by
  rcases xB S I2.ok h1 with⟨m1,_⟩|⟨m1,_⟩ <;> rcases xB S I2.ok h2 with⟨m2,_⟩|⟨m2,_⟩
  .exact PySem.name_of_addr co.apart m1 m2
  .obtain⟨v,ob,hob,_⟩:=I2.cell y c m2
   exact absurd (Bh (Ay hob) hC) (Nw.mpr (Et (co.empty x c m1).2))
  .obtain⟨v,ob,hob,_⟩:=I2.cell x c m1
   exact absurd (Bh (Ay hob) hC) (Nw.mpr (Et (co.empty y c m2).2))
  .exact I2.ok.inj x y c m1 m2
 has:=λx hx=>by
  have hx':(relabel scope X.env).names.lookup x=Ab .cell\/(relabel scope X.env).names.lookup x=Ab .free:=hx;refine rS S I2.ok ?_;rcases hx' with h|h
  .rcases kU S h with h|⟨_,h⟩
   .exact .inl h
   .exact .inr h
  .rcases kU S h with h|⟨z,_⟩
   .exact .inr h
   .cases z
 cab:=λx c h h2=>by
  have hx:scope.names.lookup x=Ab .cell:=Ca h;rcases xB S I2.ok h2 with⟨m,_⟩|⟨_,m⟩
  .exact Dm hC (Et (co.empty x c m).2)
  .have:=S.fr2 _ m rfl
   have this':scope.names.lookup x=Ab .free:=this;rw[hx] at this';cases this'
 hd:=I2.ok.hd
 frames:=I2.ok.frames
 stk:=.inl rfl
 exf:=λb hb=>⟨Ci (Bh (hlt b hb) hC),λx c h=>by
  rcases xB S I2.ok h with⟨m,_⟩|⟨m,_⟩
  .exact Fy (Ci (Hz (Bh (hlt b hb) hC) (co.empty x c m).2))
  .exact(hf b hb).2.2.2.2.1 x c m⟩
 bs:=I2.bs
 bsz:=Dm I2.ok.bsz I2.sz
 noex:=λb o e hb=>by
  obtain⟨_,_,_,h,_⟩:=hf b hb;rcases h with h|h
  .exact I2.ok.noex b o e h
  .exact absurd (Bh (Ay e) (Dm I2.ok.bsz h)) (Du _)
 exfs:=λb hb hb2=>by
  obtain⟨_,h1,h2,_⟩:=hf b hb;rcases Az.mp (I2.stkSub b hb2) with z|z
  .exact h1 z
  .exact h2 z
 funs:=I2.stack
 frf:=I2.stkFree
theorem YV {s4:Ag}{m:Aq->Al Ac}(S:CompSc X.env.scope X.N scope N' cap)(I2:Inv X pins σ H2 s2)(hf:∀ b∈fp,zZ X pins H2 b)(hlt:∀ b∈fp,b<s2.heap.objs.size)(hC:s2.heap.objs.size<=C)
  (hn:s4.heap.Ns C m) (os:s4.os=s2.os) (gens:s4.gens=s2.gens) (keep:∀ b o,s2.heap.get? b=Ab o->s4.heap.get? b=Ab o) (co:CellsOk s4.heap (C+1) (UK scope C)) :
  Inv (qV X N' scope (kR X scope C) C fp s2 H2) [] (vA cap σ) H2 s4 where
 ok:=GP S I2 hf hlt hC co
 os:=os
 bare:=gens▸I2.bare
 base:=Un.kept keep
 loc:=by
  refine⟨m,hn,λj x v h1 h2 h3=>?_⟩;have h1':N'[j]? = Ab x:=h1;unfold vA at h2;rw[Cg] at h2;cases q:cap[j]? with
  |none=>rw[q] at h2;cases h2
  |some o =>
   rw[q] at h2;cases o with
   |none=>cases h2
   |some i =>
    have e':(σ[i]?).join=Ab v:=by simpa using h2
    have hσ:σ[i]? = Ab (Ab v):=by
     cases z:σ[i]? with
     |none=>rw[z] at e';cases e'
     |some w=>rw[z] at e';have:w=Ab v:=e';rw[this]
    have hz:(Ab i,x)∈cap.zip N':=by
     refine Kv.mpr ⟨j,?_⟩;rw[Rm];exact⟨q,h1'⟩
    have hc:=Bo.mp S.caps _ hz;simp only[Av,Lw] at hc;obtain⟨hN,hfr⟩:=hc;have hk:=S.free _ (Fa hfr) rfl;obtain⟨mo,hmo,hl⟩:=I2.loc;have vis:Vis X.env.scope x:=by
     rcases hk with k|k
     .exact .inr (.inl k)
     .exact .inr (.inr k)
    obtain⟨u,ru,lk⟩:=hl i x v hN hσ vis;refine⟨u,ru,?_⟩;rcases lk with⟨kl,_⟩|⟨_,c,hcl,hcell⟩
    .have kl':X.env.scope.names.lookup x=Ab .local:=kl
     rcases hk with k|k
     .have k':X.env.scope.names.lookup x=Ab .cell:=k
      rw[kl'] at k';cases k'
     .have k':X.env.scope.names.lookup x=Ab .free:=k
      rw[kl'] at k';cases k'
    .obtain⟨c',hc'⟩:=rS S I2.ok (C:=C) (.inr hfr)
     have e2:X.env.cells.lookup x=Ab c':=by
      rcases xB S I2.ok hc' with⟨_,z⟩|⟨z,_⟩
      .rw[hfr] at z;cases z
      .exact z
     rw[hcl] at e2;cases e2;refine .inr ⟨?_,c,hc',?_⟩
     .have h3':Vis (relabel scope X.env) x:=h3
      rcases h3' with h|h|h
      .rcases kU S h with h|⟨z,_⟩
       .rw[hfr] at h;cases h
       .cases z
      .exact .inl h
      .exact .inr h
     .obtain⟨ob,hob,hd⟩:=hcell
      exact⟨ob,keep c ob hob,hd⟩
 cell:=λx c h=>by
  rcases xB S I2.ok h with⟨m,_⟩|⟨m,_⟩
  .exact⟨none,(co.empty x c m).1⟩
  .obtain⟨v,ob,hob,hd⟩:=I2.cell x c m
   exact⟨v,ob,keep c ob hob,hd⟩
 free:=I2.hok.fresh hC
 freeC:=λx c h=>by
  rcases xB S I2.ok h with⟨m,_⟩|⟨m,_⟩
  .exact I2.hok.fresh (Dm hC (Et (co.empty x c m).2))
  .exact I2.freeC x c m
 pin:=λp hp=>absurd (show p∈([]:Aa (Af × Cj)) from hp) (by simp)
 hok:=I2.hok.kept keep
 len:=by
  show (vA cap σ).length=N'.length;simp[vA,S.len]
end
theorem XN {P:Bc}{h:Bs}{a:Af}{o:HO}(x:HOk P w H h)(hn:H a=none)(new:zG P w (upd H a o) h a o):HOk P w (upd H a o) h:=λb u e=>by
 by_cases hb:b=a
 .subst hb;rw[qR] at e;cases e;exact new
 .rw[qH hb] at e
  exact(x b u e).stay (λc v _ q=>q) (λc q=>by rw[qH (qU q hn)];exact q) λc xs q=>by rw[qH (qU q hn)];exact q
theorem XM {P:Bc}{h h':Bs}(x:HOk P w H h)(hn:H C=none)(k:∀ b o,b≠C->h.get? b=Ab o->h'.get? b=Ab o):HOk P w H h':=λb u e =>
 (x b u e).stay (λc v hc q=>k c v (by
  rintro rfl;rcases hc with z|z
  .subst z;rw[hn] at e;cases e
  .rw[hn] at z;cases z) q) (λ_ q=>q) λ_ _ q=>q
section
variable {X:Cx}{elt tg iter:Bw}{ifs:Aa Bw}{scope:Ei}{pos:Ey}{N':Aa Aq}{cap:Aa (Al Ai)}{fi:DI}{g:DG}{t:DT}{fe:DE}
def jR (X:Cx)(pins:Aa (Af × Cj))(σ : _L.St)(P1:Hp)(α1:Aa Af)(ds:Aa D)(SF:Sto)(acc C:Af)(s:Ag):Prop:=
 ∃ (H' P':Hp) (α' : Aa Af) (vs:Aa V),Inv X pins σ (upd H' acc (.lst vs)) s/\Rel X.K H' P' α' SF/\H' acc=none/\qD P1 P'/\α1<+:α'/\qC X.K P' α' ds vs/\H' C=none
theorem rR {Y:Cx}{pins:Aa (Af × Cj)}{σ σ':_L.St}{H2:Hp}{s2 s':Ag}{fp:Aa Af}{acc:Af}{H' P':Hp}{α':Aa Af}{envF:qB}{SF:Sto}{cl:Aa (Aq × Af)}(I2:Inv X pins σ H2 s2)
  (hf:∀ b∈fp,zZ X pins H2 b) (hY:Y=qV X N' scope cl C fp s2 H2) (hC:s2.heap.objs.size<=C) (hA:s2.heap.objs.size<=acc) (hne:acc≠C) (st:TurnSt accL Y [] P1 α1 fp acc envF SF ds s' σ' H' P' α' o)
  {h':Bs} (sb:Fc C s'.heap h'):jR X pins σ P1 α1 ds SF acc C { s' with heap:=h' }:=by
 subst hY;obtain⟨its,n,vs,rfl,rv,rp,hz⟩:=st.acc;have kC:∀ b o,b≠C->s'.heap.get? b=Ab o->h'.get? b=Ab o:=λb o hb e=>(sb.2 b hb).trans e;have nC:∀ b o,s2.heap.get? b=Ab o->b≠C:=λb o e=>Ci (Bh (Ay e) hC);have nA:∀ b o,s2.heap.get? b=Ab o->b≠acc:=λb o e=>Ci (Bh (Ay e) hA);have base:Un (frs X.stack) fp H2 H' s2.heap s'.heap:=st.inv.base;have nt:∀ b u,H' b=Ab u->b≠acc:=λb u e=>qU e st.acn;have un:Un (frs X.stack) fp H2 (upd H' acc (.lst vs)) s2.heap h':=by
  refine⟨λb ob q hn hb hx=>kC b ob (nC b ob q) (base.keep b ob q hn hb hx),λb ob q hn hb hx=>?_,λb ob q hn hx=>?_,λb ob q hx=>?_,λb xs q=>?_,λb ob u q=>?_,λb ps q=>?_⟩
  .obtain⟨sl,e⟩:=base.slot b ob q hn hb hx
   exact⟨sl,kC b _ (nC b ob q) e⟩
  .rw[qH (nA b ob q)];exact base.free b ob q hn hx
  .obtain⟨o',e⟩:=base.there b ob q hx
   exact⟨o',kC b o' (nC b ob q) e⟩
  .have:=base.tups b xs q;rw[qH (nt _ _ this)];exact this
  .have:=base.frzs b ob u q;rw[qH (nt _ _ this)];exact this
  .obtain⟨more,e⟩:=base.tbls b ps q
   exact⟨more,by rw[qH (nt _ _ e)];exact e⟩
 have hok':HOk X.prog X.w H' h':=XM st.inv.hok st.inv.free kC;have hat:h'.get? acc=Ab { cls:=.type "list",data:=.seq its.toArray n }:=kC acc _ hne st.at';have hok:HOk X.prog X.w (upd H' acc (.lst vs)) h':=XN hok' st.acn ⟨by rw[<- rp.length,<- zV];exact hz,its,n,rv,hat⟩
 refine⟨H',P',α',vs,?_,st.rel,st.acn,st.same,st.pre,rp,st.inv.free⟩;exact I2.call' (s':={ s' with heap:=h' }) (ch:=fp) (st.inv.os) un hok st.inv.bare λb hb=>by
  obtain⟨_,h1,h2,h3,h4,h5⟩:=hf b hb;exact⟨h3,h1,h4,h5⟩
theorem aP (S:CompSc X.env.scope X.N scope N' cap)(ok:X.Ok):Sn scope X.env=pure (wF X.env.cells scope.names []):=pJ λy hy hk=>ok.has y.1 (S.free y hy hk)
theorem PN {pins:Aa (Af × Cj)}{σ:_L.St}{SF:Sto}{acc:Af}{Q:VK}(c:jR X pins σ P1 α1 ds SF acc C s)(ok:OkV X P1 α1 Q (.lst ds) SF):EP X pins σ Q (.ref acc) s:=by
 obtain⟨H',P',α',vs,I,r,hn,e1,e2,rp,_⟩:=c;exact⟨.ref acc,_,I,rfl,wO r hn rp λv H2 P2 α2 r2 q1 q2 q3=>ok v H2 P2 α2 r2 (e1.trans q1) (e2.trans q2) q3⟩
end
end _D
section
namespace _D
open PySem PySem.Spec PyProof.Rows _L PySem.SeqAt
def b01 (b:Ar):Ak:=if b then 1 else 0
mutual
def eqD:D->D->Ar
 |.non,.non=>true
 |.bl a,.bl b=>a == b
 |.bl a,.int b=>b01 a == b
 |.int a,.bl b=>a == b01 b
 |.int a,.int b=>a == b
 |.str a,.str b=>a == b
 |.tup xs,.tup ys=>zO xs ys
 |.lst xs,.lst ys=>zO xs ys
 |_,_=>false
def zO:Aa D->Aa D->Ar
 |[],[]=>true
 |x::xs,y::ys=>eqD x y&&zO xs ys
 |_,_=>false
end
def pl:Ai->D->Ar
 |_,.non=>true
 |_,.bl _=>true
 |_,.int _=>true
 |_,.str _=>true
 |n+1,.tup xs=>xs.all (pl n)
 |n+1,.lst xs=>xs.all (pl n)
 |_,_=>false
theorem jB (x y:D)(xs ys:Aa D):zO (x::xs) (y::ys)=(eqD x y&&zO xs ys):=rfl
theorem vB:∀ (xs ys:Aa D),zO xs ys=((Dd (min xs.length ys.length)).all (λj=>eqD (xs.getD j .non) (ys.getD j .non))&&xs.length == ys.length)
 |[],[]=>rfl
 |[],y::ys=>rfl
 |x::xs,[]=>rfl
 |x::xs,y::ys=>by
  have ih:=vB xs ys;rw[jB,ih,By,By,Nat.succ_min_succ,Ny,Ro,HT,Bool.and_assoc];have e:(xs.length+1 == ys.length+1)=(xs.length == ys.length):=by simp
  rw[e];rfl
theorem VJ {xs ys:Aa D}(h:xs.length≠ys.length):zO xs ys=false:=by
 rw[vB];simp[h]
theorem nX (xs ys:Aa D):eqD (.tup xs) (.tup ys)=zO xs ys:=rfl
theorem nW (xs ys:Aa D):eqD (.lst xs) (.lst ys)=zO xs ys:=rfl
section
variable {X:Cx}{pins:Aa (Af × Cj)}{σ : _L.St}{H P:Hp}{α : Aa Af}{S:Sto}{s:Ag}
inductive Kd (X:Cx)(P:Hp)(α : Aa Af)(s:Ag):D->Ac->Prop where
 |non:Kd X P α s .non .none
 |bl (b:Ar):Kd X P α s (.bl b) (.bool b)
 |int (i:Ak) (t:Qf):Kd X P α s (.int i) (.int i t)
 |str (x:Aq) (t:Qf):Kd X P α s (.str x) (.str x t)
 |tup (a:Af) (xs:Aa D) (its:Aa Ac) (vs:Aa V) (rp:qC X.K P α xs vs) (rv:qL vs its) (h:s.heap.IsTuple a its.toArray) (q:SqT X.K P a vs):Kd X P α s (.tup xs) (.ref a)
 |lst (a:Af) (xs:Aa D) (its:Aa Ac) (vs:Aa V) (rp:qC X.K P α xs vs) (rv:qL vs its) (h:s.heap.IsList a its.toArray) (q:SqX X.K P a vs):Kd X P α s (.lst xs) (.ref a)
theorem jE (I:Inv X pins σ H s)(r:Rel X.K H P α S){n:Ai}{d:D}{v:V}{u:Ac}(h:pl n d=true)(p:Rep X.K P α d v)(rv:qJ v u):Kd X P α s d u:=by
 cases d with
 |non=>simp only[Rep] at p;subst p;cases rv;exact .non
 |bl b=>simp only[Rep] at p;subst p;cases rv;exact .bl b
 |int i=>simp only[Rep] at p;subst p;obtain⟨t,rfl⟩:=rv;exact .int i t
 |str x=>simp only[Rep] at p;subst p;obtain⟨t,rfl⟩:=rv;exact .str x t
 |tup xs =>
  simp only[Rep] at p;obtain⟨a,vs,rfl,q,t⟩:=p;cases rv;obtain⟨its,r1,p1,_⟩:=I.tuple (xZ r.sub q);exact .tup a xs its vs t r1 p1 q
 |lst xs =>
  simp only[Rep] at p;obtain⟨a,vs,rfl,q,t⟩:=p;cases rv;obtain⟨its,r1,p1,_⟩:=I.list ((xH r.sub q).l);exact .lst a xs its vs t r1 p1.isList q
 |_=>cases n <;> exact Dg h
theorem uP {ds:Aa D}{vs:Aa V}{its:Aa Ac}(rp:qC X.K P α ds vs)(rv:qL vs its){j:Ai}(h:j<its.toArray.size):∃ v,Rep X.K P α (ds.getD j .non) v/\qJ v its.toArray[j]/\ds.getD j .non∈ds:=by
 have l1:=rp.length;have l2:=rv.length;have hj:j<its.length:=by simpa using h
 have hd:j<ds.length:=by lia
 obtain⟨v,e1,p⟩:=rp.get (Am hd);obtain⟨u,e2,q⟩:=rv.get e1;have e3:its.toArray[j]=u:=by
  have:its[j]? = Ab its[j]:=Am hj;rw[this] at e2;simpa using Cs e2
 have e4:ds.getD j .non=ds[j]:=by simp[Hb,hd]
 rw[e3,e4];exact⟨v,p,q,Lm hd⟩
theorem jH {n:Ai}{ds:Aa D}(h:ds.all (pl n)=true){d:D}(hd:d∈ds):pl n d=true:=Bo.mp h d hd
theorem iA {h:Bs}{a:Af}{xs ys:Aw Ac}(h1:h.IsTuple a xs)(h2:h.IsTuple a ys):xs=ys:=by
 obtain⟨o,e,_,n,d⟩:=h1;obtain⟨o',e',_,n',d'⟩:=h2;cases e.symm.trans e';cases d.symm.trans d';rfl
theorem B5 {h:Bs}{a:Af}{xs ys:Aw Ac}(h1:h.IsList a xs)(h2:h.IsList a ys):xs=ys:=by
 obtain⟨o,e,_,n,d⟩:=h1;obtain⟨o',e',_,n',d'⟩:=h2;cases e.symm.trans e';cases d.symm.trans d';rfl
theorem LR {h:Bs}{a:Af}{xs ys:Aw Ac}(h1:h.IsTuple a xs)(h2:h.IsList a ys):Fh:=by
 obtain⟨o,e,c,_⟩:=h1;obtain⟨o',e',c',_⟩:=h2;cases e.symm.trans e';exact absurd (c.symm.trans c') (by decide)
inductive Seqs (X:Cx)(P:Hp)(α : Aa Af)(xs ys:Aa D)(its its2:Aa Ac):Prop
 |mk (vs ws:Aa V) (rp:qC X.K P α xs vs) (rv:qL vs its) (rp2:qC X.K P α ys ws) (rv2:qL ws its2):Seqs X P α xs ys its its2
theorem Seqs.len1 {xs ys:Aa D}{its its2:Aa Ac}(q:Seqs X P α xs ys its its2):xs.length=its.length:=by
 obtain⟨vs,ws,rp,rv,_,_⟩:=q;exact rp.length.trans rv.length
theorem Seqs.len2 {xs ys:Aa D}{its its2:Aa Ac}(q:Seqs X P α xs ys its its2):ys.length=its2.length:=by
 obtain⟨vs,ws,_,_,rp,rv⟩:=q;exact rp.length.trans rv.length
inductive SameR (X:Cx)(P:Hp)(α : Aa Af):D->D->Prop
 |eq {d d':D} (h:eqD d d'=true):SameR X P α d d'
 |tt (xs ys:Aa D) (its:Aa Ac) (q:Seqs X P α xs ys its its):SameR X P α (.tup xs) (.tup ys)
 |ll (xs ys:Aa D) (its:Aa Ac) (q:Seqs X P α xs ys its its):SameR X P α (.lst xs) (.lst ys)
theorem oC {d d':D}{u:Ac}(k1:Kd X P α s d u)(k2:Kd X P α s d' u):SameR X P α d d':=by
 cases k1 with
 |non=>cases k2;exact .eq rfl
 |bl b=>cases k2;exact .eq (Gu _)
 |int i t=>cases k2;exact .eq (Gu _)
 |str x t=>cases k2;exact .eq (Gu _)
 |tup a xs its vs rp rv h q =>
  cases k2 with
  |tup _ ys its2 ws rp2 rv2 h2 q2 =>
   cases iA h h2;exact .tt xs ys its ⟨vs,ws,rp,rv,rp2,rv2⟩
  |lst _ ys its2 ws rp2 rv2 h2 q2=>exact(LR h h2).elim
 |lst a xs its vs rp rv h q =>
  cases k2 with
  |lst _ ys its2 ws rp2 rv2 h2 q2 =>
   cases B5 h h2;exact .ll xs ys its ⟨vs,ws,rp,rv,rp2,rv2⟩
  |tup _ ys its2 ws rp2 rv2 h2 q2=>exact(LR h2 h).elim
theorem dM (I:Inv X pins σ H s)(r:Rel X.K H P α S){m:Ai}(ih:∀ (d d':D) (u:Ac),pl m d=true->pl m d'=true->Kd X P α s d u->Kd X P α s d' u->eqD d d'=true){xs ys:Aa D}{its:Aa Ac}(h1:xs.all (pl m)=true)(h2:ys.all (pl m)=true)(q:Seqs X P α xs ys its its):zO xs ys=true:=by
 obtain⟨vs,ws,rp,rv,rp2,rv2⟩:=q;have l1:=rp.length.trans rv.length;have l2:=rp2.length.trans rv2.length;rw[vB,l1,l2,Sx,Av];refine⟨Bo.mpr λj hj=>?_,BEq.rfl⟩;have hj:j<its.toArray.size:=Ed.mp hj;obtain⟨w1,y1,z1,m1⟩:=uP rp rv hj;obtain⟨w2,y2,z2,m2⟩:=uP rp2 rv2 hj;exact ih _ _ _ (jH h1 m1) (jH h2 m2) (jE I r (jH h1 m1) y1 z1) (jE I r (jH h2 m2) y2 z2)
theorem aU (I:Inv X pins σ H s)(r:Rel X.K H P α S):∀ (n:Ai) (d d':D) (u:Ac),pl n d=true->pl n d'=true->Kd X P α s d u->Kd X P α s d' u->eqD d d'=true:=by
 intro n
 induction n with
 |zero =>
  intro d d' u h1 h2 k1 k2;cases oC k1 k2 with
  |eq h=>exact h
  |tt=>exact Dg h1
  |ll=>exact Dg h1
 |succ m ih =>
  intro d d' u h1 h2 k1 k2;cases oC k1 k2 with
  |eq h=>exact h
  |tt xs ys its q=>exact(nX xs ys).trans (dM I r ih h1 h2 q)
  |ll xs ys its q=>exact(nW xs ys).trans (dM I r ih h1 h2 q)
structure E3 (A:Bk)(s:Ag)(u u':Ac)(b:Ar):Prop where
 eq:EqAt A s u u' b
 rc:RcAt A s u u' b
 ne:RcNeAt A s u u' (!b)
inductive EqR (X:Cx)(P:Hp)(α : Aa Af)(A:Bk)(s:Ag):D->D->Ac->Ac->Prop
 |of {d d':D} {u u':Ac} (b:Ar) (e:eqD d d'=b) (h:E3 A s u u' b):EqR X P α A s d d' u u'
 |tt (a b:Af) (xs ys:Aa D) (its its2:Aa Ac) (ha:s.heap.IsTuple a its.toArray) (hb:s.heap.IsTuple b its2.toArray) (q:Seqs X P α xs ys its its2):EqR X P α A s (.tup xs) (.tup ys) (.ref a) (.ref b)
 |ll (a b:Af) (xs ys:Aa D) (its its2:Aa Ac) (ha:s.heap.IsList a its.toArray) (hb:s.heap.IsList b its2.toArray) (q:Seqs X P α xs ys its its2):EqR X P α A s (.lst xs) (.lst ys) (.ref a) (.ref b)
theorem K5 {A:Bk}{d d':D}{u u':Ac}(hu:A.units<Ee)(k1:Kd X P α s d u)(k2:Kd X P α s d' u'):EqR X P α A s d d' u u':=by
 cases k1 with
 |non  =>
  cases k2 with
  |non  => exact .of _ rfl ⟨Aa4 _,RcAt.none_none,RcNeAt.none_none⟩
  |bl b=>exact .of _ rfl ⟨EqAt.none_bool b,RcAt.none_bool b,RcNeAt.none_bool b⟩
  |int b tb=>exact .of _ rfl ⟨EqAt.none_int b tb,RcAt.none_int b tb,RcNeAt.none_int b tb⟩
  |str b tb=>exact .of _ rfl ⟨EqAt.none_str b tb,RcAt.none_str b tb,RcNeAt.none_str b tb⟩
  |tup b ys its2 ws rp2 rv2 hb qb=>exact .of _ rfl ⟨EqAt.none_tuple hb hu,RcAt.none_tuple hb hu,RcNeAt.none_tuple hb hu⟩
  |lst b ys its2 ws rp2 rv2 hb qb=>exact .of _ rfl ⟨EqAt.none_list hb hu,RcAt.none_list hb hu,RcNeAt.none_list hb hu⟩
 |bl a =>
  cases k2 with
  |non  => exact .of _ rfl ⟨EqAt.bool_none a,RcAt.bool_none a,RcNeAt.bool_none a⟩
  |bl b=>exact .of _ rfl ⟨EqAt.bool_bool a b,RcAt.bool_bool a b,RcNeAt.bool_bool a b⟩
  |int b tb=>exact .of _ rfl ⟨EqAt.bool_int a b tb,RcAt.bool_int a b tb,RcNeAt.bool_int a b tb⟩
  |str b tb=>exact .of _ rfl ⟨EqAt.bool_str a b tb,RcAt.bool_str a b tb,RcNeAt.bool_str a b tb⟩
  |tup b ys its2 ws rp2 rv2 hb qb=>exact .of _ rfl ⟨EqAt.bool_tuple a hb hu,RcAt.bool_tuple a hb hu,RcNeAt.bool_tuple a hb hu⟩
  |lst b ys its2 ws rp2 rv2 hb qb=>exact .of _ rfl ⟨EqAt.bool_list a hb hu,RcAt.bool_list a hb hu,RcNeAt.bool_list a hb hu⟩
 |int a ta =>
  cases k2 with
  |non  => exact .of _ rfl ⟨EqAt.int_none a ta,RcAt.int_none a ta,RcNeAt.int_none a ta⟩
  |bl b=>exact .of _ rfl ⟨EqAt.int_bool a ta b,RcAt.int_bool a ta b,RcNeAt.int_bool a ta b⟩
  |int b tb=>exact .of _ rfl ⟨EqAt.int_int a ta b tb,RcAt.int_int a ta b tb,RcNeAt.int_int a ta b tb⟩
  |str b tb=>exact .of _ rfl ⟨EqAt.int_str a ta b tb,RcAt.int_str a ta b tb,RcNeAt.int_str a ta b tb⟩
  |tup b ys its2 ws rp2 rv2 hb qb=>exact .of _ rfl ⟨EqAt.int_tuple a ta hb hu,RcAt.int_tuple a ta hb hu,RcNeAt.int_tuple a ta hb hu⟩
  |lst b ys its2 ws rp2 rv2 hb qb=>exact .of _ rfl ⟨EqAt.int_list a ta hb hu,RcAt.int_list a ta hb hu,RcNeAt.int_list a ta hb hu⟩
 |str a ta =>
  cases k2 with
  |non  => exact .of _ rfl ⟨EqAt.str_none a ta,RcAt.str_none a ta,RcNeAt.str_none a ta⟩
  |bl b=>exact .of _ rfl ⟨EqAt.str_bool a ta b,RcAt.str_bool a ta b,RcNeAt.str_bool a ta b⟩
  |int b tb=>exact .of _ rfl ⟨EqAt.str_int a ta b tb,RcAt.str_int a ta b tb,RcNeAt.str_int a ta b tb⟩
  |str b tb=>exact .of _ rfl ⟨EqAt.str_str a ta b tb,RcAt.str_str a ta b tb,RcNeAt.str_str a ta b tb⟩
  |tup b ys its2 ws rp2 rv2 hb qb=>exact .of _ rfl ⟨EqAt.str_tuple a ta hb hu,RcAt.str_tuple a ta hb hu,RcNeAt.str_tuple a ta hb hu⟩
  |lst b ys its2 ws rp2 rv2 hb qb=>exact .of _ rfl ⟨EqAt.str_list a ta hb hu,RcAt.str_list a ta hb hu,RcNeAt.str_list a ta hb hu⟩
 |tup a xs its vs rp rv ha qa =>
  cases k2 with
  |non  => exact .of _ rfl ⟨EqAt.tuple_none ha hu,RcAt.tuple_none ha hu,RcNeAt.tuple_none ha hu⟩
  |bl b=>exact .of _ rfl ⟨EqAt.tuple_bool b ha hu,RcAt.tuple_bool b ha hu,RcNeAt.tuple_bool b ha hu⟩
  |int b tb=>exact .of _ rfl ⟨EqAt.tuple_int b tb ha hu,RcAt.tuple_int b tb ha hu,RcNeAt.tuple_int b tb ha hu⟩
  |str b tb=>exact .of _ rfl ⟨EqAt.tuple_str b tb ha hu,RcAt.tuple_str b tb ha hu,RcNeAt.tuple_str b tb ha hu⟩
  |tup b ys its2 ws rp2 rv2 hb qb=>exact .tt a b xs ys its its2 ha hb ⟨vs,ws,rp,rv,rp2,rv2⟩
  |lst b ys its2 ws rp2 rv2 hb qb=>exact .of _ rfl ⟨EqAt.tuple_list ha hb hu,RcAt.tuple_list ha hb hu,RcNeAt.tuple_list ha hb hu⟩
 |lst a xs its vs rp rv ha qa =>
  cases k2 with
  |non  => exact .of _ rfl ⟨EqAt.list_none ha hu,RcAt.list_none ha hu,RcNeAt.list_none ha hu⟩
  |bl b=>exact .of _ rfl ⟨EqAt.list_bool b ha hu,RcAt.list_bool b ha hu,RcNeAt.list_bool b ha hu⟩
  |int b tb=>exact .of _ rfl ⟨EqAt.list_int b tb ha hu,RcAt.list_int b tb ha hu,RcNeAt.list_int b tb ha hu⟩
  |str b tb=>exact .of _ rfl ⟨EqAt.list_str b tb ha hu,RcAt.list_str b tb ha hu,RcNeAt.list_str b tb ha hu⟩
  |tup b ys its2 ws rp2 rv2 hb qb=>exact .of _ rfl ⟨EqAt.list_tuple ha hb hu,RcAt.list_tuple ha hb hu,RcNeAt.list_tuple ha hb hu⟩
  |lst b ys its2 ws rp2 rv2 hb qb=>exact .ll a b xs ys its its2 ha hb ⟨vs,ws,rp,rv,rp2,rv2⟩
theorem E3.cast {A:Bk}{u u':Ac}{b c:Ar}(e:c=b)(h:E3 A s u u' b):E3 A s u u' c:=e▸h
theorem K6 {A:Bk}{a b:Af}{xs ys:Aa D}{its its2:Aa Ac}(hu:A.units<Ee)(ha:s.heap.IsTuple a its.toArray)(hb:s.heap.IsTuple b its2.toArray)(l1:xs.length=its.length)(l2:ys.length=its2.length)
  (sub:∀ j (h1:j<its.toArray.size) (h2:j<its2.toArray.size),EqAt A.in1 s its.toArray[j] its2.toArray[j] (eqD (xs.getD j .non) (ys.getD j .non))) (same:a=b->zO xs ys=true):E3 A s (.ref a) (.ref b) (zO xs ys):=by
 have e:zO xs ys=((Dd (min its.toArray.size its2.toArray.size)).all (λj=>eqD (xs.getD j .non) (ys.getD j .non))&&its.toArray.size == its2.toArray.size):=by rw[vB,l1,l2];rfl
 have R1:=RcAt.tuples ha hb hu sub;have R2:=RcNeAt.tuples ha hb hu sub;rw[<- e] at R1 R2;refine⟨?_,R1,R2⟩;by_cases hab:a=b
 .rw[same hab,hab]
  exact Aa4 _
 .exact EqAt.of_refs hab R1
theorem HZ {A:Bk}{a b:Af}{xs ys:Aa D}{its its2:Aa Ac}(hu:A.units<Ee)(ha:s.heap.IsList a its.toArray)(hb:s.heap.IsList b its2.toArray)(l1:xs.length=its.length)(l2:ys.length=its2.length)
  (sub:∀ j (h1:j<its.toArray.size) (h2:j<its2.toArray.size),EqAt A.in1 s its.toArray[j] its2.toArray[j] (eqD (xs.getD j .non) (ys.getD j .non))) (same:a=b->zO xs ys=true):E3 A s (.ref a) (.ref b) (zO xs ys):=by
 have R:RcAt A s (.ref a) (.ref b) (zO xs ys)/\RcNeAt A s (.ref a) (.ref b) (!zO xs ys):=by
  by_cases hl:its.length=its2.length
  .have e:zO xs ys=(Dd its.toArray.size).all (λj=>eqD (xs.getD j .non) (ys.getD j .non)):=by rw[vB,l1,l2,<- hl,Sx,BEq.rfl,Om];rfl
   rw[e];exact⟨RcAt.lists ha hb hl hu sub,RcNeAt.lists ha hb hl hu sub⟩
  .rw[VJ (by rw[l1,l2];exact hl)]
   have hn:(its.toArray.size != its2.toArray.size)=true:=bne_iff_ne.mpr hl;exact⟨RcAt.lists_lengths ha hb hn hu,RcNeAt.lists_lengths ha hb hn hu⟩
 refine⟨?_,R.1,R.2⟩;by_cases hab:a=b
 .rw[same hab,hab]
  exact Aa4 _
 .exact EqAt.of_refs hab R.1
theorem XD (I:Inv X pins σ H s)(r:Rel X.K H P α S):∀ (n:Ai) (A:Bk) (d d':D) (u u':Ac),A.units+n<Ee->pl n d=true->pl n d'=true->Kd X P α s d u->Kd X P α s d' u'->E3 A s u u' (eqD d d'):=by
 intro n
 induction n with
 |zero =>
  intro A d d' u u' hu h1 h2 k1 k2;cases K5 hu k1 k2 with
  |of b e h=>exact h.cast e
  |tt=>exact Dg h1
  |ll=>exact Dg h1
 |succ m ih =>
  intro A d d' u u' hu h1 h2 k1 k2;have hu0:A.units<Ee:=Mr (On _ _) hu;have hu1:A.in1.units+m<Ee:=by show A.units+1+m<Ee;lia
  have sub:∀ {xs ys:Aa D} {its its2:Aa Ac},xs.all (pl m)=true->ys.all (pl m)=true->Seqs X P α xs ys its its2 ->
    ∀ j (h1:j<its.toArray.size) (h2:j<its2.toArray.size),EqAt A.in1 s its.toArray[j] its2.toArray[j] (eqD (xs.getD j .non) (ys.getD j .non)):=λ{xs ys its its2} a1 a2 ⟨vs,ws,b1,b2,c1,c2⟩ j g1 g2=>by
   obtain⟨w1,y1,z1,m1⟩:=uP b1 b2 g1;obtain⟨w2,y2,z2,m2⟩:=uP c1 c2 g2;exact(ih A.in1 _ _ _ _ hu1 (jH a1 m1) (jH a2 m2) (jE I r (jH a1 m1) y1 z1) (jE I r (jH a2 m2) y2 z2)).eq
  cases K5 hu0 k1 k2 with
  |of b e h=>exact h.cast e
  |tt a b xs ys its its2 ha hb q=>exact(K6 hu0 ha hb q.len1 q.len2 (sub h1 h2 q) λe=>by subst e;exact(nX xs ys).symm.trans (aU I r (m+1) _ _ _ h1 h2 k1 k2)).cast (nX xs ys)
  |ll a b xs ys its its2 ha hb q=>exact(HZ hu0 ha hb q.len1 q.len2 (sub h1 h2 q) λe=>by subst e;exact(nW xs ys).symm.trans (aU I r (m+1) _ _ _ h1 h2 k1 k2)).cast (nW xs ys)
def yI:Ai:=30
def gEq:G2:=λa b S=>if pl yI a&&pl yI b then .ok (.bl (eqD a b)) S else .bad
def gNe:G2:=λa b S=>if pl yI a&&pl yI b then .ok (.bl (!eqD a b)) S else .bad
set_option tactic.hygienic true in
theorem KM (hu:X.A.units+64<Ee):OpD X (Ct .Eq) gEq:=by
 intro pins σ H s P α S v u vv uu a b Q I r rv ru pa pb af;unfold gEq at af
 split at af
 .rename_i h
  rw[Av] at h;exact(XD I r yI X.A a b vv uu (by unfold yI;lia) h.1 h.2 (jE I r h.1 pa rv) (jE I r h.2 pb ru)).rc _ _ _ _ ⟨.bl _,H,I,rfl,xr af r (by simp only[Rep])⟩
 .exact Ao af
set_option tactic.hygienic true in
theorem KP (hu:X.A.units+64<Ee):OpD X (Ct .NotEq) gNe:=by
 intro pins σ H s P α S v u vv uu a b Q I r rv ru pa pb af;unfold gNe at af
 split at af
 .rename_i h
  rw[Av] at h;exact(XD I r yI X.A a b vv uu (by unfold yI;lia) h.1 h.2 (jE I r h.1 pa rv) (jE I r h.2 pb ru)).ne _ _ _ _ ⟨.bl _,H,I,rfl,xr af r (by simp only[Rep])⟩
 .exact Ao af
end
end _D
end
namespace _D
open PySem PySem.Spec PyProof.Rows _L
variable {pins:Aa (Af × Cj)}{kvs:Aa (Key × D)}{its us:Aa Ac}{xs ds:Aa D}{vs:Aa V}{f:Ac->Ac->Ke Ac}{s:Ag}{d:D}{v:V}{Q:VK}{σ:_L.St}
section
variable {X:Cx}
def i2 (C:Ak->Ak->Ar)(f:Ak->Ak->D):G2:=λa b S=>match a,b with
 |.int i,.int j=>if C i j then .ok (f i j) S else .bad
 |_,_=>.bad
theorem K9 {C:Ak->Ak->Ar}{f:Ak->Ak->D}{a b:D}{S:Sto}{P:Hp}{α:Aa Af}{Ok:D->Sto->Prop}(h:qG X P α (i2 C f a b S) Ok):∃ i j,a=.int i/\b=.int j/\C i j=true/\Ok (f i j) S:=by
 cases a with
 |int i =>
  cases b with
  |int j =>
   obtain⟨hc,h⟩:=xW (X:=X) h;exact⟨i,j,rfl,rfl,hc,h⟩
  |_=>exact Ao h
 |_=>exact Ao h
theorem zT {P:Hp}{α:Aa Af}{i:Ak}(r:Rep X.K P α (.int i) v):v=.int i:=by simpa only [Rep] using r
theorem tY {C':Ak->Ak->Prop}{v:Ak->Ak->V}{C:Ak->Ak->Ar}{d:Ak->Ak->D}(h:OpR X f (rI C' v))(hC:∀ i j,C i j=true->C' i j)(hv:∀ P α i j,Rep X.K P α (d i j) (v i j)):OpD X f (i2 C d):=
 OpD.of h λH P α S x y a b Q r p1 p2 af=>by
  obtain⟨i,j,rfl,rfl,hc,ok⟩:=K9 af;exact⟨i,j,zT p1,zT p2,hC i j hc,xr ok r (hv P α i j)⟩
theorem bD {v:Ak->Ak->V}{d:Ak->Ak->D}(h:OpR X f (rI0 v))(hv:∀ P α i j,Rep X.K P α (d i j) (v i j)):OpD X f (i2 (λ_ _=>true) d):=
 OpD.of h λH P α S x y a b Q r p1 p2 af=>by
  obtain⟨i,j,rfl,rfl,_,ok⟩:=K9 af;exact⟨i,j,zT p1,zT p2,xr ok r (hv P α i j)⟩
def yD:G2:=i2 (λ_ _=>true) λi j=>.int (i-j)
theorem SM:OpD X (Ff .Sub) yD:=bD R4 λP α i j=>by simp only[Rep]
def nN (i j:Ak):Ar:=decide (-(2 ^ 64)<i/\i<2 ^ 64)||decide (-(2 ^ 64)<j/\j<2 ^ 64)
theorem F5:OpD X (Ff .Mult) (i2 nN λi j=>.int (i*j)):=tY SZ (λi j h=>by
 unfold nN at h;rw[Md] at h;rcases h with h|h
 .exact .inl (Ca h)
 .exact .inr (Ca h)) λP α i j=>by simp only[Rep]
def TX (i j:Ak):Ar:=decide (0<j/\j<1073741824)
def uN:G2:=i2 TX λi j=>.int (i/j)
theorem SH:OpD X (Ff .FloorDiv) uN:=tY F8 (λi j h=>(Ca h:0<j/\j<1073741824)) λP α i j=>by simp only[Rep]
def gB:G2:=i2 (λ_ j=>decide (0<j)) λi j=>.int (i % j)
theorem SK:OpD X (Ff .Mod) gB:=tY SY (λi j h=>Ca h) λP α i j=>by simp only[Rep]
def OG (i j:Ak):Ar:=decide (0<=j/\j<=1000000/\i.natAbs<2 ^ 64)
def pW:G2:=i2 OG λi j=>.int (i ^ j.toNat)
theorem SL:OpD X (Ff .Pow) pW:=tY R0 (λi j h=>(Ca h:0<=j/\j<=1000000/\i.natAbs<2 ^ 64)) λP α i j=>by simp only[Rep]
def gLt:G2:=i2 (λ_ _=>true) λi j=>.bl (decide (i<j))
def gLe:G2:=i2 (λ_ _=>true) λi j=>.bl (decide (i<=j))
def gGt:G2:=i2 (λ_ _=>true) λi j=>.bl (decide (j<i))
def gGe:G2:=i2 (λ_ _=>true) λi j=>.bl (decide (j<=i))
theorem KO:OpD X (Ct .Lt) gLt:=bD AA λP α i j=>by simp only[Rep]
theorem A6:OpD X (Ct .LtE) gLe:=bD A9 λP α i j=>by simp only[Rep]
theorem KN:OpD X (Ct .Gt) gGt:=bD A8 λP α i j=>by simp only[Rep]
theorem A5:OpD X (Ct .GtE) gGe:=bD A7 λP α i j=>by simp only[Rep]
def mG:D->Sto->Res D:=λa S=>match a with
 |.int i=>.ok (.int (-i)) S
 |_=>.bad
theorem EW:UnD X (Yp .USub) mG:=by
 intro pins σ H s P α S v vv a Q I r rv p af;cases a with
 |int i=>exact EY pins s σ H v vv Q I rv ⟨i,zT p,xr af r (by simp only[Rep])⟩
 |_=>exact Ao af
def zW:G2:=λa b S=>match a,b with
 |.int i,.int j=>.ok (.int (i+j)) S
 |.str x,.str y=>if x.length+y.length<=lim then .ok (.str (x++y)) S else .bad
 |.tup xs,.tup ys=>if xs.length+ys.length<=lim then .ok (.tup (xs++ys)) S else .bad
 |.lst xs,.lst ys=>if xs.length+ys.length<=lim then .ok (.lst (xs++ys)) S else .bad
 |_,_=>.bad
theorem vQ {H P:Hp}{α:Aa Af}{S:Sto}(I:Inv X pins σ H s)(r:Rel X.K H P α S)(p:Rep X.K P α (.tup xs) v) :
  ∃ a vs its,v=.ref a/\SqT X.K P a vs/\qC X.K P α xs vs/\qL vs its/\Qg s.heap a its.toArray/\xs.length=its.length/\xs.length<=lim:=by
 simp only[Rep] at p;obtain⟨a,vs,rfl,q,t⟩:=p;obtain⟨its,rv,p1,z⟩:=I.tuple (xZ r.sub q);exact⟨a,vs,its,rfl,q,t,rv,p1,by rw[t.length,rv.length],by rw[t.length,zV];exact z⟩
theorem tP {H P:Hp}{α:Aa Af}{S:Sto}(I:Inv X pins σ H s)(r:Rel X.K H P α S)(p:Rep X.K P α (.lst xs) v) :
  ∃ a vs its n,v=.ref a/\SqX X.K P a vs/\qC X.K P α xs vs/\qL vs its/\s.heap.get? a=Ab { cls:=.type "list",data:=.seq its.toArray n } /\ xs.length=its.length/\xs.length<=lim:=by
 simp only[Rep] at p;obtain⟨a,vs,rfl,q,t⟩:=p;have:∃ its n,qL vs its/\s.heap.get? a=Ab { cls:=.type "list",data:=.seq its.toArray n } /\ vs.length<=sizeLine:=by
  rcases q with q|⟨its,n,e,z,rv⟩
  .obtain⟨z,its,n,rv,e⟩:=(o9 r.sub q).ok I.hok
   exact⟨its,n,rv,e,z⟩
  .exact⟨its,n,rv,I.kIn _ _ e,z⟩
 obtain⟨its,n,rv,e,z⟩:=this;exact⟨a,vs,its,n,rfl,q,t,rv,e,by rw[t.length,rv.length],by rw[t.length,zV];exact z⟩
theorem U2 {H P:Hp}{α:Aa Af}{S:Sto}(I:Inv X pins σ H s)(r:Rel X.K H P α S)(t:qC X.K P α xs vs)(rv:qL vs its)(hz:xs.length<=lim)
  (ok:OkV X P α Q (.tup xs) S):EP X pins σ Q (.ref s.heap.objs.size) { s with heap:=s.heap.push { cls:=.type "tuple",data:=.seq its.toArray } }:=by
 refine⟨.ref s.heap.objs.size,_,I.laid (t':=s.toks) (o:=.tup vs) (λb ob q=>Ah _ q) (Ax _) ⟨by rw[<- t.length,<- zV];exact hz,its,rv,Xo _ _⟩,rfl,gR r (I.hok.fresh (Ax _)) t ok⟩
theorem U1 {H P:Hp}{α:Aa Af}{S:Sto}(I:Inv X pins σ H s)(r:Rel X.K H P α S)(t:qC X.K P α xs vs)(rv:qL vs its)(hz:xs.length<=lim)
  (ok:OkV X P α Q (.lst xs) S):EP X pins σ Q (.ref s.heap.objs.size) { s with heap:=s.heap.push { cls:=.type "list",data:=.seq its.toArray } }:=by
 refine⟨.ref s.heap.objs.size,_,I.laid (t':=s.toks) (o:=.lst vs) (λb ob q=>Ah _ q) (Ax _) ⟨by rw[<- t.length,<- zV];exact hz,its,0,rv,AT _ rfl⟩,rfl,wO r (I.hok.fresh (Ax _)) t ok⟩
theorem TL {H P:Hp}{α:Aa Af}{S:Sto}{ys:Aa D}{u:V}{vv uu:Ac}(I:Inv X pins σ H s)(r:Rel X.K H P α S)(rv:qJ v vv)(ru:qJ u uu)(pa:Rep X.K P α (.tup xs) v)(pb:Rep X.K P α (.tup ys) u)(hl:xs.length+ys.length<=lim)(af:OkV X P α Q (.tup (xs++ys)) S) :
  Ap (As X.prog X.w) X.A (Ff .Add vv uu) (EP X pins σ Q) X.xe s:=by
 obtain⟨a,vs,its,rfl,q1,t1,rv1,h1,l1,_⟩:=vQ I r pa;obtain⟨b,ws,its2,rfl,q2,t2,rv2,h2,l2,_⟩:=vQ I r pb;cases rv;cases ru;by_cases hx:its=[]
 .obtain⟨⟨cls,dd,data,sl⟩,ho,hc,n,hd⟩:=id h1
  obtain⟨⟨cls2,dd2,data2,sl2⟩,ho2,hc2,n2,hd2⟩:=id h2;simp only at hc hd hc2 hd2;subst hc hd hc2 hd2;have hxs:xs=[]:=Na.mp (by rw[l1,hx];rfl)
  subst hxs;exact Xa ⟨_,ho,rfl⟩ ⟨_,ho2,rfl⟩ Sm Vs Nv Mx (Mm _ _) (tuple_addW0 a b its.toArray its2.toArray n n2 dd dd2 sl sl2 (by simp[hx]))
   ⟨ho,ho2,⟨.ref b,H,I,rfl,xr af r pb⟩⟩
 .refine _H.cat_tup h1 h2 hx (λz=>⟨.ref a,H,I,rfl,xr af r ?_⟩) (λz=>?_) (by rw[<- l1,<- l2,<- zV];exact hl)
  .have hys:ys=[]:=Na.mp (by rw[l2,z];rfl)
   rw[hys,Fw];exact pa
  .exact U2 I r (t1.append t2) (rv1.append rv2) (by rw[De];exact hl) af
theorem TK {H P:Hp}{α:Aa Af}{S:Sto}{ys:Aa D}{u:V}{vv uu:Ac}(I:Inv X pins σ H s)(r:Rel X.K H P α S)(rv:qJ v vv)(ru:qJ u uu)(pa:Rep X.K P α (.lst xs) v)(pb:Rep X.K P α (.lst ys) u)(hl:xs.length+ys.length<=lim)(af:OkV X P α Q (.lst (xs++ys)) S) :
  Ap (As X.prog X.w) X.A (Ff .Add vv uu) (EP X pins σ Q) X.xe s:=by
 obtain⟨a,vs,its,n,rfl,q1,t1,rv1,h1,l1,_⟩:=tP I r pa;obtain⟨b,ws,its2,n2,rfl,q2,t2,rv2,h2,l2,_⟩:=tP I r pb;cases rv;cases ru;refine PySem.P.add_list h1 h2 ?_ (by rw[Bz,Bz,<- l1,<- l2,<- zV];exact hl)
 rw[List.append_toArray];exact U1 I r (t1.append t2) (rv1.append rv2) (by rw[De];exact hl) af
inductive AddV (a b:D)(S:Sto):Prop
 |bad (e:zW a b S=.bad)
 |int (i j:Ak) (ea:a=.int i) (eb:b=.int j)
 |str (x y:Aq) (ea:a=.str x) (eb:b=.str y)
 |tup (x y:Aa D) (ea:a=.tup x) (eb:b=.tup y)
 |lst (x y:Aa D) (ea:a=.lst x) (eb:b=.lst y)
theorem OB (a b:D)(S:Sto):AddV a b S:=by
 cases a with
 |int i=>cases b with
  |int j=>exact .int i j rfl rfl
  |_=>exact .bad rfl
 |str i=>cases b with
  |str j=>exact .str i j rfl rfl
  |_=>exact .bad rfl
 |tup i=>cases b with
  |tup j=>exact .tup i j rfl rfl
  |_=>exact .bad rfl
 |lst i=>cases b with
  |lst j=>exact .lst i j rfl rfl
  |_=>exact .bad rfl
 |_=>exact .bad rfl
theorem SG:OpD X (Ff .Add) zW:=by
 intro pins σ H s P α S v u vv uu a b Q I r rv ru pa pb af;cases OB a b S with
 |bad e=>rw[e] at af;exact Ao af
 |int i j ea eb =>
  subst ea eb;exact SX pins s σ H v u vv uu Q I rv ru ⟨i,j,zT pa,zT pb,xr af r (by simp only[Rep])⟩
 |str x y ea eb =>
  subst ea eb;obtain⟨hl,af⟩:=xW (X:=X) af;simp only[Rep] at pa pb;exact Z3 pins s σ H v u vv uu Q I rv ru ⟨x,y,pa,pb,by rw[<- zV];exact hl,xr af r (by simp only[Rep])⟩
 |tup xs ys ea eb =>
  subst ea eb;obtain⟨hl,af⟩:=xW (X:=X) af;exact TL I r rv ru pa pb hl af
 |lst xs ys ea eb =>
  subst ea eb;obtain⟨hl,af⟩:=xW (X:=X) af;exact TK I r rv ru pa pb hl af
def gIx:G2:=λa b S=>match b with
 |.int k=>match a with
  |.tup xs=>yG (atI xs k) S
  |.lst xs=>yG (atI xs k) S
  |.loc i=>match S[i]? with
   |some (.lst xs)=>yG (atI xs k) S
   |_=>.bad
  |_=>.bad
 |_=>.bad
theorem nL {P:Hp}{α:Aa Af}{k:Ak}(rp:qC X.K P α ds vs)(h:atI ds k=Ab d):∃ v,atI vs k=Ab v/\Rep X.K P α d v:=by
 unfold atI at h ⊢;rw[<- rp.length];cases q:ixN ds.length k with
 |none=>rw[q] at h;cases h
 |some j =>
  rw[q] at h;obtain⟨v,h1,h2⟩:=rp.get (show ds[j]? = Ab d from h)
  exact⟨v,h1,h2⟩
theorem OT:IxD X gIx:=by
 intro value slice pins σ H s P α S v u vv uu a b Q I r rv ru pa pb af hs;cases b with
 |int k =>
  have hk:=zT pb;cases a with
  |tup xs =>
   obtain⟨d,e,ok⟩:=vD (X:=X) af;simp only[Rep] at pa;obtain⟨p,vs,rfl,q,t⟩:=pa;obtain⟨w,e1,rw'⟩:=nL t e;exact LY value slice pins s σ H _ u vv uu Q I rv ru ⟨p,vs,k,w,rfl,hk,xZ r.sub q,e1,xr ok r rw'⟩ hs
  |lst xs =>
   obtain⟨d,e,ok⟩:=vD (X:=X) af;simp only[Rep] at pa;obtain⟨p,vs,rfl,q,t⟩:=pa;obtain⟨w,e1,rw'⟩:=nL t e;exact iH value slice pins s σ H _ u vv uu Q I rv ru ⟨p,vs,k,w,rfl,hk,(xH r.sub q).l,e1,xr ok r rw'⟩ hs
  |loc i =>
   obtain⟨xs,hS,af⟩:=gQ (X:=X) (f:=λxs=>yG (atI xs k) S) af;obtain⟨d,e,ok⟩:=vD (X:=X) af;simp only[Rep] at pa;obtain⟨p,rfl,q⟩:=pa;obtain⟨vs,z,t⟩:=r.at' i p _ q hS;obtain⟨w,e1,rw'⟩:=nL t e;exact iH value slice pins s σ H _ u vv uu Q I rv ru ⟨p,vs,k,w,rfl,hk,.of z,e1,xr ok r rw'⟩ hs
  |_=>exact Ao af
 |_=>exact Ao af
def l7:G3:=λo i d S=>match o,i with
 |.loc n,.int k=>match S[n]? with
  |some (.lst xs)=>match ixN xs.length k with
   |some j=>.ok () (S.set n (.lst (xs.set j d)))
   |none=>.bad
  |_=>.bad
 |_,_=>.bad
theorem AX:rE X (rA X l7):=by
 intro pins s σ H o i v ov iv u Q I ro ri rv h;obtain⟨P,α,S,a,b,d,r,pa,pb,pd,af⟩:=h;cases a with
 |loc n =>
  cases b with
  |int k =>
   obtain⟨xs,hS,af⟩:=gQ (X:=X) (f:=λxs=>match ixN xs.length k with|some j=>.ok () (S.set n (.lst (xs.set j d)))|none=>.bad) af
   cases hj:ixN xs.length k with
   |none=>rw[hj] at af;exact Ao af
   |some j =>
    rw[hj] at af;simp only[Rep] at pa;obtain⟨p,rfl,q⟩:=pa;obtain⟨vs,z,t⟩:=r.at' n p _ q hS;refine JH pins s σ H _ i v ov iv u Q I ro ri rv ⟨p,vs,k,j,rfl,zT pb,z,by rw[<- t.length];exact hj,?_⟩
    refine af _ P α (r.put (m':=.lst (xs.set j d)) q hS (by intro z;cases z) ⟨vs.set j v,qR,t.set pd j⟩) (qD.refl _) (Bg _)
  |_=>exact Ao af
 |_=>exact Ao af
def eR:D->Sto->Al Ai
 |.tup xs,_=>Ab xs.length
 |.lst xs,_=>Ab xs.length
 |.str x,_=>if x.length<=lim then Ab x.length else none
 |.dct0,_=>Ab 0
 |.loc i,S=>match S[i]? with
  |some (.lst xs)=>Ab xs.length
  |_=>none
 |_,_=>none
def mE:DF:=λds S=>match ds with
 |[d]=>match eR d S with
  |some n=>.ok (.int n) S
  |none=>.bad
 |_=>.bad
end
section
variable {X:Cx}
theorem yA {P:Hp}{α:Aa Af}(rp:qC X.K P α [d] vs)(rv:qL vs us):∃ v u,vs=[v]/\us=[u]/\Rep X.K P α d v/\qJ v u:=by
 obtain⟨v,ws,rfl,p,t⟩:=rp.cons_inv;have:=t.nil_inv;subst this;obtain⟨u,rfl,q⟩:=p6 rv;exact⟨v,u,rfl,rfl,p,q⟩
theorem gV {P:Hp}{α:Aa Af}{e:D}(rp:qC X.K P α [d,e] vs)(rv:qL vs us):∃ v w u x,vs=[v,w]/\us=[u,x]/\Rep X.K P α d v/\Rep X.K P α e w/\qJ v u/\qJ w x:=by
 obtain⟨v,ws,rfl,p,t⟩:=rp.cons_inv;obtain⟨w,ws,rfl,p',t⟩:=t.cons_inv;have:=t.nil_inv;subst this;obtain⟨u,x,rfl,q,q'⟩:=ZN rv;exact⟨v,w,u,x,rfl,rfl,p,p',q,q'⟩
def QQ (d:D)(S:Sto):Al Ai:=match d with
 |.dct0=>none
 |_=>eR d S
theorem DC {H P:Hp}{α:Aa Af}{S:Sto}{n:Ai}(r:Rel X.K H P α S)(p:Rep X.K P α d v)(hn:QQ d S=Ab n):TH X.K v H n:=by
 cases d with
 |str x =>
  cases (show v=.str x from p)
  obtain⟨hl,rfl⟩:=gE hn;exact⟨by rw[<- zV];exact hl,rfl⟩
 |tup xs =>
  simp only[Rep] at p;obtain⟨a,ws,rfl,sq,t⟩:=p;cases hn;exact .inr ⟨ws,xZ r.sub sq,t.length⟩
 |lst xs =>
  simp only[Rep] at p;obtain⟨a,ws,rfl,sq,t⟩:=p;cases hn;exact .inl ⟨ws,(xH r.sub sq).l,t.length⟩
 |loc i =>
  simp only[Rep] at p;obtain⟨a,rfl,e⟩:=p;obtain⟨xs,hS,hn⟩:=DQ (f:=λxs=>Ab xs.length) hn;cases hn;obtain⟨ws,z,t⟩:=r.at' i a _ e hS;exact .inl ⟨ws,.of z,t.length⟩
 |_=>exact nn hn
inductive LenD1 (ds:Aa D)(S:Sto)(r:Res D):Prop
 |bad (e:r=.bad)
 |of (d:D) (n:Ai) (ed:ds=[d]) (hn:QQ d S=Ab n) (e:r=.ok (.int n) S)
theorem CH (ds:Aa D)(S:Sto):LenD1 ds S (match ds with|[.dct0]=>.bad|_=>mE ds S):=by
 cases ds with
 |nil=>exact .bad rfl
 |cons d ds =>
  cases ds with
  |cons _ _=>cases d <;> exact .bad rfl
  |nil =>
   have z:(match [d] with|[D.dct0]=>Res.bad|_=>mE [d] S)=(match QQ d S with|some n=>Res.ok (D.int n) S|none=>.bad):=by cases d <;> rfl
   rw[z];cases hn:QQ d S with
   |none=>exact .bad rfl
   |some n=>exact .of d n rfl hn rfl
theorem N4 (hD:Ps):xA X (.builtin "len") (λds S=>match ds with|[.dct0]=>.bad|_=>mE ds S):=by
 intro pins σ H s P α S vs us ds Q I r rv rp af;have af1:qG X P α (match ds with|[D.dct0]=>Res.bad|_=>mE ds S) (OkV X P α Q):=af
 clear af;cases CH ds S with
 |bad e=>rw[e] at af1;exact Ao af1
 |of d n ed hn e =>
  rw[e] at af1;subst ed;obtain⟨v,u,rfl,rfl,p,q⟩:=yA rp rv;exact YO pins s σ H _ _ Q I rv ⟨v,n,rfl,DC r p hn,xr af1 r (by simp only[Rep])⟩
def tyD:D->Sto->Al Em
 |.non,_=>Ab "NoneType"
 |.bl _,_=>Ab "bool"
 |.int _,_=>Ab "int"
 |.str _,_=>Ab "str"
 |.tup _,_=>Ab "tuple"
 |.lst _,_=>Ab "list"
 |.dct0,_=>Ab "dict"
 |.loc i,S=>match S[i]? with
  |some (.lst _)=>Ab "list"
  |some (.dct _)=>Ab "dict"
  |_=>none
 |_,_=>none
def vZ (a b:Em):Ar:=a == b||(a == "bool" && b == "int")
def gP (b:Em):Ar:=b == "int" || b == "bool" || b == "tuple" || b == "list" || b == "str" || b == "dict"
def D6 (a b:Em):Al Ar:=if (Hr a == Hr b)=true then Ab true else if PySem.W.kitMeta b=true then (fastBuiltinMro a).map (·.contains (.type b)) else none
def tyL:Aa Em:=["NoneType","bool","int","str","tuple","list","dict"]
def okL:Aa Em:=["int","bool","tuple","list","str","dict"]
theorem BE:(tyL.all λa=>okL.all λb=>decide (D6 a b=Ab (vZ a b)))=true:=by decide +kernel
theorem SS {b:Em}(hb:gP b=true):b∈okL:=by simpa [gP,okL,or_assoc] using hb
theorem BF {K:Aj}{a b:Em}(ha:a∈tyL)(hb:gP b=true):Lc K (.type a) (.type b)=Ab (vZ a b):=
 Ca (p:=D6 a b=Ab (vZ a b)) (Bo.mp (Bo.mp BE a ha) b (SS hb))
def uK:DF:=λds S=>match ds with
 |[d,.ty b]=>if gP b then match tyD d S with
   |some a=>.ok (.bl (vZ a b)) S
   |none=>.bad
  else .bad
 |_=>.bad
inductive TyV (X:Cx)(H:Hp)(v:V)(a:Em):Prop
 |of (t:TyOf X.K H v (.type a))
 |tup (p:Af) (vs:Aa V) (e:v=.ref p) (q:SqT X.K H p vs) (ea:a = "tuple")
 |lst (p:Af) (vs:Aa V) (e:v=.ref p) (q:SqL X.K H p vs) (ea:a = "list")
theorem EV {S:Sto}{a:Em}(h:tyD d S=Ab a):a∈tyL:=by
 cases d with
 |non=>cases h;exact .head _
 |bl b=>cases h;exact .tail _ (.head _)
 |int i=>cases h;exact .tail _ (.tail _ (.head _))
 |str x=>cases h;exact .tail _ (.tail _ (.tail _ (.head _)))
 |tup xs=>cases h;exact .tail _ (.tail _ (.tail _ (.tail _ (.head _))))
 |lst xs=>cases h;exact .tail _ (.tail _ (.tail _ (.tail _ (.tail _ (.head _)))))
 |dct0=>cases h;exact .tail _ (.tail _ (.tail _ (.tail _ (.tail _ (.tail _ (.head _))))))
 |loc i =>
  rcases lN (f:=λ_=>Ab "list") (g:=λ_=>Ab "dict") h with⟨_,_,h⟩|⟨_,_,h⟩
  .cases h;exact .tail _ (.tail _ (.tail _ (.tail _ (.tail _ (.head _)))))
  .cases h;exact .tail _ (.tail _ (.tail _ (.tail _ (.tail _ (.tail _ (.head _))))))
 |_=>exact nn h
theorem IC {H P:Hp}{α:Aa Af}{S:Sto}{a:Em}(r:Rel X.K H P α S)(p:Rep X.K P α d v)(h:tyD d S=Ab a):TyV X H v a:=by
 cases d with
 |non=>cases h;cases (show v=.non from p);exact .of .non
 |bl b=>cases h;cases (show v=.bl b from p);exact .of (.bl b)
 |int i=>cases h;cases (show v=.int i from p);exact .of (.int i)
 |str x=>cases h;cases (show v=.str x from p);exact .of (.str x)
 |tup xs =>
  cases h;simp only[Rep] at p;obtain⟨a,vs,e,q,t⟩:=p;exact .tup a vs e (xZ r.sub q) rfl
 |lst xs =>
  cases h;simp only[Rep] at p;obtain⟨a,vs,e,q,t⟩:=p;exact .lst a vs e (xH r.sub q).l rfl
 |dct0 =>
  cases h;simp only[Rep] at p;obtain⟨a,rfl,q⟩:=p;exact .of (.dK (r.sub _ _ q))
 |loc i =>
  simp only[Rep] at p;obtain⟨a,rfl,q⟩:=p;rcases lN (f:=λ_=>Ab "list") (g:=λ_=>Ab "dict") h with⟨xs,hS,h⟩|⟨kvs,hS,h⟩
  .cases h
   obtain⟨vs,z,t⟩:=r.at' i a _ q hS;exact .of (.lst z)
  .cases h
   obtain⟨vs,z,t⟩:=r.at' i a _ q hS;exact .of (.dK z)
 |_=>exact nn h
inductive IsiV (ds:Aa D)(S:Sto):Prop
 |bad (e:uK ds S=.bad)
 |of (d:D) (b a:Em) (ed:ds=[d,.ty b]) (hb:gP b=true) (ha:tyD d S=Ab a) (e:uK ds S=.ok (.bl (vZ a b)) S)
theorem OR (ds:Aa D)(S:Sto):IsiV ds S:=by
 cases ds with
 |nil=>exact .bad rfl
 |cons d ds =>
  cases ds with
  |nil=>exact .bad rfl
  |cons e ds =>
   cases ds with
   |cons _ _=>cases e <;> exact .bad rfl
   |nil =>
    cases e with
    |ty b =>
     have z:uK [d,.ty b] S=if gP b then (match tyD d S with|some a=>.ok (.bl (vZ a b)) S|none=>.bad) else .bad:=rfl
     by_cases hb:gP b=true
     .rw[Bf hb] at z
      cases ha:tyD d S with
      |none=>rw[ha] at z;exact .bad z
      |some a=>rw[ha] at z;exact .of d b a rfl hb ha z
     .rw[Bb hb] at z
      exact .bad z
    |_=>exact .bad rfl
theorem N3:xA X (.builtin "isinstance") uK:=by
 intro pins σ H s P α S vs us ds Q I r rv rp af;cases OR ds S with
 |bad e=>rw[e] at af;exact Ao af
 |of d b a ed hb ha e =>
  subst ed;rw[e] at af;obtain⟨v,w,u,x,rfl,rfl,p,p',q,q'⟩:=gV rp rv;simp only[Rep] at p';subst p';cases (show x=Hr b from q')
  have kit:=BF (K:=X.K) (EV ha) hb;have fin:∀ tk,EP X pins σ Q (.bool (vZ a b)) { s with toks:=tk }:=λtk=>⟨.bl _,H,I.tok tk,rfl,xr af r (by simp only[Rep])⟩
  cases IC r p ha with
  |of ht=>exact XO I q ht kit fin
  |tup p' ws e sq ea =>
   subst e ea;cases (show u=Cw p' from q)
   obtain⟨its,rv',⟨o,h1,h2,_⟩,_⟩:=I.tuple sq;exact Ez Wk I.kIn ⟨o,h1,h2⟩ kit (λz=>nomatch z) fin
  |lst p' ws e sq ea =>
   subst e ea;cases (show u=Cw p' from q)
   obtain⟨its,rv',⟨o,_,h1,h2,_⟩,_⟩:=I.list sq;exact Ez Rh I.kIn ⟨o,h1,h2⟩ kit (λz=>nomatch z) fin
def wI:Aa D->Al (Aa Ar)
 |[]=>Ab []
 |.bl b::r=>(wI r).map (b::·)
 |_=>none
theorem kQ {P:Hp}{α:Aa Af}:∀ {ds:Aa D} {bs:Aa Ar} {vs:Aa V} {us:Aa Ac},wI ds=Ab bs->qC X.K P α ds vs->qL vs us->us=bs.map Ic
 |[],bs,vs,us,h,rp,rv=>by
  cases h;have:=rp.nil_inv;subst this;cases rv;rfl
 |d::ds,bs,vs,us,h,rp,rv=>by
  cases d with
  |bl b =>
   obtain⟨bs',q,rfl⟩:=Co.mp (show (wI ds).map (b::·)=Ab bs from h)
   obtain⟨w,ws,rfl,p,t⟩:=rp.cons_inv;simp only[Rep] at p;subst p;cases rv with
   |cons q1 q2 =>
    cases (show _=Ic b from q1)
    rw[kQ q t q2];rfl
  |_=>exact nn h
def mD (any:Ar):DF:=λds S=>match ds with
 |[d]=>match (x9 d).bind wI with
  |some bs=>.ok (.bl (if any then bs.any id else bs.all id)) S
  |none=>.bad
 |_=>.bad
theorem sA (bs:Aa Ar):((Dd bs.length).all λi=>bs.getD i false)=bs.all id:=by
 induction bs with
 |nil=>rfl
 |cons b bs ih =>
  rw[By,Ny,Ro,HT,Ro,<- ih];rfl
theorem sC (bs:Aa Ar):((Dd bs.length).any λi=>bs.getD i false)=bs.any id:=by
 induction bs with
 |nil=>rfl
 |cons b bs ih =>
  rw[By,Ny,Kj,List.any_map,Kj,<- ih];rfl
theorem XS {H:Hp}{o:Cj}{h':Bs}{tk:Ai}(I:Inv X pins σ H s)(k:∀ b ob,b ∉ [s.heap.objs.size]->(s.heap.push o).get? b=Ab ob->h'.get? b=Ab ob):Inv X pins σ H { s with heap:=h',toks:=tk }:=
 I.kept λb u e=>k b u (by simp;exact Ci (Ay e)) (Ah _ e)
theorem jJ {bs:Aa Ar}(hi:its=bs.map Ic){A:Bk}:TruthOf X.prog X.w A (λi v=>its.toArray[i]? = Ab v) (λi=>bs.getD i false):=λi v s' Q' E' hv hQ=>by
 subst hi;have hv':(bs.map Ic)[i]? = Ab v:=by simpa using hv
 rw[Cg] at hv';cases e:bs[i]? with
 |none=>rw[e] at hv';exact nn hv'
 |some b =>
  rw[e] at hv';cases Cs hv';have:bs.getD i false=b:=by simp[Hb,e]
  have hQ':Q' (bs.getD i false) s':=hQ;rw[this] at hQ';exact Xp hQ'
theorem PR {any:Ar}{S:Sto}{P:Hp}{α:Aa Af}{Ok:D->Sto->Prop}(h:qG X P α (mD any ds S) Ok):∃ d xs bs,ds=[d]/\ItV d xs/\wI xs=Ab bs/\Ok (.bl (if any then bs.any id else bs.all id)) S:=by
 obtain⟨d,rfl,h1⟩:=WN (X:=X) (β:=D) (g:=λd=>match (x9 d).bind wI with|some bs=>.ok (D.bl (if any then bs.any id else bs.all id)) S|none=>.bad) h
 cases hb:(x9 d).bind wI with
 |none=>rw[hb] at h1;exact Ao h1
 |some bs =>
  rw[hb] at h1;obtain⟨xs,hx,hbs⟩:=Eg.mp hb;exact⟨d,xs,bs,rfl,itV hx,hbs,h1⟩
theorem N1 (any:Ar)(hc:X.calm=true):xA X (.builtin (if any then "any" else "all")) (mD any):=by
 intro pins σ H s P α S vs us ds Q I r rv rp af;obtain⟨d,xs,bs,ed,hd,hbs,ok⟩:=PR af;clear af;subst ed;obtain⟨v,u,rfl,rfl,p,q⟩:=yA rp rv;clear rp;have fin:∀ {o:Cj} (h':Bs) (tk:Ai),(∀ b ob,b ∉ [s.heap.objs.size]->(s.heap.push o).get? b=Ab ob->h'.get? b=Ab ob)->EP X pins σ Q (.bool (if any then bs.any id else bs.all id)) { s with heap:=h',toks:=tk }:=
  λ{o} h' tk k=>⟨.bl _,H,XS I k,rfl,xr ok r (by simp only[Rep])⟩
 clear rv ok;have hh:X.A.in1.handled=none:=I.ok.hd hc;cases hd with
 |tup ed =>
  subst ed;obtain⟨a,ws,its,rfl,sq,t,rvi,ht,hl,_⟩:=vQ I r p;cases (show u=Cw a from q)
  have hi:=kQ hbs t rvi;have hlen:its.toArray.size=bs.length:=by rw[hi];simp
  have hne:a≠s.heap.objs.size:=by obtain⟨o,e,_⟩:=ht;exact Ci (Ay e)
  have W:=Yw (prog:=X.prog) (w:=X.w) hh s.heap.objs.size a hne its.toArray;have hT:∀ o,(s.heap.push o).IsTuple a its.toArray:=λo=>by obtain⟨o,e,c⟩:=ht;exact⟨o,Ah _ e,c⟩
  have ht':s.heap.IsTuple a its.toArray:=ht;cases any with
  |false =>
   refine call_all_walk (Fx ht' ⟨s.heap.objs.size,_,_,_,_,_,_,rfl,W,⟨⟨_,AT _ rfl,rfl,rfl⟩,hT _⟩,jJ hi,λh' tk k=>?_⟩);rw[hlen,sA];exact fin h' tk k
  |true =>
   refine call_any_walk (Fx ht' ⟨s.heap.objs.size,_,_,_,_,_,_,rfl,W,⟨⟨_,AT _ rfl,rfl,rfl⟩,hT _⟩,jJ hi,λh' tk k=>?_⟩);rw[hlen,sC];exact fin h' tk k
 |lst ed =>
  subst ed;obtain⟨a,ws,its,n,rfl,sq,t,rvi,ht,hl,_⟩:=tP I r p;cases (show u=Cw a from q)
  have hL:s.heap.IsList a its.toArray:=⟨_,ht,rfl,n,rfl⟩;have hi:=kQ hbs t rvi;have hlen:its.toArray.size=bs.length:=by rw[hi];simp
  have hne:a≠s.heap.objs.size:=Ci (Ay ht);have W:=Walks.list (prog:=X.prog) (w:=X.w) hh s.heap.objs.size a hne its.toArray;have hL':∀ o,(s.heap.push o).IsList a its.toArray:=λo=>⟨_,Ah _ ht,rfl,n,rfl⟩;cases any with
  |false =>
   refine call_all_walk (Gc hL ⟨s.heap.objs.size,_,_,_,_,_,_,rfl,W,⟨⟨_,AT _ rfl,rfl,rfl⟩,hL' _⟩,jJ hi,λh' tk k=>?_⟩);rw[hlen,sA];exact fin h' tk k
  |true =>
   refine call_any_walk (Gc hL ⟨s.heap.objs.size,_,_,_,_,_,_,rfl,W,⟨⟨_,AT _ rfl,rfl,rfl⟩,hL' _⟩,jJ hi,λh' tk k=>?_⟩);rw[hlen,sC];exact fin h' tk k
def QD:DF:=λds S=>match ds with
 |[.int i]=>.ok (.int i) S
 |[.bl b]=>.ok (.int (b01 b)) S
 |_=>.bad
inductive IntV (ds:Aa D)(S:Sto):Prop
 |bad (e:QD ds S=.bad)
 |int (i:Ak) (e:ds=[.int i])
 |bl (b:Ar) (e:ds=[.bl b])
theorem OP (ds:Aa D)(S:Sto):IntV ds S:=by
 cases ds with
 |nil=>exact .bad rfl
 |cons d ds =>
  cases ds with
  |cons _ _=>cases d <;> exact .bad rfl
  |nil =>
   cases d with
   |int i=>exact .int i rfl
   |bl b=>exact .bl b rfl
   |_=>exact .bad rfl
theorem N2:xA X (.type "int") QD:=by
 intro pins σ H s P α S vs us ds Q I r rv rp af;cases OP ds S with
 |bad e=>rw[e] at af;exact Ao af
 |int i e =>
  subst e;obtain⟨v,u,rfl,rfl,p,q⟩:=yA rp rv;exact dG pins s σ H _ _ Q I rv (.inl ⟨_,by rw[zT p],xr af r (by simp only[Rep])⟩)
 |bl b e =>
  subst e;obtain⟨v,u,rfl,rfl,p,q⟩:=yA rp rv;simp only[Rep] at p;subst p;exact dG pins s σ H _ _ Q I rv (.inr ⟨_,rfl,xr af r (by simp only[Rep];rfl)⟩)
def tH:DF:=λds S=>match ds with
 |[d]=>match x9 d with
  |some xs=>.ok (.tup xs) S
  |none=>.bad
 |_=>.bad
theorem YT:xA X (.type "tuple") tH:=by
 intro pins σ H s P α S vs us ds Q I r rv rp af;obtain⟨d,rfl,af1⟩:=WN (X:=X) (β:=D) (g:=λd=>match x9 d with|some xs=>.ok (D.tup xs) S|none=>.bad) af
 obtain⟨xs,hx,af2⟩:∃ xs,x9 d=Ab xs/\OkV X P α Q (.tup xs) S:=by
  cases hx:x9 d with
  |none=>rw[hx] at af1;exact Ao af1
  |some xs=>rw[hx] at af1;exact⟨xs,rfl,af1⟩
 obtain⟨v,u,rfl,rfl,p,q⟩:=yA rp rv;cases itV hx with
 |tup e =>
  subst e;have p0:=p;simp only[Rep] at p;obtain⟨a,ws,rfl,sq,t⟩:=p;exact pI pins s σ H _ _ Q I rv ⟨a,ws,rfl,.inr ⟨xZ r.sub sq,xr af2 r p0⟩⟩
 |lst e =>
  subst e;simp only[Rep] at p;obtain⟨a,ws,rfl,sq,t⟩:=p;exact pI pins s σ H _ _ Q I rv ⟨a,ws,rfl,.inl ⟨(xH r.sub sq).l,λl hl=>gR r hl t af2⟩⟩
end
section
variable {X:Cx}
structure ClsK (K:Aj)(cl:Aa Af):Prop where
 ex:∀ C∈cl,ExnK K C
 one:∀ C∈cl,∀ B∈cl,Lc K (.ref C) (.ref B)=Ab (C == B)
 ve:∀ C∈cl,Lc K (.ref C) (.type "ValueError")=Ab true
def qAp (cl:Aa Af):DF:=λds S=>match ds with
 |[.exn (.ref C),.obj B]=>if cl.contains C&&cl.contains B then .ok (.bl (C == B)) S else .bad
 |[.exn (.ref C),.ty b]=>if cl.contains C&&(b == "ValueError") then .ok (.bl true) S else .bad
 |_=>uK ds S
def MtD (X:Cx)(id:Em)(g:D->Aa D->Sto->Res D):Prop:=
 ∀ (pins:Aa (Af × Cj)) (σ : _L.St) (H:Hp) (s:Ag) (P:Hp) (α : Aa Af) (S:Sto) (v:V) (vv:Ac) (vs:Aa V) (us:Aa Ac) (a:D) (ds:Aa D) (Q:VK),Inv X pins σ H s->Rel X.K H P α S->qJ v vv->Rep X.K P α a v->qL vs us->qC X.K P α ds vs->qP X P α (g a ds S) Q ->
  Ap (As X.prog X.w) X.A (call (.builtin id) (vv::us)) (EP X pins σ Q) X.xe s
def dBm (T:Em)(g:D->Aa D->Sto->Res D)(fo:DE)(fa:DA):DE:=λenv S=>(fo env S).bind λa S1=>if (tyD a S1 == Ab T)=true then (fa env S1).bind λds S2=>g a ds S2 else .bad
theorem Y9 {H P:Hp}{α:Aa Af}{S:Sto}{a:D}{T:Em}(r:Rel X.K H P α S)(p:Rep X.K P α a v)(h:tyD a S=Ab T)(hT:T = "list" \/ T = "dict" \/ T = "int" \/ T = "str"):tyV X.K T v H:=by
 cases a with
 |int i=>cases h;simp only[Rep] at p;subst p;rfl
 |str x=>cases h;simp only[Rep] at p;subst p;rfl
 |lst xs =>
  cases h;simp only[Rep] at p;obtain⟨b,vs,rfl,q,t⟩:=p;exact .inl ⟨rfl,vs,(xH r.sub q).l⟩
 |dct0 =>
  cases h;simp only[Rep] at p;obtain⟨b,rfl,q⟩:=p;exact .inr (.inr (.inl ⟨rfl,.inl ⟨[],r.sub _ _ q⟩⟩))
 |loc i =>
  simp only[Rep] at p;obtain⟨b,rfl,q⟩:=p;rcases lN (f:=λ_=>Ab "list") (g:=λ_=>Ab "dict") h with⟨xs,hS,h⟩|⟨kvs,hS,h⟩
  .cases h
   obtain⟨vs,z,t⟩:=r.at' i b _ q hS;exact .inl ⟨rfl,vs,SqL.of z⟩
  .cases h
   obtain⟨vs,z,t⟩:=r.at' i b _ q hS;exact .inr (.inr (.inl ⟨rfl,.inl ⟨vs,z⟩⟩))
 |non=>cases h;exact absurd hT (by decide)
 |bl b=>cases h;exact absurd hT (by decide)
 |tup xs=>cases h;exact absurd hT (by decide)
 |_=>exact nn h
variable {o e:Bw}{es:Aa Bw}{fo:DE}{fa:DA}{name:Aq}{apos cpos:Ey}{T id:Em}{g:D->Aa D->Sto->Res D}
theorem ND {P:Hp}{α:Aa Af}{a:D}{S:Sto}{β:Type}{k:Res β}{Ok:β->Sto->Prop}(h:qG X P α (if (tyD a S == Ab T)=true then k else .bad) Ok):tyD a S=Ab T/\qG X P α k Ok:=by
 by_cases z:(tyD a S == Ab T)=true
 .rw[Bf z] at h;exact⟨Lw.mp z,h⟩
 .rw[Bb z] at h;exact Ao h
theorem HN (pa:PlainAttrs T)(slot:Slot T name id)(hty:typeOf (.builtin id)=pure (.type "method_descriptor"))(hT:T = "list" \/ T = "dict" \/ T = "int" \/ T = "str")(hm:MtD X id g)(ho:PE X o (tD X fo))(ha:PA X (e::es) (tDA X fa))
  (hbase:Rp o name X.env (eval o X.env)=eval o X.env:=by rfl)
  (hfew:((Ft cpos (Bm (e::es) X.env)).all (λx=>!x.1)&&(backToKw cpos (keywordEach [] X.env)).all (λx=>x.1.isSome)
   && decide ((e::es).length+([]:Aa Keyword).length+(if ([] : Aa Keyword).isEmpty then 0 else 1)<30))=true:=by rfl)
  (hline:(apos.endLine == cpos.line)=true:=by rfl) (hs:Bm (e::es) X.env=(false,eval e X.env)::Bm es X.env:=by rfl) (hplain:(Ft cpos (Bm es X.env)).any (·.1)=false:=by rfl) :
  PE X (.Call (.Attribute o name apos) (e::es) [] cpos) (tD X (dBm T g fo fa)):=by
 intro pins s σ H Q I h;obtain⟨P,α,env,S,r,re,af⟩:=h;refine wpAny_Call_method_late hbase hfew hline rfl (thn (zN ho I r re af) λvv s1 ⟨v,H1,P1,α1,d,S1,G1,af1⟩=>?_);obtain⟨ht,af2⟩:=ND af1;obtain⟨h1,h2⟩:=Y8 G1.inv G1.val (Y9 G1.rel G1.rep ht hT);refine⟨T,id,pa,slot,hty,h1,h2,?_⟩;have hA:=wA ha G1.inv G1.rel G1.env (P:=P1) (α:=α1) (Ok:=OkV X P1 α1 Q) (qP.base G1.same G1.pre (r:=(fa env S1).bind λds S2=>g d ds S2) af2) cpos;rw[hs] at hA ⊢;refine To (by show (false||(Ft cpos (Bm es X.env)).any (·.1))=false;rw[hplain] <;> rfl) (Vg ?_)
 exact thn hA λus s2 ⟨vs,H2,P2,α2,ds,S2,I2,rv,r2,re2,rp2,e1,e2,af3⟩=>hm pins σ H2 s2 P2 α2 S2 v vv vs us d ds Q I2 r2 G1.val (Rep.mono e1 e2 _ _ G1.rep) rv rp2 (qP.base e1 e2 af3)
def wC:D->Aa D->Sto->Res D:=λa ds S=>match a,ds with
 |.loc i,[d]=>match S[i]? with
  |some (.lst xs)=>if xs.length<lim then .ok .non (S.set i (.lst (xs++[d]))) else .bad
  |_=>.bad
 |_,_=>.bad
inductive ApV (a:D)(ds:Aa D)(S:Sto):Prop
 |bad (e:wC a ds S=.bad)
 |of (i:Ai) (d:D) (xs:Aa D) (ea:a=.loc i) (ed:ds=[d]) (hS:S[i]? = Ab (.lst xs)) (hl:xs.length<lim) (e:wC a ds S=.ok .non (S.set i (.lst (xs++[d]))))
theorem apV (a:D)(ds:Aa D)(S:Sto):ApV a ds S:=by
 cases a with
 |loc i =>
  cases ds with
  |nil=>exact .bad rfl
  |cons d ds =>
   cases ds with
   |cons _ _=>exact .bad rfl
   |nil =>
    have z:wC (.loc i) [d] S=(match S[i]? with|some (.lst xs)=>(if xs.length<lim then .ok .non (S.set i (.lst (xs++[d]))) else .bad)|_=>.bad):=rfl
    cases hS:S[i]? with
    |none=>rw[hS] at z;exact .bad z
    |some m =>
     rw[hS] at z;cases m with
     |lst xs =>
      by_cases hl:xs.length<lim
      .exact .of i d xs rfl rfl hS hl (z.trans (Bf hl))
      .exact .bad (z.trans (Bb hl))
     |_=>exact .bad z
 |_=>exact .bad rfl
theorem W6:MtD X "list.append" wC:=by
 intro pins σ H s P α S v vv vs us a ds Q I r rv p rvs rps af;cases apV a ds S with
 |bad e=>rw[e] at af;exact Ao af
 |of i d xs ea ed hS hl e =>
  rw[e] at af;subst ea ed;obtain⟨w,u,rfl,rfl,p',q'⟩:=yA rps rvs;simp only[Rep] at p;obtain⟨b,rfl,q⟩:=p;obtain⟨ws,z,t⟩:=r.at' i b _ q hS;refine WA pins s σ H (.ref b) [w] vv [u] Q I rv (.cons q' .nil) ⟨b,ws,w,rfl,rfl,z,by rw[<- t.length,<- zV];exact hl,?_⟩
  exact xr af (r.put (m':=.lst (xs++[d])) q hS (by intro z;cases z) ⟨ws++[w],qR,t.append (.cons p' .nil)⟩) (by simp only[Rep])
end
def yF:D->Al Key
 |.int i=>Ab (.inl i)
 |.str x=>Ab (.inr x)
 |_=>none
def x8 (kvs:Aa (Key × D))(k:Key):Al D:=(kvs.find? λkv=>decide (kv.1=k)).map (·.2)
def yO (kvs:Aa (Key × D))(k:Key)(v:D):Aa (Key × D):=
 if (kvs.any λkv=>decide (kv.1=k))=true then kvs.map (λkv=>if kv.1=k then (kv.1,v) else kv) else kvs++[(k,v)]
section
variable {K:Aj}{P:Hp}{α : Aa Af}
theorem lC {vs:Aa (Key × V)}(r:KVs K P α kvs vs):kvs.length=vs.length:=Paired.length r
theorem lD {k:Key}:∀ {kvs:Aa (Key × D)} {vs:Aa (Key × V)},KVs K P α kvs vs->(∀ d,x8 kvs k=Ab d->∃ v,yR vs k=Ab v/\Rep K P α d v)/\(x8 kvs k=none->yR vs k=none)
 |_,_,.nil=>⟨λd h=>by simp[x8] at h,λ_=>rfl⟩
 |(k1,d1)::kvs,(k2,v2)::vs,.cons z t=>by
  obtain⟨e,r⟩:=z;dsimp only at e r;subst e;obtain⟨h1,h2⟩:=lD (k:=k) t;unfold x8 yR at *;by_cases hk:k1=k
  .subst hk
   constructor
   .intro d h
    simp at h;subst h;exact⟨v2,by simp,r⟩
   .intro h
    simp at h
  .constructor
   .intro d h
    rw[Tp (by simpa using hk)] at h ⊢
    exact h1 d h
   .intro h
    rw[Tp (by simpa using hk)] at h ⊢
    exact h2 h
theorem BG {k:Key}{vs:Aa (Key × V)}(h:KVs K P α kvs vs):(kvs.any λkv=>decide (kv.1=k))=(vs.any λkv=>decide (kv.1=k)):=by
 induction h with
 |nil=>rfl
 |cons z t ih=>rw[Kj,Kj,ih,z.1]
theorem BI {k:Key}(q:Rep K P α d v){kvs:Aa (Key × D)}{vs:Aa (Key × V)}(h:KVs K P α kvs vs):KVs K P α (kvs.map λkv=>if kv.1=k then (kv.1,d) else kv) (vs.map λkv=>if kv.1=k then (kv.1,v) else kv):=by
 induction h with
 |nil=>exact .nil
 |cons z t ih =>
  rw[Dc,Dc];refine .cons ?_ ih;rw[<- z.1]
  split
  .exact⟨rfl,q⟩
  .exact z
theorem BH {k:Key}(q:Rep K P α d v){kvs:Aa (Key × D)}{vs:Aa (Key × V)}(h:KVs K P α kvs vs):KVs K P α (kvs++[(k,d)]) (vs++[(k,v)]):=by
 induction h with
 |nil=>exact .cons ⟨rfl,q⟩ .nil
 |cons z t ih=>exact .cons z ih
theorem iJ {k:Key}(q:Rep K P α d v){kvs:Aa (Key × D)}{vs:Aa (Key × V)}(r:KVs K P α kvs vs):KVs K P α (yO kvs k d) (yP vs k v):=by
 unfold yO yP;rw[BG r]
 split
 .exact BI q r
 .exact BH q r
theorem eP {k:Key}(h:yF d=Ab k)(r:Rep K P α d v):v=kV k:=by
 cases d with
 |int i=>cases h;simp only[Rep] at r;exact r
 |str x=>cases h;simp only[Rep] at r;exact r
 |_=>cases h
end
section
variable {X:Cx}{o i e:Bw}{pos:Ey}{fo fi:DE}
def rY:DE:=λ_ S=>.ok (.loc S.length) (S++[.dct []])
theorem NI:PE X (.Dict [] [] pos) (tD X rY):=by
 refine peW UM λσ H Q ⟨P,α,env,S,r,re,af⟩ p hp=>?_;have hpre:α<+:α++[p]:=Mp _ _;have r1:=r.new (o:=.dK []) (m:=.dct []) hp ⟨[],qR,.nil⟩;refine af _ _ _ _ r1 (qD.refl _) hpre ?_;simp only[Rep];exact⟨p,rfl,by rw[<- r.len];simp⟩
def vJ:G3:=λo i d S=>match o with
 |.loc n=>match S[n]? with
  |some (.dct kvs)=>match yF i with
   |some k=>if kvs.length<lim then .ok () (S.set n (.dct (yO kvs k d))) else .bad
   |none=>.bad
  |_=>l7 o i d S
 |_=>l7 o i d S
inductive Set2V (a b d:D)(S:Sto):Prop
 |bad (e:vJ a b d S=.bad)
 |old (e:vJ a b d S=l7 a b d S)
 |of (n:Ai) (kvs:Aa (Key × D)) (k:Key) (ea:a=.loc n) (hS:S[n]? = Ab (.dct kvs)) (hk:yF b=Ab k) (hl:kvs.length<lim) (e:vJ a b d S=.ok () (S.set n (.dct (yO kvs k d))))
theorem AW (a b d:D)(S:Sto):Set2V a b d S:=by
 cases a with
 |loc n =>
  have z:vJ (.loc n) b d S=(match S[n]? with|some (.dct kvs)=>(match yF b with|some k=>(if kvs.length<lim then .ok () (S.set n (.dct (yO kvs k d))) else .bad)|none=>.bad)|_=>l7 (.loc n) b d S):=rfl
  cases hS:S[n]? with
  |none=>rw[hS] at z;exact .old z
  |some m =>
   rw[hS] at z;cases m with
   |dct kvs =>
    cases hk:yF b with
    |none=>rw[hk] at z;exact .bad z
    |some k =>
     rw[hk] at z;by_cases hl:kvs.length<lim
     .exact .of n kvs k rfl hS hk hl (z.trans (Bf hl))
     .exact .bad (z.trans (Bb hl))
   |_=>exact .old z
 |_=>exact .old rfl
theorem EH (hu:X.A.units+1<Ee):rE X (rA X vJ):=by
 intro pins s σ H o i v ov iv u Q I ro ri rv h;obtain⟨P,α,S,a,b,d,r,pa,pb,pd,af⟩:=h;cases AW a b d S with
 |bad e=>rw[e] at af;exact Ao af
 |old e =>
  rw[e] at af;exact AX pins s σ H o i v ov iv u Q I ro ri rv ⟨P,α,S,a,b,d,r,pa,pb,pd,af⟩
 |of n kvs k ea hS hk hl e =>
  rw[e] at af;subst ea;simp only[Rep] at pa;obtain⟨p,rfl,q⟩:=pa;obtain⟨vs,z,t⟩:=r.at' n p _ q hS;cases eP hk pb;cases (show ov=Cw p from ro)
  refine X7 hu I (nH.k (v:=v) z (by rw[<- lC t,<- zV];exact hl)) ri rv λs' I'=>⟨_,I',?_⟩
  exact af _ P α (r.put (m':=.dct (yO kvs k d)) q hS (by intro z;cases z) ⟨_,qR,iJ pd t⟩) (qD.refl _) (Bg _)
theorem rG {β:Type}{r:Res β}{P:Hp}{α:Aa Af}{Ok:β->Sto->Prop}(e:r=.bad)(h:qG X P α r Ok):Fh:=by
 rw[e] at h;exact h
end
def vX (S:Sto):Sto:=S.map λ_=>.dead
def oY:D->Ar
 |.non=>true
 |.bl _=>true
 |.int _=>true
 |.str _=>true
 |_=>false
def mapO {β γ:Type}(f:β->Al γ) : Aa β -> Al (Aa γ)
 |[]=>Ab []
 |b::r=>match f b,mapO f r with
  |some c,Ab cs=>Ab (c::cs)
  |_,_=>none
def wD:Ai->Sto->D->Al D
 |n+1,S,.tup xs=>(mapO (wD n S) xs).map .tup
 |n+1,S,.lst xs=>(mapO (wD n S) xs).map .lst
 |n+1,S,.loc i=>match S[i]? with
  |some (.lst xs)=>(mapO (wD n S) xs).map .lst
  |_=>none
 |_,_,.non=>Ab .non
 |_,_,.bl b=>Ab (.bl b)
 |_,_,.int i=>Ab (.int i)
 |_,_,.str x=>Ab (.str x)
 |_,_,.ty n=>Ab (.ty n)
 |_,_,.obj a=>Ab (.obj a)
 |_,_,.dct0=>Ab .dct0
 |_,_,.exn c=>Ab (.exn c)
 |_,_,_=>none
def vC (H P:Hp)(α : Aa Af):Hp:=λb=>if (P b).isSome then P b else if b∈α then H b else none
section
variable {K:Aj}{H P:Hp}{α : Aa Af}{S:Sto}
theorem uM (H P:Hp)(α : Aa Af):qD P (vC H P α):=λb o e=>by
 unfold vC;rw[e];rfl
theorem VP (r:Rel K H P α S):qD (vC H P α) H:=λb o e=>by
 unfold vC at e
 split at e
 .exact r.sub b o e
 .split at e
  .exact e
  .cases e
theorem nZ {a:Af}(h:P a=none)(ha:a∈α):vC H P α a=H a:=by
 unfold vC;rw[h];simp[ha]
theorem Rel.frz (r:Rel K H P α S):Rel K H (vC H P α) α (vX S) where
 tb:=r.tb.keep (λ_ _ q _=>q) λb u q _ p n=>⟨by unfold vC;rw[p];simp[n],n⟩
 sub:=VP r
 len:=by rw[r.len];simp[vX]
 nd:=r.nd
 sep:=λi a o h1 h2 h3=>by
  unfold vX at h2;rw[Cg] at h2;cases q:S[i]? with
  |none=>rw[q] at h2;cases h2
  |some m=>rw[q] at h2;cases h2;exact absurd rfl h3
 at':=λi a o h1 h2=>by
  unfold vX at h2;rw[Cg] at h2;cases q:S[i]? with
  |none=>rw[q] at h2;cases h2
  |some m=>rw[q] at h2;cases h2;trivial
 own:=r.own
theorem Rel.unfrz {H' P1:Hp}{α1:Aa Af}{S1:Sto}(r:Rel K H P α S)(r1:Rel K H' P1 α1 S1)(e:qD (vC H P α) P1):Rel K H' P α S:=by
 have mem:∀ i a,α[i]? = Ab a->a∈α:=λi a h=>Bu h;have kp:∀ (i:Ai) (a:Af) (o:MO) (u:HO),α[i]? = Ab a->S[i]? = Ab o->o≠MO.dead->H a=Ab u->H' a=Ab u:=λi a o u h1 h2 h3 h4 =>
  r1.sub a u (e a u (by rw[nZ (r.sep i a o h1 h2 h3) (mem i a h1)];exact h4))
 refine⟨λx hx c T h=>let ⟨ps,e,_,_,ok,cd⟩:=r1.tb x hx c T h;let ⟨_,_,pn,an,_,_⟩:=r.tb x hx c T h;⟨ps,e,pn,an,ok,cd⟩,(uM H P α).trans (e.trans r1.sub),r.len,r.nd,r.sep,λi a o h1 h2=>?_,λi a h1=>?_⟩
 .have m:=r.at' i a o h1 h2
  cases o with
  |dead=>trivial
  |lst ds=>obtain⟨vs,q,t⟩:=m;exact⟨vs,kp i a _ _ h1 h2 (by intro z;cases z) q,t⟩
  |dct kvs=>obtain⟨vs,q,t⟩:=m;exact⟨vs,kp i a _ _ h1 h2 (by intro z;cases z) q,t⟩
  |dcT kvs=>obtain⟨vs,q,t⟩:=m;exact⟨vs,kp i a _ _ h1 h2 (by intro z;cases z) q,t⟩
  |ins C fs=>obtain⟨dx,vs,q,t⟩:=m;exact⟨dx,vs,kp i a _ _ h1 h2 (by intro z;cases z) q,t⟩
 .have h:=r.own i a h1
  cases q:H a with
  |none=>exact absurd q h
  |some u =>
   have z:∃ u',vC H P α a=Ab u':=by
    cases q2:P a with
    |none=>exact⟨u,by rw[nZ q2 (mem i a h1)];exact q⟩
    |some u'=>exact⟨u',uM H P α a u' q2⟩
   obtain⟨u',z⟩:=z;rw[r1.sub a u' (e a u' z)];intro w;cases w
set_option tactic.hygienic true in
theorem qC.mapO {f:D->Al D}{P':Hp}(h:∀ d t v,f d=Ab t->Rep K P α d v->Rep K P' α t v):∀ {ds ts:Aa D} {vs:Aa V},_D.mapO f ds=Ab ts->qC K P α ds vs->qC K P' α ts vs
 |[],ts,vs,e,r=>by cases e;rw[r.nil_inv];exact .nil
 |d::ds,ts,vs,e,r=>by
  obtain⟨w,ws,rfl,r1,r2⟩:=r.cons_inv;unfold _D.mapO at e
  split at e
  .rename_i c cs h1 h2
   cases e;exact .cons (h d c w h1 r1) (qC.mapO h h2 r2)
  .cases e
theorem oB (r:Rel K H P α S):∀ (n:Ai) (d t:D) (v:V),wD n S d=Ab t->Rep K P α d v->Rep K (vC H P α) α t v:=by
 have mono:∀ (d:D) (v:V),Rep K P α d v->Rep K (vC H P α) α d v:=λd v=>Rep.mono (uM H P α) (Bg _) d v;intro n
 induction n with
 |zero =>
  intro d t v h p;cases d <;> first|(cases h;exact mono _ _ p)|exact nn h
 |succ n ih =>
  intro d t v h p;cases d with
  |tup xs =>
   obtain⟨ts,h1,rfl⟩:=Co.mp h;simp only[Rep] at p ⊢;obtain⟨a,vs,rfl,q,t⟩:=p;exact⟨a,vs,rfl,wQ (uM H P α) q,qC.mapO (λd t v=>ih d t v) h1 t⟩
  |lst xs =>
   obtain⟨ts,h1,rfl⟩:=Co.mp h;simp only[Rep] at p ⊢;obtain⟨a,vs,rfl,q,t⟩:=p;exact⟨a,vs,rfl,xH (uM H P α) q,qC.mapO (λd t v=>ih d t v) h1 t⟩
  |loc i =>
   have h:(match S[i]? with|some (.lst xs)=>(_D.mapO (wD n S) xs).map D.lst|_=>none)=Ab t:=h
   cases hS:S[i]? with
   |none=>rw[hS] at h;exact nn h
   |some m =>
    rw[hS] at h;cases m with
    |lst xs =>
     obtain⟨ts,h1,rfl⟩:=Co.mp h;simp only[Rep] at p ⊢;obtain⟨a,rfl,q⟩:=p;obtain⟨vs,z,t⟩:=r.at' i a _ q hS;refine⟨a,vs,rfl,.inl (.inl ?_),qC.mapO (λd t v=>ih d t v) h1 t⟩;rw[nZ (r.sep i a _ q hS (by intro z;cases z)) (Bu q)]
     exact z
    |_=>exact nn h
  |fd ks ds=>exact nn h
  |clo a vs ds=>exact nn h
  |_=>cases h;exact mono _ _ p
theorem YM {P':Hp}{α':Aa Af}(h:oY d=true)(p:Rep K P α d v):Rep K P' α' d v:=by
 cases d with
 |non=>simpa only [Rep] using p
 |bl b=>simpa only [Rep] using p
 |int i=>simpa only [Rep] using p
 |str x=>simpa only [Rep] using p
 |_=>cases h
end
def kZ:Ai:=20
def QR (r:Res D)(S:Sto):Res D:=match r with
 |.ok d _=>if oY d then .ok d S else .bad
 |_=>.bad
theorem QU {X:Cx}{H P:Hp}{α:Aa Af}{S:Sto}{r:Res D}(rl:Rel X.K H P α S)(af:qP X P α (QR r S) Q):qP X (vC H P α) α r Q:=by
 cases r with
 |ok d S' =>
  obtain⟨ha,af⟩:=xW (X:=X) af;exact λv H' P' α' r' e1 e2 rp=>af v H' P α (rl.unfrz r' e1) (qD.refl _) (Bg _) (YM ha rp)
 |ex c x S'=>exact Ao af
 |bad=>exact Ao af
section
variable {X:Cx}
def u3 (g:G2):G2:=λa b S=>match wD kZ S a,wD kZ S b with
 |some x,Ab y=>QR (g x y (vX S)) S
 |_,_=>.bad
set_option tactic.hygienic true in
theorem OpD.look {g:G2}(h:OpD X f g):OpD X f (u3 g):=by
 intro pins σ H s P α S v u vv uu a b Q I r rv ru pa pb af;unfold u3 at af
 split at af
 .rename_i x y hx hy
  exact h pins σ H s _ α (vX S) v u vv uu x y Q I r.frz rv ru (oB r kZ a x v hx pa) (oB r kZ b y u hy pb) (QU r af)
 .exact Ao af
variable {cm:Ar}{k:Ai}{f:Af}{fd:Fi}{ps:Aa Aq}{F:DF}{x:Aq}{p pos:Ey}{e:Bw}{es:Aa Bw}{fa:DA}{n:Ai}
end
def vR (t:DT)(f:DS):Ai->qB->Sto->Out
 |0,_,_=>.bad
 |n+1,env,S=>(t env S).toS env λb S1=>if b then (match f env S1 with
   |.nx env2 S2=>vR t f n env2 S2
   |.ct env2 S2=>vR t f n env2 S2
   |.bk env2 S2=>.nx env2 S2
   |o=>o) else .nx env S1
theorem ZU:∃ n:Ai,n=2 ^ 60:=⟨_,rfl⟩
def big:Ai:=So ZU
theorem TU:big=2 ^ 60:=Oo ZU
def nB (t:DT)(f:DS):DS:=λenv S=>vR t f big env S
section
variable {X:Cx}{pos:Ey}
inductive WhI (X:Cx)(P:Hp)(α : Aa Af)(t:DT)(f:DS)(D:Ends)(m:Ai)(σ : _L.St)(H:Hp):Prop
 |mk (P2:Hp) (α2:Aa Af) (env2:qB) (S2:Sto) (r:Rel X.K H P2 α2 S2) (re:z9 X.K P2 α2 σ env2) (e1:qD P P2) (e2:α<+:α2) (af:z0 X P2 α2 (vR t f m env2 S2) D):WhI X P α t f D m σ H
theorem VC {c:Bw}{body:Aa Fq}{t:DT}{f:DS}(hp:Rg (As X.prog X.w) X.A X.env X.xe)(hc:PT X c (tDT X t))(hb:PSs X body (tDS X f)):PS X (.While c body [] pos) (tDS X (nB t f)):=
 psW (UQ hp hc hb) λD σ H ⟨P,α,env,S,r,re,af⟩=>by
  refine⟨WhI X P α t f D,⟨big,P,α,env,S,r,re,qD.refl _,Bg _,af⟩,?_⟩;rintro m σ2 H2 ⟨P2,α2,env2,S2,r2,re2,e1,e2,af2⟩;cases m with
  |zero=>exact Ao af2
  |succ m =>
   have af3:=w5 af2;refine⟨P2,α2,env2,S2,r2,re2,?_⟩;cases q:t env2 S2 with
   |bad=>rw[q] at af3;exact af3
   |ex c x S'=>rw[q] at af3;exact af3
   |ok b S3 =>
    rw[q] at af3;intro H3 P3 α3 r3 e3 e4;have af4:z0 X P3 α3 (if b then (match f env2 S3 with|.nx env2 S2=>vR t f m env2 S2|.ct env2 S2=>vR t f m env2 S2|.bk env2 S2=>.nx env2 S2|o=>o) else .nx env2 S3) D:=z0.base e3 e4 af3
    cases b with
    |false=>exact af4 σ2 H3 P3 α3 r3 (re2.mono e3 e4) (qD.refl _) (Bg _)
    |true =>
     simp only[Dp] at af4 ⊢;refine⟨WhI X P α t f D m,λσ' H' w=>⟨m,Ga _,w⟩,P3,α3,env2,S3,r3,re2.mono e3 e4,?_⟩;cases q2:f env2 S3 with
     |bad=>rw[q2] at af4;exact af4
     |ex c x env4 S4=>rw[q2] at af4;exact af4
     |rt d4 S4=>rw[q2] at af4;exact af4
     |bk env4 S4=>rw[q2] at af4;exact af4
     |nx env4 S4 =>
      rw[q2] at af4;exact λσ5 H5 P5 α5 r5 re5 e8 e9=>⟨P5,α5,env4,S4,r5,re5,(e1.trans e3).trans e8,(e2.trans e4).trans e9,z0.base e8 e9 af4⟩
     |ct env4 S4 =>
      rw[q2] at af4;exact λσ5 H5 P5 α5 r5 re5 e8 e9=>⟨P5,α5,env4,S4,r5,re5,(e1.trans e3).trans e8,(e2.trans e4).trans e9,z0.base e8 e9 af4⟩
end
section
variable {X:Cx}{a b c e:Bw}{pos:Ey}{fa fe:DE}
def qBQ (i:Ai)(g:G2)(fe:DE):DS:=λenv S=>match env[i]? with
 |some (Ab x)=>(fe env S).toS env λy S1=>(g x y S1).toS env λz S2=>.nx (env.set i (Ab z)) S2
 |_=>.bad
def qAr:G2:=i2 (λ_ _=>true) λi j=>.int (i+j)
def xR (xs:Aa D)(lo hi:Al Ak):Aa D:=(xs.drop (_H.sIx xs.length 0 lo)).take (_H.sIx xs.length xs.length hi-_H.sIx xs.length 0 lo)
abbrev DO:=qB->Sto->Res (Al Ak)
def OkO (X:Cx)(P:Hp)(α : Aa Af)(Q:Al Ak->Hp->Prop)(o:Al Ak)(S':Sto):Prop:=∀ H' P' α',Rel X.K H' P' α' S'->qD P P'->α<+:α'->Q o H'
def tDO (X:Cx)(f:DO):TO:=λσ H Q=>∃ P α env S,Rel X.K H P α S/\z9 X.K P α σ env/\qG X P α (f env S) (OkO X P α Q)
def vM:DO:=λ_ S=>.ok none S
def wB (f:DE):DO:=λenv S=>(f env S).bind λd S1=>match d with
 |.int i=>.ok (Ab i) S1
 |_=>.bad
theorem P9:PO X none (tDO X vM):=λpins s σ H Q I ⟨P,α,env,S,r,re,af⟩=>FG pins s σ H Q I (af H P α r (qD.refl _) (Bg _))
theorem PB (he:PE X e (tD X fe)):PO X (Ab e) (tDO X (wB fe)):=by
 intro pins s σ H Q I h;obtain⟨P,α,env,S,r,re,af⟩:=h;refine FH (te:=tD X fe) he pins s σ H Q I ⟨P,α,env,S,r,re,?_⟩;have af':qG X P α ((fe env S).bind λd S1=>match d with|.int i=>.ok (Ab i) S1|_=>.bad) (OkO X P α Q):=af
 cases q:fe env S with
 |bad=>rw[q] at af';exact af'
 |ex c x S'=>rw[q] at af';exact af'
 |ok d S1 =>
  rw[q] at af';intro v H1 P1 α1 r1 e1 e2 rp;cases d with
  |int i=>exact⟨i,zT rp,af' H1 P1 α1 r1 e1 e2⟩
  |_=>exact Ao af'
theorem qC.cut {K:Aj}{P:Hp}{α:Aa Af}(r:qC K P α ds vs)(lo hi:Al Ak):qC K P α (xR ds lo hi) (pS vs lo hi):=by
 unfold xR pS;rw[r.length];exact(r.drop _).take _
def gSl (d:D)(lo hi:Al Ak)(S:Sto):Res D:=match d with
 |.lst xs=>.ok (.lst (xR xs lo hi)) S
 |.loc i=>match S[i]? with
  |some (.lst xs)=>.ok (.lst (xR xs lo hi)) S
  |_=>.bad
 |.tup xs=>.ok (.tup (xR xs lo hi)) S
 |_=>.bad
def dSl (fe:DE)(fl fh:DO):DE:=λenv S=>(fe env S).bind λd S1=>(fl env S1).bind λlo S2=>(fh env S2).bind λhi S3=>gSl d lo hi S3
end
end _D
namespace _D
open PySem PySem.Spec PyProof.Rows _L _H
section
variable {prog:Bc}{w:Bx}{A:Bk}{E:Ac->Ag->Prop}{s:Ag}
theorem pL {t sl:Af}{items:Aw Ac}{vl vu:Ac}{lo hi:Al Ak}{Q:Ac->Ag->Prop}(ht:Qg s.heap t items)(hs:s.heap.IsSliceOf sl vl vu .none)(pl:Qx vl lo)(pu:Qx vu hi)
  (hw:sIx items.size 0 lo=0/\sIx items.size items.size hi=items.size) (h:Q (.ref t) s):Ap (As prog w) A (My (.ref t) (.ref sl)) Q E s:=by
 obtain⟨ob,hob,hcb,_⟩:=id hs;have hTs:s.TypeIs (.ref sl) "slice":=⟨ob,hob,hcb⟩;unfold My
 try with_reducible refine Fj ?_
 first|refine Ad (An ?_)|skip
 refine Ad (Xt ht.typeIs (by decide) ?_)
 refine Ad (Ef (name:=Hy "__getitem__") ht.typeIs Fb
  (Ea Fb ht.typeIs Vt ?_ (Wn _ _)))
 show Ap _ _ (Ll (.ref t) >>= _) _ _ s;refine Ad (tupleItemsOf_ ht ?_);refine Ad (Mz hTs ?_);rw[Bf (by decide)]
 refine Ad (uX hs pl pu ?_);show Ap _ _ (if (((sIx items.size 0 lo:Ai):Ak) == 0&&(1:Ak) == 1&&(sIx items.size items.size hi-sIx items.size 0 lo) == items.size)=true then _ else _) _ _ s
 rw[hw.1,hw.2,Bf (by simp)]
 unfold Builtin.Tuple.tupleIsExact;refine Ad (Ad (Mz ht.typeIs (An ?_)));rw[Bf (by decide)]
 exact Ad (Gs (An ⟨_,rfl,An h⟩))
end
section
variable {X:Cx}{e:Bw}{fe:DE}{pos p2:Ey}
def qAI (X:Cx):V->Al Ak->Al Ak->Hp->VK->Prop:=λx lo hi H Q=>∃ P α S d,Rel X.K H P α S/\Rep X.K P α d x/\qP X P α (gSl d lo hi S) Q
theorem qAL:SlR X (qAI X):=by
 intro pins s σ H x v vl vu lo hi sl Q I rx hs pl pu h;obtain⟨P,α,S,d,r,p,af⟩:=h;cases d with
 |lst xs =>
  simp only[Rep] at p;obtain⟨a,vs,rfl,q,t⟩:=p;exact oG pins s σ H _ v vl vu lo hi sl Q I rx hs pl pu ⟨a,vs,rfl,(xH r.sub q).l,λb hb=>wO r hb (qC.cut t lo hi) af⟩
 |loc i =>
  obtain⟨xs,hS,af⟩:=gQ (X:=X) (f:=λxs=>Res.ok (D.lst (xR xs lo hi)) S) af;simp only[Rep] at p;obtain⟨a,rfl,q⟩:=p;obtain⟨vs,z,t⟩:=r.at' i a _ q hS;exact oG pins s σ H _ v vl vu lo hi sl Q I rx hs pl pu ⟨a,vs,rfl,SqL.of z,λb hb=>wO r hb (qC.cut t lo hi) af⟩
 |tup xs =>
  have p0:=p;simp only[Rep] at p;obtain⟨a,vs,rfl,q,t⟩:=p;by_cases hw:sIx vs.length 0 lo=0/\sIx vs.length vs.length hi=vs.length
  .cases rx
   obtain⟨its,rv,ht,hz⟩:=I.tuple (xZ r.sub q);have hlen:its.toArray.size=vs.length:=by rw[Bz];exact rv.length.symm
   refine⟨"tuple",_,Fb.lookup,ht.typeIs,pL ht hs pl pu (by rw[hlen];exact hw) ⟨.ref a,H,I,rfl,xr af r ?_⟩⟩
   have e:xR xs lo hi=xs:=by
    unfold xR;rw[t.length,hw.1,hw.2,<- t.length];simp
   rw[e];exact p0
  .exact EI pins s σ H _ v vl vu lo hi sl Q I rx hs pl pu ⟨a,vs,rfl,xZ r.sub q,hw,λb hb=>gR r hb (qC.cut t lo hi) af⟩
 |_=>exact Ao af
theorem V4 {lo hi:Al Bw}{fl fh:DO}(he:PE X e (tD X fe))(hl:PO X lo (tDO X fl))(hu:PO X hi (tDO X fh)):PE X (.Subscript e (.Slice lo hi none p2) pos) (tD X (dSl fe fl fh)):=
 peW (UN qAL he hl hu) λσ H Q ⟨P,α,env,S,r,re,af⟩=>by
  refine⟨P,α,env,S,r,re,?_⟩;have af':qG X P α ((fe env S).bind λd S1=>(fl env S1).bind λlo S2=>(fh env S2).bind λhi S3=>gSl d lo hi S3) (OkV X P α Q):=af;cases q:fe env S with
  |bad=>rw[q] at af';exact af'
  |ex c x S'=>rw[q] at af';exact af'
  |ok d S1 =>
   rw[q] at af';intro v H1 P1 α1 r1 e1 e2 rp;refine⟨P1,α1,env,S1,r1,re.mono e1 e2,?_⟩;have af2:qG X P1 α1 ((fl env S1).bind λlo S2=>(fh env S2).bind λhi S3=>gSl d lo hi S3) (OkV X P1 α1 Q):=qP.base e1 e2 af';cases q2:fl env S1 with
   |bad=>rw[q2] at af2;exact af2
   |ex c x S'=>rw[q2] at af2;exact af2
   |ok l S2 =>
    rw[q2] at af2;intro H2 P2 α2 r2 e3 e4;refine⟨P2,α2,env,S2,r2,(re.mono e1 e2).mono e3 e4,?_⟩;have af3:qG X P2 α2 ((fh env S2).bind λhi S3=>gSl d l hi S3) (OkV X P2 α2 Q):=qP.base e3 e4 af2;cases q3:fh env S2 with
    |bad=>rw[q3] at af3;exact af3
    |ex c x S'=>rw[q3] at af3;exact af3
    |ok u S3 =>
     rw[q3] at af3;intro H3 P3 α3 r3 e5 e6;exact⟨P3,α3,S3,d,r3,Rep.mono (e3.trans e5) (e4.trans e6) _ _ rp,qP.base e5 e6 af3⟩
def l3 (d:D)(S:Sto):Res D:=match d with
 |.int i=>if i.natAbs.log2<1920 then .ok (.str (toString i)) S else .bad
 |.str x=>if x.length<=lim then .ok (.str x) S else .bad
 |_=>.bad
set_option tactic.hygienic true in
theorem NJ (he:PE X e (tD X fe)):PE X (.FormattedValue e (-1) none pos) (tD X (d1 l3 fe)):=by
 intro pins s σ H Q I h;obtain⟨P,α,env,S,r,re,af⟩:=h;refine FormattedValue_plain (thn (zN he I r re af) λvv s1 ⟨v,H1,P1,α1,d,S1,G1,af1⟩=>?_);have p:=G1.rep;have rv:=G1.val;have af2:=qP.base G1.same G1.pre af1;cases d with
 |int i =>
  simp only[l3] at af2
  split at af2
  .rename_i hd
   simp only[Rep] at p;subst p;obtain⟨t,rfl⟩:=rv;exact formatField_int_small hd ⟨.str _,H1,G1.inv.tok _,⟨_,rfl⟩,xr af2 G1.rel (by simp only[Rep])⟩
  .exact Ao af2
 |str x =>
  simp only[l3] at af2
  split at af2
  .rename_i hd
   simp only[Rep] at p;subst p;obtain⟨t,rfl⟩:=rv;exact formatField_str (λt' tk=>⟨.str _,H1,G1.inv.tok _,⟨_,rfl⟩,xr af2 G1.rel (by simp only[Rep])⟩) (by rw[<- zV];exact hd)
  .exact Ao af2
 |_=>exact Ao af2
def sX (out:Aq):Aa DE->qB->Sto->Res D
 |[],_,S=>if out.length<=lim then .ok (.str out) S else .bad
 |p::ps,env,S=>(p env S).bind λd S1=>match d with
  |.str y=>if (out++y).length<=lim then sX (out++y) ps env S1 else .bad
  |_=>.bad
def PJ (X:Cx)(es:Aa Bw)(fs:Aa DE):Prop:=
 ∀ (out:Aq) (pins:Aa (Af × Cj)) (s:Ag) (σ : _L.St) (H P:Hp) (α : Aa Af) (env:qB) (S:Sto) (Q:VK),Inv X pins σ H s->Rel X.K H P α S->z9 X.K P α σ env->qP X P α (sX out fs env S) Q ->
  Ap (As X.prog X.w) X.A (joinParts out (evalEach es X.env)) (EP X pins σ Q) X.xe s
theorem RB:PJ X [] []:=by
 intro out pins s σ H P α env S Q I r re af;obtain⟨hl,af⟩:=xW (X:=X) af;exact joinParts_nil ⟨.str _,H,I.tok _,⟨_,rfl⟩,xr af r (by simp only[Rep])⟩ (by rw[<- zV];exact hl)
theorem FE {es:Aa Bw}{fs:Aa DE}(he:PE X e (tD X fe))(hr:PJ X es fs):PJ X (e::es) (fe::fs):=by
 intro out pins s σ H P α env S Q I r re af;have af:qG X P α ((fe env S).bind λd S1=>match d with|.str y=>if (out++y).length<=lim then sX (out++y) fs env S1 else .bad|_=>.bad) (OkV X P α Q):=af
 refine joinParts_cons (thn (zN he I r re af) λvv s1 ⟨v,H1,P1,α1,d,S1,G1,af1⟩=>?_);cases d with
 |str y =>
  have p:=G1.rep;simp only[Rep] at p;subst p;obtain⟨t,rfl⟩:=G1.val;obtain⟨hl,af1⟩:=xW (X:=X) af1;exact⟨by rw[<- zV];exact hl,hr (out++y) pins s1 σ H1 P1 α1 env S1 Q G1.inv G1.rel G1.env (qP.base G1.same G1.pre af1)⟩
 |_=>exact Ao af1
def Q6 (fs:Aa DE):DE:=λenv S=>sX Aa2 fs env S
theorem GV {v₁ v₂:Bw}{rest:Aa Bw}{fs:Aa DE}(h:PJ X (v₁::v₂::rest) fs):PE X (.JoinedStr (v₁::v₂::rest) pos) (tD X (Q6 fs)):=by
 intro pins s σ H Q I hq;obtain⟨P,α,env,S,r,re,af⟩:=hq;exact JoinedStr_many (h Aa2 pins s σ H P α env S Q I r re af)
end
end _D
namespace _D
open PySem PySem.Spec PyProof.Rows _L
variable {ns:Aa Ak}{N:Aa Aq}{its ds dsF:Aa D}{body:Aa Fq}{vs:Aa V}{Q:Ac->Ag->Prop}{Qa Qd:Ag->Prop}{m:Ai}{o':Al (Ai × MO)}{tp:Ar}{xs ys:Aw Ac}{h':Bs}{py:Ey}{R:It->Hp->Prop}{SF:Sto}{env envF:qB}
def zF (tp:Ar)(h:Bs)(it l:Af)(k:Ai):Prop:=if tp then h.IsTupleIter it l k else h.IsListIter it l k
def xN (tp:Ar)(h:Bs)(l:Af)(xs:Aw Ac):Prop:=if tp then h.IsTuple l xs else h.IsList l xs
theorem zF.keep {h:Bs}{it l:Af}{k:Ai}(x:zF tp h it l k)(q:∀ o,h.get? it=Ab o->h'.get? it=Ab o):zF tp h' it l k:=by
 cases tp <;> (obtain⟨o,e,r⟩:=x;exact⟨o,q o e,r⟩)
theorem xN.keep {h:Bs}{l:Af}(x:xN tp h l xs)(q:∀ o,h.get? l=Ab o->h'.get? l=Ab o):xN tp h' l xs:=by
 cases tp <;> (obtain⟨o,e,r⟩:=x;exact⟨o,q o e,r⟩)
theorem zF.there {h:Bs}{it l:Af}{k:Ai}(x:zF tp h it l k):∃ o,h.get? it=Ab o/\∀ v,o.data≠.cell v:=by
 cases tp <;> (obtain⟨o,e,_,d⟩:=x;exact⟨o,e,λv z=>by rw[d] at z;cases z⟩)
section
variable {prog:Bc}{w:Bx}{A:Bk}{E:Ac->Ag->Prop}{s:Ag}
theorem UG {it t:Af}{i:Ai}{items:Aw Ac}{x:Ac}(hit:s.heap.IsTupleIter it t i)(ht:s.heap.IsTuple t items)(hx:items[i]? = Ab x)
  (hQ:∀ h',h'.IsTupleIter it t (i+1)->Fc it s.heap h'->Q x { s with heap:=h' }) : Ap (As prog w) A (Dy (.ref it)) Q E s:=by
 obtain⟨o,e,c,d⟩:=id hit;obtain⟨u,eu,_,m,du⟩:=ht;unfold Dy;refine Ad (Ef (name:=Hy "__next__") hit.typeIs IN (Ea IN hit.typeIs Qi ?_ (Pw _)));show Ap _ _ (field (.ref it) 0 >>= _) _ _ s;refine Ad (Ej e d (x:=.ref t) rfl ?_);show Ap _ _ (if (Cw t == Cz)=true then _ else _) _ _ s;rw[Bb (show ¬ ((Cw t == Cz)=true) from Go)]
 show Ap _ _ (field (.ref it) 1 >>= _) _ _ s;refine Ad (Ej e d (x:=.int i 0) rfl ?_);show Ap _ _ (seqItems? (.ref t) >>= _) _ _ s;refine Ad (Gk eu du ?_);simp only[Hv,hx];refine Ad (Nj e d (by simp) (An ⟨x,rfl,An (hQ _ ⟨_,Fo _ e (Obj.isFreed_of_fields (Wu d _)),(Obj.cls_mapFields ..).trans c,?_⟩ (Jy ..))⟩))
 rw[Wu d];simp[Fz]
theorem eZ {it t:Af}{i:Ai}{items:Aw Ac}{Q:Ac->Ag->Prop}(hh:A.handled=none)(hit:s.heap.IsTupleIter it t i)(ht:s.heap.IsTuple t items)(hx:items[i]? = none)
  (hE:∀ h' e,Heap.ExtBut it s.heap h'->(∃ o,h'.get? e=Ab o/\o.cls=.type "StopIteration")->E (.ref e) { s with heap:=h' }) : Ap (As prog w) A (Dy (.ref it)) Q E s:=by
 obtain⟨o,e,c,d⟩:=id hit;obtain⟨u,eu,_,m,du⟩:=ht;unfold Dy;refine Ad (Ef (name:=Hy "__next__") hit.typeIs IN (Ea IN hit.typeIs Qi ?_ (Pw _)));show Ap _ _ (field (.ref it) 0 >>= _) _ _ s;refine Ad (Ej e d (x:=.ref t) rfl ?_);show Ap _ _ (if (Cw t == Cz)=true then _ else _) _ _ s;rw[Bb (show ¬ ((Cw t == Cz)=true) from Go)]
 show Ap _ _ (field (.ref it) 1 >>= _) _ _ s;refine Ad (Ej e d (x:=.int i 0) rfl ?_);show Ap _ _ (seqItems? (.ref t) >>= _) _ _ s;refine Ad (Gk eu du ?_);simp only[Hv,hx];refine Ad (Gs (Ad (Nj e d (by simp) ?_)))
 show Ap _ _ (newExc (.type "StopIteration") [] >>= _) _ _ _;refine Ad ?_;simp only[newExc,newTuple];refine Ad (Ek ?_ (by size_fits))
 refine Ad (m:=Qj _ _) (Yx (a:=Cz) (by first|rfl|(simp only[Qj];rfl)) (Ek ?_ (by size_fits)))
 simp only[raiseNew];refine Ad (wpAny_handled ?_)
 first|rw[show A.in1.handled=none from hh]|rw[hh]
 exact Ad (An (wpAny_throw (hE _ _ (((Jy ..).extBut.push _).push _) ⟨_,AT _ rfl,rfl⟩)))
theorem gM {it l:Af}{k:Ai}{x:Ac}(hit:zF tp s.heap it l k)(hl:xN tp s.heap l xs)(hx:xs[k]? = Ab x)
  (hQ:∀ h',zF tp h' it l (k+1)->Fc it s.heap h'->Q x { s with heap:=h' }) : Ap (As prog w) A (Dy (.ref it)) Q E s:=by
 cases tp with
 |false=>exact wpAny_nextOf_list_item hit hl hx hQ
 |true=>exact UG hit hl hx hQ
theorem uS {it l:Af}{k:Ai}{Q:Ac->Ag->Prop}(hh:A.handled=none)(hit:zF tp s.heap it l k)(hl:xN tp s.heap l xs)(hx:xs[k]? = none)
  (hE:∀ h' e,Heap.ExtBut it s.heap h'->(∃ o,h'.get? e=Ab o/\o.cls=.type "StopIteration")->E (.ref e) { s with heap:=h' }) : Ap (As prog w) A (Dy (.ref it)) Q E s:=by
 cases tp with
 |false=>exact wpAny_nextOf_list_end hh hit hl hx hE
 |true=>exact eZ hh hit hl hx hE
structure ZA (z I O i j:Af):Prop where
 Iz:I≠z
 Oz:O≠z
 iz:i≠z
 jz:j≠z
 IO:I≠O
 Ii:I≠i
 Ij:I≠j
 Oi:O≠i
 Oj:O≠j
 ij:i≠j
structure Off (z O i j a:Af):Prop where
 z:a≠z
 O:a≠O
 i:a≠i
 j:a≠j
abbrev YJ (z O i j:Af)(h h':Bs):Prop:=∀ c o,c≠z->c≠O->c≠i->c≠j->h.get? c=Ab o->h'.get? c=Ab o
theorem JY {tq:Ar}{z I O i j a b:Af}{k:Ai}{x y p q:Ac}(D:ZA z I O i j)(Da:Off z O i j a)(Db:Off z O i j b)
  (hz:Qk s.heap z I O .none) (hI:Ja s.heap I (.ref i) (.ref j)) (hO:Ja s.heap O p q) (h1:zF tp s.heap i a k) (h2:zF tq s.heap j b k) (ha:xN tp s.heap a xs) (hb:xN tq s.heap b ys) (hx:xs[k]? = Ab x) (hy:ys[k]? = Ab y)
  (hQ:∀ h',Qk h' z I O (Fz s.heap.objs.size)->Ja h' O x y->zF tp h' i a (k+1)->zF tq h' j b (k+1)->Ja h' s.heap.objs.size x y->h'.objs.size=s.heap.objs.size+1->YJ z O i j s.heap h'->Q (.ref s.heap.objs.size) { s with heap:=h' }) :
  Ap (As prog w) A (Ik.«zip.__next__» ⟨[.ref z],[]⟩) (λfin s'=>∃ v,fin=.done (.ret v)/\Q v s') E s:=by
 show Ap _ _ (field (.ref z) 2 >>= _) _ _ _;refine Ad (Ej hz rfl (x:=.bool false) rfl ?_);show Ap _ _ (field (.ref z) 3 >>= _) _ _ _;refine Ad (Ej hz rfl (x:=.ref I) rfl (Ad (Gk hI rfl ?_)));show Ap _ _ (Eo (.ref z) >>= _) _ _ _;refine Ad ?_;unfold Eo;refine Ad (Ej hz rfl (x:=.none) rfl (An ?_));simp only[Dp];refine Ad (Gs (Ad (Ej hz rfl (x:=.ref O) rfl (Ad (Eu hz (by simp) λg1 z1 s1=>?_)))))
 replace z1:Qk g1 z I O .ellipsis:=z1
 refine Ad ?_;simp only[Sr,Zm,Mc,Ni];refine Ad (Ad (Rq ?_));show Ap _ _ (Dy (.ref i) >>= _) _ _ _;refine Ad (gM (h1.keep λo e=>s1.extBut _ _ D.iz e) (ha.keep λo e=>s1.extBut _ _ Da.z e) hx λg2 i2 s2=>An ?_);have O2:Ja g2 O p q:=s2.extBut _ _ D.Oi (s1.extBut _ _ D.Oz hO);refine Ad (Gk O2 rfl (Ad (Pc O2 λg3 O3 s3=>Ad (Uf (An ?_)))))
 replace O3:Ja g3 O x q:=O3
 refine Ad (Ad (Rq ?_));show Ap _ _ (Dy (.ref j) >>= _) _ _ _;refine Ad (gM (h2.keep λo e=>s3.extBut _ _ D.Oj.symm (s2.extBut _ _ D.ij.symm (s1.extBut _ _ D.jz e))) (hb.keep λo e=>s3.extBut _ _ Db.O (s2.extBut _ _ Db.i (s1.extBut _ _ Db.z e))) hy λg4 j4 s4=>An ?_);have O4:Ja g4 O x q:=s4.extBut _ _ D.Oj O3;refine Ad (Gk O4 rfl (Ad (Pc O4 λg5 O5 s5=>Ad (Uf (An (An ?_))))))
 replace O5:Ja g5 O x y:=O5
 refine Ad (Gk O5 rfl (Ad (Ux ?_)));have sz:g5.objs.size=s.heap.objs.size:=by rw[s5.1,s4.1,s3.1,s2.1,s1.1]
 have z5:Qk g5 z I O .ellipsis:=s5.extBut _ _ D.Oz.symm (s4.extBut _ _ D.jz.symm (s3.extBut _ _ D.Oz.symm (s2.extBut _ _ D.iz.symm z1)));have k5:YJ z O i j s.heap g5:=λc o c1 c2 c3 c4 e=>s5.extBut _ _ c2 (s4.extBut _ _ c4 (s3.extBut _ _ c2 (s2.extBut _ _ c3 (s1.extBut _ _ c1 e))));have i5:zF tp g5 i a (k+1):=i2.keep λo e=>s5.extBut _ _ D.Oi.symm (s4.extBut _ _ D.ij (s3.extBut _ _ D.Oi.symm e));have j5:zF tq g5 j b (k+1):=j4.keep λo e=>s5.extBut _ _ D.Oj.symm e;have zl:z<g5.objs.size:=Ay z5;show Ap _ _ (Gm (.ref z) (.ref g5.objs.size) >>= _) _ _ _;refine Ad ?_;unfold Gm;have z6:Qk (g5.push { cls:=.type "tuple",data:=.seq #[x,y] }) z I O .ellipsis:=Ah _ z5;refine Ad (Eu z6 (by simp) λg7 z7 s7=>?_)
 replace z7:Qk g7 z I O (Fz g5.objs.size):=z7
 refine Eu z7 (by simp) λg8 z8 s8=>?_
 replace z8:Qk g8 z I O (Fz g5.objs.size):=z8
 have up:∀ c o,c≠z->g5.get? c=Ab o->g8.get? c=Ab o:=λc o c1 e=>s8.extBut _ _ c1 (s7.extBut _ _ c1 (Ah _ e));have T8:Ja g8 g5.objs.size x y:=s8.extBut _ _ (Fv zl) (s7.extBut _ _ (Fv zl) (AT _ rfl));have sz8:g8.objs.size=g5.objs.size+1:=by rw[s8.1,s7.1,Dj]
 rw[sz] at z8 T8 sz8;refine An ⟨_,rfl,?_⟩;show Q (.ref g5.objs.size) _;rw[sz];exact hQ g8 z8 (up _ _ D.Oz O5) (i5.keep λo e=>up _ o D.iz e) (j5.keep λo e=>up _ o D.jz e) T8 sz8 λc o c1 c2 c3 c4 e=>up c o c1 (k5 c o c1 c2 c3 c4 e)
end
section
variable {prog:Bc}{w:Bx}{A:Bk}{E:Ac->Ag->Prop}{s:Ag}
theorem JZ {tq:Ar}{z I O i j a b:Af}{k:Ai}{p q:Ac}{Q:Fin->Ag->Prop}(hh:A.handled=none)(D:ZA z I O i j)(Da:Off z O i j a)(Db:Off z O i j b)
  (hz:Qk s.heap z I O .none) (hI:Ja s.heap I (.ref i) (.ref j)) (hO:Ja s.heap O p q) (h1:zF tp s.heap i a k) (h2:zF tq s.heap j b k) (ha:xN tp s.heap a xs) (hb:xN tq s.heap b ys) (hend:xs[k]? = none\/ys[k]? = none)
  (hE:∀ h' e,YJ z O i j s.heap h'->(∃ o,h'.get? e=Ab o/\o.cls=.type "StopIteration")->E (.ref e) { s with heap:=h' }) : Ap (As prog w) A (Ik.«zip.__next__» ⟨[.ref z],[]⟩) Q E s:=by
 show Ap _ _ (field (.ref z) 2 >>= _) _ _ _;refine Ad (Ej hz rfl (x:=.bool false) rfl ?_);show Ap _ _ (field (.ref z) 3 >>= _) _ _ _;refine Ad (Ej hz rfl (x:=.ref I) rfl (Ad (Gk hI rfl ?_)));show Ap _ _ (Eo (.ref z) >>= _) _ _ _;refine Ad ?_;unfold Eo;refine Ad (Ej hz rfl (x:=.none) rfl (An ?_));simp only[Dp];refine Ad (Gs (Ad (Ej hz rfl (x:=.ref O) rfl (Ad (Eu hz (by simp) λg1 z1 s1=>?_)))))
 replace z1:Qk g1 z I O .ellipsis:=z1
 refine Ad ?_;simp only[Sr,Zm,Mc,Ni];refine Ad (Ad (Rq ?_));show Ap _ _ (Dy (.ref i) >>= _) _ _ _;have it1:zF tp g1 i a k:=h1.keep λo e=>s1.extBut _ _ D.iz e;have sq1:xN tp g1 a xs:=ha.keep λo e=>s1.extBut _ _ Da.z e;cases hx:xs[k]? with
 |none =>
  refine Ad (uS hh it1 sq1 hx λg2 e x2 he=>?_);obtain⟨oe,h3,h4⟩:=he;have z2:Qk g2 z I O .ellipsis:=x2 _ _ D.iz.symm z1;have ne:e≠z:=λy=>by subst y;rw[z2] at h3;cases h3;simp at h4
  exact Eu z2 (by simp) λg3 _ s3=>hE g3 e (λc o c1 _ c3 _ y=>s3.extBut _ _ c1 (x2 _ _ c3 (s1.extBut _ _ c1 y))) ⟨oe,s3.extBut _ _ ne h3,h4⟩
 |some x =>
  have hy:ys[k]? = none:=by
   rcases hend with y|y
   .rw[hx] at y;cases y
   .exact y
  refine Ad (gM it1 sq1 hx λg2 i2 s2=>An ?_);have O2:Ja g2 O p q:=s2.extBut _ _ D.Oi (s1.extBut _ _ D.Oz hO);refine Ad (Gk O2 rfl (Ad (Pc O2 λg3 O3 s3=>Ad (Uf (An ?_)))));refine Ad (Ad (Rq ?_));show Ap _ _ (Dy (.ref j) >>= _) _ _ _;refine Ad (uS hh (h2.keep λo e=>s3.extBut _ _ D.Oj.symm (s2.extBut _ _ D.ij.symm (s1.extBut _ _ D.jz e))) (hb.keep λo e=>s3.extBut _ _ Db.O (s2.extBut _ _ Db.i (s1.extBut _ _ Db.z e))) hy λg4 e x4 he=>?_);obtain⟨oe,h3,h4⟩:=he;have z4:Qk g4 z I O .ellipsis:=x4 _ _ D.jz.symm (s3.extBut _ _ D.Oz.symm (s2.extBut _ _ D.iz.symm z1));have ne:e≠z:=λy=>by subst y;rw[z4] at h3;cases h3;simp at h4
  exact Eu z4 (by simp) λg5 _ s5=>hE g5 e (λc o c1 c2 c3 c4 y=>s5.extBut _ _ c1 (x4 _ _ c4 (s3.extBut _ _ c2 (s2.extBut _ _ c3 (s1.extBut _ _ c1 y))))) ⟨oe,s5.extBut _ _ ne h3,h4⟩
abbrev vK (tp:Ar)(l:Af):Cj:={ cls:=.type (if tp then "tuple_iterator" else "list_iterator"),data:=.fields #[.ref l,.int 0 0] }
abbrev zh1 (tp:Ar)(h:Bs)(a:Af):Bs:=h.push (vK tp a)
abbrev zh2 (tp tq:Ar)(h:Bs)(a b:Af):Bs:=(zh1 tp h a).push (vK tq b)
abbrev zh3 (tp tq:Ar)(h:Bs)(a b:Af):Bs:=(zh2 tp tq h a b).push { cls:=.type "tuple",data:=.seq #[.ref h.objs.size,.ref (zh1 tp h a).objs.size] }
abbrev zh4 (tp tq:Ar)(h:Bs)(a b:Af):Bs:=(zh3 tp tq h a b).push { cls:=.type "tuple",data:=.seq #[.none,.none] }
abbrev zh5 (tp tq:Ar)(h:Bs)(a b:Af):Bs:=(zh4 tp tq h a b).push { cls:=.type "zip",data:=.fields #[.none,.bool false,.bool false,.ref (zh2 tp tq h a b).objs.size,.ref (zh3 tp tq h a b).objs.size] }
set_option maxHeartbeats 4000000 in
theorem T9 (tp:Ar)(a b:Af)(xs ys:Aw Ac) :
  Meets (Ik.«zip.__new__» ⟨[.type "zip",.ref a,.ref b],[]⟩) (λ_ R s=>xN tp s.heap a xs/\xN tp s.heap b ys/\R (.ok (.ret (.ref (zh4 tp tp s.heap a b).objs.size))) { s with heap:=zh5 tp tp s.heap a b }):=
 .of_wp λprog w A R s h=>by
  obtain⟨hp,g,d,tk,os⟩:=s;obtain⟨q1,q2,h⟩:=h;have hsub:=sub_zip;have e2:∀ ob:Cj,xN tp (hp.push ob) b ys:=λob=>q2.keep λo e=>Ah _ e;cases tp
  .have l1:Yy (Op ⟨hp,g,d,tk,os⟩) a xs:=q1
   have l2:Yy (Op ⟨hp.push { cls:=.type "list_iterator",data:=.fields #[.ref a,.int 0 0] },g,d,tk,os⟩) b ys:=e2 _
   wp_walk using Gc l1,Gc l2
   exact⟨_,rfl,h⟩
  .have l1:Xe (Op ⟨hp,g,d,tk,os⟩) a xs:=q1
   have l2:Xe (Op ⟨hp.push { cls:=.type "tuple_iterator",data:=.fields #[.ref a,.int 0 0] },g,d,tk,os⟩) b ys:=e2 _
   wp_walk using Fx l1,Fx l2
   exact⟨_,rfl,h⟩
theorem gF {h:Bs}{it l:Af}(e:h.get? it=Ab (vK tp l)):zF tp h it l 0:=by
 cases tp
 .exact⟨_,e,rfl,rfl⟩
 .exact⟨_,e,rfl,rfl⟩
theorem YR {a b:Af}(ha:xN tp s.heap a xs)(hb:xN tp s.heap b ys)
  (h:∀ h',Qk h' (s.heap.objs.size+4) (s.heap.objs.size+2) (s.heap.objs.size+3) .none->Ja h' (s.heap.objs.size+2) (.ref s.heap.objs.size) (.ref (s.heap.objs.size+1)) ->
   Ja h' (s.heap.objs.size+3) .none .none->zF tp h' s.heap.objs.size a 0->zF tp h' (s.heap.objs.size+1) b 0->h'.objs.size=s.heap.objs.size+5->(∀ c o,s.heap.get? c=Ab o->h'.get? c=Ab o)->Q (.ref (s.heap.objs.size+4)) { s with heap:=h' }) :
  Ap (As prog w) A (call (.type "zip") [.ref a,.ref b]) Q E s:=by
 refine callType_new F.called_zip (by decide) (F.typeCall_zip_2 _ _) (F.newCall_zip_2 _ _) (λobj=>F.args_object_init_3 obj _ _) F.entry_zip_new (T9 tp a b xs ys) ⟨ha,hb,?_⟩
 have y1:(zh1 tp s.heap a).objs.size=s.heap.objs.size+1:=Dj ..;have y2:(zh2 tp tp s.heap a b).objs.size=s.heap.objs.size+2:=by rw[Dj,y1]
 have y3:(zh3 tp tp s.heap a b).objs.size=s.heap.objs.size+3:=by rw[Dj,y2]
 have y4:(zh4 tp tp s.heap a b).objs.size=s.heap.objs.size+4:=by rw[Dj,y3]
 have y5:(zh5 tp tp s.heap a b).objs.size=s.heap.objs.size+5:=by rw[Dj,y4]
 have g5:(zh5 tp tp s.heap a b).get? (zh4 tp tp s.heap a b).objs.size=Ab _:=AT _ rfl;have g4:(zh5 tp tp s.heap a b).get? (zh3 tp tp s.heap a b).objs.size=Ab _:=Ah _ (AT _ rfl);have g3:(zh5 tp tp s.heap a b).get? (zh2 tp tp s.heap a b).objs.size=Ab _:=Ah _ (Ah _ (AT _ rfl));have g2:(zh5 tp tp s.heap a b).get? (zh1 tp s.heap a).objs.size=Ab (vK tp b):=Ah _ (Ah _ (Ah _ (AT _ rfl)));have g1:(zh5 tp tp s.heap a b).get? s.heap.objs.size=Ab (vK tp a):=Ah _ (Ah _ (Ah _ (Ah _ (AT _ rfl))));have kp:∀ c o,s.heap.get? c=Ab o->(zh5 tp tp s.heap a b).get? c=Ab o:=λc o e=>Ah _ (Ah _ (Ah _ (Ah _ (Ah _ e))));show _/\_;rw[y2,y3,y4] at g5;rw[y1,y2] at g3;rw[y3] at g4;rw[y1] at g2;rw[y4];exact⟨⟨_,g5,rfl⟩,h _ g5 g3 g4 (gF g1) (gF g2) y5 kp⟩
end
def Sq (tp:Ar)(K:Aj)(H:Hp)(a:Af)(xs:Aa V):Prop:=if tp then SqT K H a xs else SqL K H a xs
section
variable {X:Cx}{pins:Aa (Af × Cj)}{σ : _L.St}{H:Hp}{s:Ag}
theorem Sq.at {a:Af}{xs:Aa V}(I:Inv X pins σ H s)(q:Sq tp X.K H a xs):∃ its,qL xs its/\xN tp s.heap a its.toArray:=by
 cases tp with
 |true =>
  obtain⟨its,rv,p,_⟩:=I.tuple q;exact⟨its,rv,p⟩
 |false =>
  obtain⟨its,rv,p,_⟩:=I.list q;exact⟨its,rv,p.isList⟩
theorem Sq.inj {a:Af}{xs ys:Aa V}(I:Inv X pins σ H s)(q:Sq tp X.K H a xs)(q':Sq tp X.K H a ys):xs=ys:=by
 cases tp with
 |true=>exact I.tuple_inj q q'
 |false=>exact I.list_inj q q'
theorem Sq.off {a b:Af}{xs:Aa V}(I:Inv X pins σ H s)(q:Sq tp X.K H a xs)(f:zZ X pins H b):a≠b:=by
 have key:H a≠none\/∃ o,X.K.lookup a=Ab o:=by
  cases tp with
  |true =>
   rcases q with (q|⟨o,q⟩)|⟨o,_,_,q,_⟩
   .exact .inl (by rw[q];intro z;cases z)
   .exact .inl (by rw[q];intro z;cases z)
   .exact .inr ⟨_,q⟩
  |false =>
   rcases q with (q|⟨o,q⟩)|⟨o,_,_,q,_⟩
   .exact .inl (by rw[q];intro z;cases z)
   .exact .inl (by rw[q];intro z;cases z)
   .exact .inr ⟨_,q⟩
 rintro rfl;rcases key with k|⟨o,k⟩
 .exact k f.1
 .have e:=I.mod.kin a o k
  rcases f.2.2.2.1 with z|z
  .exact I.ok.noex a o e z
  .exact absurd (Ay (I.ok.bs a o e).1) (Nw.mpr z)
theorem Inv.turnLay {fp:Aa Af}{T:Af}{xs:Aa V}{its:Aa Ac}(I:Inv X pins σ H s)(hf:∀ b∈fp,zZ X pins H b)(k:∀ b o,b ∉ fp->s.heap.get? b=Ab o->h'.get? b=Ab o)(th:∀ b∈fp,∃ o,h'.get? b=Ab o)
  (hT:s.heap.objs.size<=T) (rv:qL xs its) (hx:Qg h' T its.toArray) (hz:xs.length<=sizeLine):Inv X pins σ (upd H T (.tup xs)) { s with heap:=h' }:=by
 have hn:H T=none:=I.hok.fresh hT;have ne:∀ b o,s.heap.get? b=Ab o->b≠T:=λb o e=>Ci (Bh (Ay e) hT);refine I.step (g':=s.gens) (d':=s.drawn) (t':=s.toks) (ch:=fp) (λb hb=>⟨(hf b hb).2.2.2.1,(hf b hb).2.1,(hf b hb).2.2.2.2.1,(hf b hb).2.2.2.2.2⟩) (λb o _ _ hc e _=>k b o hc e) (λb o _ _ hc e _=>⟨o.slots,k b o hc e⟩)
  (λb o _ e n=>by rw[qH (ne b o e)];exact n) (λb o hc e=>⟨o,k b o hc e⟩) (λb ys e=>by rw[qH (qU e hn)];exact e) (λb o u e=>by rw[qH (qU e hn)];exact e)
  (λb ps e=>⟨#[],by rw[qH (qU e hn),e];simp⟩) (λm hm=>?_) (λb u e=>?_) I.bare
 .obtain⟨o,es,ep,ho,r⟩:=hm
  exact⟨o,es,ep,k _ o (λz=>(hf _ z).2.1 rfl) ho,r⟩
 .by_cases hb:b=T
  .subst hb
   rw[qR] at e;cases e;exact⟨hz,its,rv,hx⟩
  .rw[qH hb] at e
   refine(I.hok b u e).stay (λc v hc q=>k c v (λz=>?_) q) (λc q=>by rw[qH (qU q hn)];exact q) λc ys q=>by rw[qH (qU q hn)];exact q
   have hcn:=(hf c z).1;rcases hc with rfl|hc
   .rw[hcn] at e;cases e
   .rw[hcn] at hc;cases hc
theorem Inv.turnL {fp:Aa Af}(I:Inv X pins σ H s)(hf:∀ b∈fp,zZ X pins H b)(k:∀ b o,b ∉ fp->s.heap.get? b=Ab o->h'.get? b=Ab o):Inv X pins σ H { s with heap:=h' }:=by
 refine I.step (g':=s.gens) (d':=s.drawn) (t':=s.toks) (ch:=fp) (λb hb=>⟨(hf b hb).2.2.2.1,(hf b hb).2.1,(hf b hb).2.2.2.2.1,(hf b hb).2.2.2.2.2⟩) (λb o _ _ hc e _=>k b o hc e) (λb o _ _ hc e _=>⟨o.slots,k b o hc e⟩)
  (λb o _ e n=>n) (λb o hc e=>⟨o,k b o hc e⟩) (λb ys e=>e) (λb o u e=>e) (λb ps e=>⟨#[],by rw[e];simp⟩) (λm hm=>?_) (λb u e=>?_) I.bare
 .obtain⟨o,es,ep,ho,r⟩:=hm
  exact⟨o,es,ep,k _ o (λz=>(hf _ z).2.1 rfl) ho,r⟩
 .refine(I.hok b u e).stay (λc v hc q=>k c v (λz=>?_) q) (λc q=>q) λc ys q=>q
  have hcn:=(hf c z).1;rcases hc with rfl|hc
  .rw[hcn] at e;cases e
  .rw[hcn] at hc;cases hc
end
def Itz (tp:Ar)(K:Aj)(a b:Af):It:=
  ⟨λi H=>∃ xs ys x y,Sq tp K H a xs/\Sq tp K H b ys/\xs[i]? = Ab x/\ys[i]? = Ab y,
   λi H v H'=>∃ T x y,v=.ref T/\H T=none/\H'=upd H T (.tup [x,y])/\(∀ xs,Sq tp K H a xs->xs[i]? = Ab x)/\∀ ys,Sq tp K H b ys->ys[i]? = Ab y,
   λi H=>∃ xs ys,Sq tp K H a xs/\Sq tp K H b ys/\(xs.length<=i\/ys.length<=i)⟩
def oW (tp:Ar)(z I O i j a b:Af)(k:Ai)(h:Bs):Prop:=∃ p q,Qk h z I O .none/\Ja h I (.ref i) (.ref j)/\Ja h O p q/\zF tp h i a k/\zF tp h j b k
theorem bN {z I O i j a b:Af}{k:Ai}{h:Bs}(st:oW tp z I O i j a b k h):∀ c∈[z,I,O,i,j],∃ o,h.get? c=Ab o/\∀ v,o.data≠.cell v:=λc hc=>by
 obtain⟨p,q,s1,s2,s3,s4,s5⟩:=st;simp only[Az,Dq,Hc] at hc;rcases hc with rfl|rfl|rfl|rfl|rfl
 .exact⟨_,s1,λv y=>by cases y⟩
 .exact⟨_,s2,λv y=>by cases y⟩
 .exact⟨_,s3,λv y=>by cases y⟩
 .exact s4.there
 .exact s5.there
theorem KJ {c z I O i j:Af}(h:c ∉ [z,I,O,i,j]):c≠z/\c≠O/\c≠i/\c≠j:=by
 simp only[Az,Dq,Hc,Wh] at h;exact⟨h.1,h.2.2.1,h.2.2.2.1,h.2.2.2.2⟩
theorem JQ {P:Bc}{w:Bx}{K:Aj}{elts:Aa Bw}{x1:Ai}{tpos:Ey}{z I O i j a b:Af}(D:ZA z I O i j):Turn P w K (.Tuple elts x1 tpos) (Itz tp K a b) [z,I,O,i,j] z (oW tp z I O i j a b) where
 mem:=.head _
 obj:=λk h st=>bN st
 keep:=λk h h' st kp=>by
  obtain⟨p,q,s1,s2,s3,s4,s5⟩:=st;exact⟨p,q,kp z (.head _) _ s1,kp I (.tail _ (.head _)) _ s2,kp O (.tail _ (.tail _ (.head _))) _ s3,s4.keep λo e=>kp i (.tail _ (.tail _ (.tail _ (.head _)))) o e,s5.keep λo e=>kp j (.tail _ (.tail _ (.tail _ (.tail _ (.head _))))) o e⟩
 item:=by
  intro X hP hw hK hc k pins s σ H E Iv hf st hg;subst hP hw hK;obtain⟨p,q,s1,s2,s3,s4,s5⟩:=st;obtain⟨xs,ys,x,y,qa,qb,hx,hy⟩:=hg;obtain⟨ia,ra,ha⟩:=qa.at Iv;obtain⟨ib,rb,hb⟩:=qb.at Iv;obtain⟨u,hu,ru⟩:=ra.get hx;obtain⟨u',hu',ru'⟩:=rb.get hy;have off:∀ {c:Af} {zs:Aa V},Sq tp X.K H c zs->Off z O i j c:=λ{c zs} qc=>⟨qc.off Iv (hf z (.head _)),qc.off Iv (hf O (.tail _ (.tail _ (.head _)))),qc.off Iv (hf i (.tail _ (.tail _ (.tail _ (.head _))))),qc.off Iv (hf j (.tail _ (.tail _ (.tail _ (.tail _ (.head _))))))⟩;have hT:s.TypeIs (.ref z) "zip":=⟨_,s1,rfl⟩;unfold Ng;refine Ad (Kn (Ef (name:=Hy "__next__") hT Pl (Ea Pl hT Yz
   (JY D (off qa) (off qb) s1 s2 s3 s4 s5 ha hb (by simpa using hu) (by simpa using hu') λh' a1 a2 a3 a4 a5 a6 a7=>An ?_) (Xy _))))
  refine⟨_,rfl,wpAny_letOwnedTupleGo_zip (s:={ s with heap:=h' }) a1 λh2 b1 b2=>?_⟩
  have up:∀ c o,c≠z->h'.get? c=Ab o->h2.get? c=Ab o:=λc o n e=>(b2.2 c n).trans e;have zl:z<s.heap.objs.size:=Ay s1;have T2:Ja h2 s.heap.objs.size u u':=up _ _ (Fv zl) a5;have st2:oW tp z I O i j a b (k+1) h2:=⟨u,u',b1,up _ _ D.Iz (a7 I _ D.Iz D.IO D.Ii D.Ij s2),up _ _ D.Oz a2,a3.keep λo e=>up _ o D.iz e,a4.keep λo e=>up _ o D.jz e⟩;refine⟨.ref s.heap.objs.size,upd H s.heap.objs.size (.tup [x,y]),?_,rfl,⟨_,x,y,rfl,Iv.hok.fresh (Ax _),rfl,λzs qz=>by rw[qz.inj Iv qa];exact hx,λzs qz=>by rw[qz.inj Iv qb];exact hy⟩,st2,λc hc=>?_⟩
  .show _L.Inv X pins σ (upd H s.heap.objs.size (.tup [x,y])) { s with heap:=h2 }
   refine Inv.turnLay (fp:=[z,I,O,i,j]) (its:=[u,u']) Iv hf (λc o hc e=>?_) (λc hc=>?_) (Ax _) (.cons ru (.cons ru' .nil)) ⟨_,T2,rfl,_,rfl⟩ (by show 2<=sizeLine;decide)
   .have hc:=KJ hc
    exact up c o hc.1 (a7 c o hc.1 hc.2.1 hc.2.2.1 hc.2.2.2 e)
   .obtain⟨o,e,_⟩:=bN st2 c hc
    exact⟨o,e⟩
  .have hn:=(hf c hc).1
   rw[qH ?_]
   .exact hn
   .rintro rfl
    obtain⟨o,e,_⟩:=bN ⟨p,q,s1,s2,s3,s4,s5⟩ _ hc;exact absurd (Ay e) (Du _)
 done:=by
  intro X hP hw hK hc k pins s σ H E Iv hf st hg;subst hP hw hK;obtain⟨p,q,s1,s2,s3,s4,s5⟩:=st;obtain⟨xs,ys,qa,qb,hend⟩:=hg;obtain⟨ia,ra,ha⟩:=qa.at Iv;obtain⟨ib,rb,hb⟩:=qb.at Iv;have off:∀ {c:Af} {zs:Aa V},Sq tp X.K H c zs->Off z O i j c:=λ{c zs} qc=>⟨qc.off Iv (hf z (.head _)),qc.off Iv (hf O (.tail _ (.tail _ (.head _)))),qc.off Iv (hf i (.tail _ (.tail _ (.tail _ (.head _))))),qc.off Iv (hf j (.tail _ (.tail _ (.tail _ (.tail _ (.head _))))))⟩;have hT:s.TypeIs (.ref z) "zip":=⟨_,s1,rfl⟩;have l1:=ra.length;have l2:=rb.length;unfold Ng;refine Ad (Kn (Ef (name:=Hy "__next__") hT Pl (Ea Pl hT Yz
   (JZ (Iv.ok.hd hc) D (off qa) (off qb) s1 s2 s3 s4 s5 ha hb ?_ λh' e kp he=>?_) (Xy _))))
  .rcases hend with y|y
   .exact .inl (by simp;lia)
   .exact .inr (by simp;lia)
  .obtain⟨o,ho,hcl⟩:=he
   refine Ad (Ln (T:="StopIteration") (b:=true) ⟨o,ho,hcl⟩ Uy (An ⟨rfl,Inv.turnL (fp:=[z,I,O,i,j]) Iv hf λc o hc e=>?_⟩));have hc:=KJ hc;exact kp c o hc.1 hc.2.1 hc.2.2.1 hc.2.2.2 e
 self:=λ_ _ _ _ _ st h=>by
  obtain⟨p,q,s1,_⟩:=st;exact Za s1 h
def vG (xs ys:Aa D):Aa D:=List.zipWith (λx y=>D.tup [x,y]) xs ys
def HG (ds:Aa D):Al (Aa D):=match ds with
 |[.tup xs,.tup ys]=>Ab (vG xs ys)
 |[.lst xs,.lst ys]=>Ab (vG xs ys)
 |_=>none
def Q7 (f:DA):DI:=λenv S=>(f env S).bind λds S1=>yG (HG ds) S1
theorem JX {xs ys:Aa D}{i:Ai}:(vG xs ys)[i]? = match xs[i]?,ys[i]? with|some x,Ab y=>Ab (D.tup [x,y])|_,_=>none:=by
 unfold vG;rw[List.getElem?_zipWith];cases xs[i]? <;> cases ys[i]? <;> rfl
theorem mX (xs ys:Aa D):(vG xs ys).length=min xs.length ys.length:=by simp[vG]
section
variable {K:Aj}
theorem Sq.mono {P P':Hp}(e:qD P P'){a:Af}{xs:Aa V}(q:Sq tp K P a xs):Sq tp K P' a xs:=by
 cases tp with
 |true=>exact wQ e q
 |false=>exact e.seq q
theorem BB {P:Hp}{α:Aa Af}{a b:Af}{xs ys:Aa D}{ws:Aa V}(qa:Sq tp K P a vs)(qb:Sq tp K P b ws)(ta:qC K P α xs vs)(tb:qC K P α ys ws):ItD K (Itz tp K a b) P α (vG xs ys) where
 go:=λi H P1 α1 S hi r e _=>by
  rw[mX] at hi;have h1:i<vs.length:=by rw[<- ta.length];lia
  have h2:i<ws.length:=by rw[<- tb.length];lia
  exact⟨vs,ws,vs[i],ws[i],qa.mono (e.trans r.sub),qb.mono (e.trans r.sub),by simp,by simp⟩
 yld:=λi H x H' P1 α1 S hi r e e2 y=>by
  obtain⟨T,u,w,rfl,hT,rfl,hu,hw⟩:=y;rw[mX] at hi;have h1:i<xs.length:=by lia
  have h2:i<ys.length:=by lia
  obtain⟨v1,z1,p1⟩:=ta.get (Am h1);obtain⟨v2,z2,p2⟩:=tb.get (Am h2);have eu:=hu vs (qa.mono (e.trans r.sub));have ew:=hw ws (qb.mono (e.trans r.sub));rw[z1] at eu;cases eu;rw[z2] at ew;cases ew;obtain⟨r1,s1⟩:=r.pure (o:=.tup [u,w]) hT;refine⟨_,.tup [xs[i],ys[i]],?_,r1,s1,?_⟩
  .rw[JX,Am h1,Am h2]
  .exact fE (.of qR) (.cons (Rep.mono (e.trans s1) e2 _ _ p1) (.cons (Rep.mono (e.trans s1) e2 _ _ p2) .nil))
 stop:=λi H P1 α1 S hi r e _=>by
  rw[mX] at hi;have l1:=ta.length;have l2:=tb.length;exact⟨vs,ws,qa.mono (e.trans r.sub),qb.mono (e.trans r.sub),by lia⟩
end
section
variable {X:Cx}{e1 e2:Bw}{elts:Aa Bw}{x1:Ai}{tpos:Ey}{f:DA}{p pos:Ey}
theorem YG {pins:Aa (Af × Cj)}{σ:_L.St}{H P:Hp}{α:Aa Af}{S:Sto}{s:Ag}{a b:Af}{xs ys:Aa D}{ws:Aa V}(I:Inv X pins σ H s)(r:Rel X.K H P α S)(qa:Sq tp X.K P a vs)(qb:Sq tp X.K P b ws)(ta:qC X.K P α xs vs)(tb:qC X.K P α ys ws)
  (q:OkI X P α R (vG xs ys) S):Ap (As X.prog X.w) X.A (call (.type "zip") [.ref a,.ref b]) (λv s1=>Ap (As X.prog X.w) X.A (Od v) (PIE X pins σ (.Tuple elts x1 tpos) R) X.xe s1) X.xe s:=by
 obtain⟨ia,ra,ha⟩:=(qa.mono r.sub).at I;obtain⟨ib,rb,hb⟩:=(qb.mono r.sub).at I;refine YR ha hb λh' z1 z2 z3 z4 z5 z6 z7=>?_;refine Za (s:={ s with heap:=h' }) z1 ?_
 have D:ZA (s.heap.objs.size+4) (s.heap.objs.size+2) (s.heap.objs.size+3) s.heap.objs.size (s.heap.objs.size+1):=by constructor <;> (intro z;simp at z)
 refine⟨_,[s.heap.objs.size+4,s.heap.objs.size+2,s.heap.objs.size+3,s.heap.objs.size,s.heap.objs.size+1],_,_,H,rfl,I.kept (t':=s.toks) z7,JQ (a:=a) (b:=b) D,⟨_,_,z1,z2,z3,z4,z5⟩,λc hc=>?_,q _ _ P α r (qD.refl _) (Bg _) (BB qa qb ta tb)⟩;have hl:s.heap.objs.size<=c:=by
  simp only[Az,Dq,Hc] at hc;rcases hc with rfl|rfl|rfl|rfl|rfl <;> simp
 exact I.fpOk hl (I.hok.fresh hl)
inductive ZipV (ds:Aa D)(its:Aa D):Prop
 |tup (xs ys:Aa D) (ed:ds=[.tup xs,.tup ys]) (e:its=vG xs ys)
 |lst (xs ys:Aa D) (ed:ds=[.lst xs,.lst ys]) (e:its=vG xs ys)
theorem T7 (h:HG ds=Ab its):ZipV ds its:=by
 cases ds with
 |nil=>exact nn h
 |cons a ds =>
  cases a with
  |tup xs =>
   cases ds with
   |nil=>exact nn h
   |cons b ds =>
    cases b with
    |tup ys =>
     cases ds with
     |nil=>exact .tup xs ys rfl (Cs h).symm
     |cons _ _=>exact nn h
    |_=>exact nn h
  |lst xs =>
   cases ds with
   |nil=>exact nn h
   |cons b ds =>
    cases b with
    |lst ys =>
     cases ds with
     |nil=>exact .lst xs ys rfl (Cs h).symm
     |cons _ _=>exact nn h
    |_=>exact nn h
  |_=>exact nn h
theorem NV (hg:Gl X "zip")(hm:X.mg "zip" = none)(ha:PA X [e1,e2] (tDA X f))(hs:Bm [e1,e2] X.env=(false,eval e1 X.env)::Bm [e2] X.env:=by rfl)(hpl:(Ft pos (Bm [e2] X.env)).any (·.1)=false:=by rfl) :
  PI X (.Tuple elts x1 tpos) (.Call (.Name "zip" p) [e1,e2] [] pos) (tDI X (Q7 f)):=by
 intro pins s σ H R I h;obtain⟨P,α,env,S,r,re,af⟩:=h;refine Call_ (vO I hg hm boot_zip (Ha (thn (wA ha I r re af pos) λus s1 ⟨vs,H1,P1,α1,ds,S1,I1,rv,r1,re1,rp,e1,e2,af1⟩=>?_) hs hpl));obtain⟨its,hi,q⟩:=vD af1;cases T7 hi with
 |tup xs ys ed e =>
  subst ed e;obtain⟨v,w,u,x,rfl,rfl,p1,p2,q1,q2⟩:=gV rp rv;simp only[Rep] at p1 p2;obtain⟨a,va,rfl,qa,ta⟩:=p1;obtain⟨b,vb,rfl,qb,tb⟩:=p2;cases (show u=Cw a from q1)
  cases (show x=Cw b from q2)
  exact YG (tp:=true) I1 r1 qa qb ta tb (q.base e1 e2)
 |lst xs ys ed e =>
  subst ed e;obtain⟨v,w,u,x,rfl,rfl,p1,p2,q1,q2⟩:=gV rp rv;simp only[Rep] at p1 p2;obtain⟨a,va,rfl,qa,ta⟩:=p1;obtain⟨b,vb,rfl,qb,tb⟩:=p2;cases (show u=Cw a from q1)
  cases (show x=Cw b from q2)
  exact YG (tp:=false) I1 r1 qa.l qb.l ta tb (q.base e1 e2)
end
def Src (K:Aj)(mg:Aq->Al Ac)(x:Aq)(st:Fq)(ps:Aa Aq):Prop:=∃ f fd,mg x=Ab (.ref f)/\Fun K x x st f fd/\vH K fd ps []
def Lk (K:Aj)(f:Af)(fd:Fi):Prop:=∃ oc od osl,K.lookup f=Ab ⟨oc,od,.func fd,osl⟩
theorem tO {K:Aj}{x q:Aq}{st:Fq}{f:Af}{fd:Fi}(F:Fun K x q st f fd):Lk K f fd:=by
 obtain⟨oc,od,kV,doc,pm,an,cdv,ct,osl,_,lk,_⟩:=F.ex;exact⟨oc,od,osl,lk⟩
theorem Lk.one {K:Aj}{f:Af}{fd fd':Fi}(h:Lk K f fd)(h':Lk K f fd'):fd=fd':=by
 obtain⟨oc,od,osl,e⟩:=h;obtain⟨oc',od',osl',e'⟩:=h';rw[e] at e';cases e';rfl
def Def (P:Bc)(w:Bx)(K:Aj)(mg:Aq->Al Ac)(base:Bs)(cm:Ar)(k:Ai)(x:Aq)(n:Ai)(F:DF):Prop:=
 ∃ f fd ps,ps.length=n/\mg x=Ab (.ref f)/\Gj K (.ref f)=true/\vH K fd ps [] /\ Lk K f fd/\FnX P w K mg base cm k f fd ps (spD K n F)
def rD (P:Bc)(w:Bx)(K:Aj)(mg:Aq->Al Ac)(base:Bs)(cm:Ar)(k:Ai)(x:Aq)(ps:Aa Aq)(F:DF):Prop:=
 ∃ f fd,mg x=Ab (.ref f)/\Gj K (.ref f)=true/\vH K fd ps [] /\ Lk K f fd/\FnX P w K mg base cm k f fd ps (spD K ps.length F)
section
variable {P:Bc}{w:Bx}{K:Aj}{mg:Aq->Al Ac}{base:Bs}{cm:Ar}
theorem K3 {x:Aq}{f:Af}{fd:Fi}{cdv:Ac}(hm:mg x=Ab (.ref f))(lk:Lk K f fd)(h:fd.code=cdv/\Mod K mg base):kN K x cdv:=λc T e=>by
 obtain⟨oc,od,osl,lk⟩:=lk;rw[<- h.1];exact PySem.W.law_code h.2.kin h.2.glob e hm (h.2.kin _ _ lk) rfl
theorem NR {x:Aq}{st:Fq}{ps:Aa Aq}{k:Ai}{g:DS}(h:Src K mg x st ps)(S:FnScope N ps (qF st))
  (hbody:∀ (f:Af) (cdv:Ac) (A:Bk) (outer:Aa Ie) (s:Ag) (H:Hp) (E:XK),kN K x cdv->RoomC cm k (A.deeper (Gb x (qF st) s.heap.objs.size f cdv)) ->
   PSs (cxC cm P w K mg base N x (qF st) f cdv A outer s H E) (zJ st) (tDS (cxC cm P w K mg base N x (qF st) f cdv A outer s H E) g)):Def P w K mg base cm (k+1) x ps.length (qM N.length g):=by
 obtain⟨f,fd,hm,F,hb⟩:=h;exact⟨f,fd,ps,rfl,hm,F.kp,hb,tO F,fnX F S λcdv A outer s H E hc hr=>hbody f cdv A outer s H E (K3 hm (tO F) hc) hr⟩
theorem GX {x:Aq}{st:Fq}{ps:Aa Aq}{k:Ai}{g:DS}(h:Src K mg x st ps)(S:FnScope N ps (qF st))
  (hbody:∀ (f:Af) (cdv:Ac) (A:Bk) (outer:Aa Ie) (s:Ag) (H:Hp) (E:XK),kN K x cdv->RoomC cm k (A.deeper (Gb x (qF st) s.heap.objs.size f cdv)) ->
   PSs (cxC cm P w K mg base N x (qF st) f cdv A outer s H E) (zJ st) (tDS (cxC cm P w K mg base N x (qF st) f cdv A outer s H E) g)):rD P w K mg base cm (k+1) x ps (qM N.length g):=by
 obtain⟨f,fd,hm,F,hb⟩:=h;exact⟨f,fd,hm,F.kp,hb,tO F,fnX F S λcdv A outer s H E hc hr=>hbody f cdv A outer s H E (K3 hm (tO F) hc) hr⟩
theorem Def.any {x:Aq}{k n:Ai}{F:DF}(h:Def P w K mg base false k x n F):Def P w K mg base cm k x n F:=by
 obtain⟨f,fd,ps,hn,hm,kp,hb,hl,X⟩:=h;exact⟨f,fd,ps,hn,hm,kp,hb,hl,X.any⟩
end
section
variable {X:Cx}{cm:Ar}{k n:Ai}{F:DF}{x:Aq}{p pos:Ey}{e:Bw}{es:Aa Bw}{fa:DA}
theorem dcN (G:Def X.prog X.w X.K X.mg X.base cm k x n F)(hr:RoomC cm k X.A)(hF:Fn1 X)(hg:Gl X x)(ha:PA X (e::es) (tDA X fa))(hdb:(x == ("__debug__" : Aq))=false:=by decide)(he:Bm (e::es) X.env=(false,eval e X.env)::Bm es X.env:=by rfl)(hpl:(Ft pos (Bm es X.env)).any (·.1)=false:=by rfl) :
  PE X (.Call (.Name x p) (e::es) [] pos) (tD X (qI n F fa)):=by
 obtain⟨f,fd,ps,hn,hm,kp,hb,hl,G⟩:=G;exact GT G hr hF hg hm kp hb ha hdb he hpl
end
def wY:DF:=λds S=>match ds with
 |[.dct0]=>.bad
 |_=>mE ds S
theorem GC {X:Cx}:xA X (.builtin "len") wY:=N4 trivial
theorem K2:∃ C:Ak->Ak->Ar,C=nN:=⟨_,rfl⟩
def K1:Ak->Ak->Ar:=So K2
theorem fY:K1=nN:=Oo K2
def zR:G2:=i2 K1 λi j=>.int (i*j)
theorem F6 {X:Cx}:OpD X (Ff .Mult) zR:=by
 unfold zR;rw[fY];exact F5
theorem hu1 {cm:Ar}{k:Ai}{A:Bk}(hr:RoomC cm k A):A.units+1<Ee:=by have:=hr.units;lia
def okO (F:DF):DF:=λds S=>match F ds S with
 |.ok d S'=>.ok d S'
 |_=>.bad
theorem SO {F:DF}{S S':Sto}{d:D}(h:F ds S=.ok d S'):okO F ds S=.ok d S':=by unfold okO;rw[h]
section
variable {X:Cx}{cm:Ar}{k n:Ai}{F:DF}{x:Aq}{p pos:Ey}{e:Bw}{es:Aa Bw}{fa:DA}{f:Af}{fd:Fi}{ps:Aa Aq}
theorem M8 {pins:Aa (Af × Cj)}{σ:_L.St}{H:Hp}{s:Ag}{Q:VK}{us:Aa Ac}{P:Hp}{α:Aa Af}{S:Sto}(G:FnX X.prog X.w X.K X.mg X.base cm k f fd ps (spD X.K n F))(hr:RoomC cm k X.A)(hb:vH X.K fd ps [])
  (I:Inv X pins σ H s) (r:Rel X.K H P α S) (rv:qL vs us) (rp:qC X.K P α ds vs) (hn:ds.length=n) (af:qP X P α (okO F ds S) Q):Ap (As X.prog X.w) X.A (call (.ref f) us) (EP X pins σ Q) X.xe s:=by
 have hvn:vs.length=n:=by rw[<- rp.length];exact hn
 have hsp:spD X.K n F vs H Q λ_ _ _=>Fh:=by
  refine⟨hvn,P,α,ds,S,r,rp,?_⟩;unfold okO at af;cases q:F ds S with
  |ok d S'=>rw[q] at af;exact af
  |ex c x S'=>rw[q] at af;exact Ao af
  |bad=>rw[q] at af;exact af
 have hl:us.length=ps.length:=by rw[<- rv.length];exact G.len _ _ _ _ hsp
 have hb':=hb s us I.kIn (by rw[Fw];exact hl)
 rw[Fw] at hb';refine Vx (Jh (G.run X.A X.stack s H ⟨us,[]⟩ us vs Q _ hr I.env0 hb' rv hsp) λr s' hq=>?_);cases r with
 |error u =>
  obtain⟨_,_,_,_,_,_,_,_,_,_,_,_,z⟩:=hq;exact Ao z
 |ok fl =>
  cases fl with
  |ret u=>exact I.after hq
  |next=>exact Ao hq
  |brk=>exact Ao hq
  |cont=>exact Ao hq
theorem dcO (G:Def X.prog X.w X.K X.mg X.base cm k x n F)(hr:RoomC cm k X.A)(hg:Gl X x)(ha:PA X (e::es) (tDA X fa))(hdb:(x == ("__debug__" : Aq))=false:=by decide)(he:Bm (e::es) X.env=(false,eval e X.env)::Bm es X.env:=by rfl)(hpl:(Ft pos (Bm es X.env)).any (·.1)=false:=by rfl) :
  PE X (.Call (.Name x p) (e::es) [] pos) (tD X (qI n (okO F) fa)):=by
 obtain⟨f,fd,ps,hn0,hm,hk,hb,hl,G⟩:=G;intro pins s σ H Q I h;obtain⟨P,α,env,S,r,re,af⟩:=h;refine Ho (kG I hg hm ?_ hdb);refine Qo (h₀:=X.base) I.ok.mod.kin hk (thn (wA ha I r re af pos) λus s1 ⟨vs,H1,P1,α1,ds,S1,I1,rv,r1,re1,rp,e1,e2,af1⟩=>⟨I1.kIn,?_⟩) he hpl;obtain⟨hn,af2⟩:=dJ (env:=env) (S:=S) af1;exact M8 G hr hb I1 r1 rv rp hn (qP.base e1 e2 af2)
end
structure QE (X:Cx)(e:Bw)(f:DE):Prop where
 get:PE X e (tD X f)
structure QT (X:Cx)(e:Bw)(t:DT):Prop where
 get:PT X e (tDT X t)
structure QW (X:Cx)(e:Bw)(t:DT):Prop where
 get:PWD X e t
structure QA (X:Cx)(es:Aa Bw)(f:DA):Prop where
 get:PA X es (tDA X f)
structure QO (X:Cx)(e:Al Bw)(f:DO):Prop where
 get:PO X e (tDO X f)
structure QG (X:Cx)(t:Bw)(g:DG):Prop where
 get:PG X t (tDG X g)
structure QGs (X:Cx)(ts:Aa Bw)(g:DGs):Prop where
 get:PGs X ts (cM X g)
structure QI (X:Cx)(tg it:Bw)(f:DI):Prop where
 get:PI X tg it (tDI X f)
structure QS (X:Cx)(s:Fq)(f:DS):Prop where
 get:PS X s (tDS X f)
structure QB (X:Cx)(ss:Aa Fq)(f:DS):Prop where
 get:PSs X ss (tDS X f)
structure QJ (X:Cx)(es:Aa Bw)(fs:Aa DE):Prop where
 get:PJ X es fs
structure ZOp (X:Cx)(f:Ac->Ac->Ke Ac)(g:G2):Prop where
 get:OpD X f g
structure ZUn (X:Cx)(f:Ac->Ke Ac)(g:D->Sto->Res D):Prop where
 get:UnD X f g
structure ZIx (X:Cx)(g:G2):Prop where
 get:IxD X g
structure ZCall (X:Cx)(f:Ac)(F:DF):Prop where
 get:xA X f F
structure ZMt (X:Cx)(id:Em)(g:D->Aa D->Sto->Res D):Prop where
 get:MtD X id g
structure ZSet (X:Cx)(g:G3):Prop where
 get:rE X (rA X g)
structure ZPass (X:Cx):Prop where
 get:Rg (As X.prog X.w) X.A X.env X.xe
section
variable {X:Cx}{a b c e e1 e2 o i:Bw}{es rest:Aa Bw}{fa fb fc fe fo fi:DE}{ta tb:DT}{fA:DA}{f g:DS}{st:Fq}{sts:Aa Fq}{x:Aq}{p pos:Ey}{n k:Ai}{cm:Ar}{F:DF}{G2':G2}
theorem AG:QE X (.Constant (.bool v) j pos) (dC (.bl v)):=⟨HM⟩
theorem RN:QE X (.Constant (.int v) j pos) (dC (.int v)):=⟨NK⟩
theorem RT:QE X (.Constant (.str v) j pos) (dC (.str v)):=⟨NP⟩
theorem RV (m:Ai)(hN:X.N[m]? = Ab x)(hv:Vis X.env.scope x)(hd:(x == ("__debug__" : Aq))=false)(hcd:(x == ("__classdict__" : Aq))=false):QE X (.Name x pos) (q9 m):=⟨dv m hN hv hd hcd⟩
theorem FM {nm:Em}(hg:Gl X x)(hm:X.mg x=none)(hv:Fu x=Ab (.type nm))(hn:x ≠ "__name__")(hd:(x == ("__debug__" : Aq))=false):QE X (.Name x pos) (dC (.ty nm)):=⟨GS hg hm hv hn hd⟩
theorem FN {v:Ak}(hg:Gl X x)(hm:∃ t,X.mg x=Ab (.int v t))(hd:(x == ("__debug__" : Aq))=false):QE X (.Name x pos) (dC (.int v)):=⟨let ⟨_,h⟩:=hm;GU (v:=.int v) hg h ⟨_,rfl⟩ (λ_ _=>by simp only[Rep]) hd⟩
theorem AK {op:UnaryOp}{h:D->Sto->Res D}(ho:ZUn X (Yp op) h)(ha:QE X a fa):QE X (.UnaryOp op a pos) (d1 h fa):=⟨HS ho.1 ha.1⟩
theorem RQ (ha:QE X a fa):QE X (.UnaryOp .Not a pos) (YZ fa):=⟨NN ha.1⟩
theorem AJ {op:Operator}(ho:ZOp X (Ff op) G2')(ha:QE X a fa)(hb:QE X b fb):QE X (.BinOp a op b pos) (d2 G2' fa fb):=⟨HR ho.1 ha.1 hb.1⟩
theorem RK {op:Vo}(ho:ZOp X (Ct op) G2')(ha:QE X a fa)(hb:QE X b fb)(hm:Ls op b=false:=by first|exact bA _|with_unfolding_all rfl):QE X (.Compare a [op] [b] pos) (d2 G2' fa fb):=⟨NH ho.1 ha.1 hb.1 hm⟩
theorem UT {op op':Vo}{g':G2}(ho:ZOp X (Ct op) G2')(ho':ZOp X (Ct op') g')(ha:QE X a fa)(hb:QE X b fb)(hc:QE X c fc)(hm:Xw [op,op'] [b,c]=false:=by with_unfolding_all rfl):QE X (.Compare a [op,op'] [b,c] pos) (xU G2' g' fa fb fc):=⟨V2 ho.1 ho'.1 ha.1 hb.1 hc.1 hm⟩
theorem RS  (h:QE X a fa):QE X (.BoolOp op [a] pos) fa:=⟨NO h.1⟩
theorem RJ (ha:QE X a fa)(hb:QE X (.BoolOp .And (b::rest) pos) fb):QE X (.BoolOp .And (a::b::rest) pos) (nP fa fb):=⟨NF ha.1 hb.1⟩
theorem AH (hc:QT X c ta)(ha:QE X a fa)(hb:QE X b fb):QE X (.IfExp c a b pos) (dIf ta fa fb):=⟨HP hc.1 ha.1 hb.1⟩
theorem RU  (h:QA X es fA):QE X (.Tuple es x1 pos) (vS fA):=⟨NQ h.1⟩
theorem RP (h:QA X es fA):QE X (.List es pos) (nQ fA):=⟨NM h.1⟩
theorem FP (h:QA X es fA):QE X (.List es pos) (kX fA):=⟨GW h.1⟩
theorem RL:QE X (.Dict [] [] pos) rY:=⟨NI⟩
theorem AI (ho:ZIx X G2')(ha:QE X a fa)(hb:QE X b fb)(hs:nK b:=by intro _ _;rfl):QE X (.Subscript a b pos) (d2 G2' fa fb):=⟨HQ ho.1 ha.1 hb.1 hs⟩
theorem UV {lo hi:Al Bw}{fl fh:DO}{p2:Ey}(he:QE X e fe)(hl:QO X lo fl)(hu:QO X hi fh):QE X (.Subscript e (.Slice lo hi none p2) pos) (dSl fe fl fh):=⟨V4 he.1 hl.1 hu.1⟩
theorem FV:QO X none vM:=⟨P9⟩
theorem FW (he:QE X e fe):QO X (Ab e) (wB fe):=⟨PB he.1⟩
theorem RM (he:QE X e fe):QE X (.FormattedValue e (-1) none pos) (d1 l3 fe):=⟨NJ he.1⟩
theorem E2:QJ X [] []:=⟨RB⟩
theorem FT {fs:Aa DE}(he:QE X e fe)(hr:QJ X es fs):QJ X (e::es) (fe::fs):=⟨FE he.1 hr.1⟩
theorem FO {fs:Aa DE}(h:QJ X (e1::e2::rest) fs):QE X (.JoinedStr (e1::e2::rest) pos) (Q6 fs):=⟨GV h.1⟩
theorem RH:QA X [] qA:=⟨NB⟩
theorem FL (ha:QE X e fa)(hr:QA X es fA)(hs:Bm (e::es) X.env=(false,eval e X.env)::Bm es X.env:=by rfl):QA X (e::es) (q8 fa fA):=⟨GR ha.1 hr.1 hs⟩
theorem qcN (G:Def X.prog X.w X.K X.mg X.base cm k x n F)(hr:RoomC cm k X.A)(hF:Fn1 X)(hg:Gl X x)(ha:QA X (e::es) fA)(hdb:(x == ("__debug__" : Aq))=false)(he:Bm (e::es) X.env=(false,eval e X.env)::Bm es X.env:=by rfl)(hpl:(Ft pos (Bm es X.env)).any (·.1)=false:=by rfl):QE X (.Call (.Name x p) (e::es) [] pos) (qI n F fA):=⟨dcN G hr hF hg ha.1 hdb he hpl⟩
theorem US {id:Em}(hc:ZCall X (.builtin id) F)(hg:Gl X x)(hm:X.mg x=none)(hv:Fu x=Ab (.builtin id))(ha:QA X (e::es) fA)(hn:x ≠ "__name__")(hdb:(x == ("__debug__" : Aq))=false)(he:Bm (e::es) X.env=(false,eval e X.env)::Bm es X.env:=by rfl)(hpl:(Ft pos (Bm es X.env)).any (·.1)=false:=by rfl):QE X (.Call (.Name x p) (e::es) [] pos) (qS F fA):=⟨V0 hc.1 hg hm hv ha.1 hn hdb he hpl⟩
theorem WX {T:Em}(hc:ZCall X (.type T) F)(hg:Gl X x)(hm:X.mg x=none)(hv:Fu x=Ab (.type T))(ha:QA X (e::es) fA)(hn:x ≠ "__name__")(hdb:(x == ("__debug__" : Aq))=false)(he:Bm (e::es) X.env=(false,eval e X.env)::Bm es X.env:=by rfl)(hpl:(Ft pos (Bm es X.env)).any (·.1)=false:=by rfl):QE X (.Call (.Name x p) (e::es) [] pos) (qS F fA):=⟨X8 hc.1 hg hm hv ha.1 hn hdb he hpl⟩
theorem KS {T id:Em}{name:Aq}{apos:Ey}{h:D->Aa D->Sto->Res D}(pa:PlainAttrs T)(slot:Slot T name id)(hty:typeOf (.builtin id)=pure (.type "method_descriptor"))(hT:T = "list" \/ T = "dict" \/ T = "int" \/ T = "str")(hm:ZMt X id h)(ho:QE X o fo)(ha:QA X (e::es) fA)
  (hbase:Rp o name X.env (eval o X.env)=eval o X.env:=by rfl)
  (hfew:((Ft pos (Bm (e::es) X.env)).all (λx=>!x.1)&&(backToKw pos (keywordEach [] X.env)).all (λx=>x.1.isSome)&&decide ((e::es).length+([]:Aa Keyword).length+(if ([] : Aa Keyword).isEmpty then 0 else 1)<30))=true:=by rfl)
  (hline:(apos.endLine == pos.line)=true:=by rfl) (hs:Bm (e::es) X.env=(false,eval e X.env)::Bm es X.env:=by rfl) (hplain:(Ft pos (Bm es X.env)).any (·.1)=false:=by rfl):QE X (.Call (.Attribute o name apos) (e::es) [] pos) (dBm T h fo fA):=⟨HN pa slot hty hT hm.1 ho.1 ha.1 hbase hfew hline hs hplain⟩
theorem AN (h:QW X e ta):QT X e ta:=⟨PWD.pt h.1⟩
theorem o8 (ha:QT X a ta):QW X (.BoolOp .And [a] pos) ta:=⟨PM ha.1⟩
theorem WZ (ha:QT X a ta):QW X (.BoolOp .Or [a] pos) ta:=⟨LB ha.1⟩
theorem WY (ha:QT X a ta)(hb:QW X (.BoolOp .And (b::rest) pos) tb):QW X (.BoolOp .And (a::b::rest) pos) (wV ta tb):=⟨LA ha.1 hb.1⟩
theorem KU (ha:QT X a ta)(hb:QW X (.BoolOp .Or (b::rest) pos) tb):QW X (.BoolOp .Or (a::b::rest) pos) (yC ta tb):=⟨HY ha.1 hb.1⟩
theorem EA (ha:QT X a ta):QT X (.UnaryOp .Not a pos) (yX ta):=⟨L8 ha.1⟩
theorem E9 {op:Vo}(ho:ZOp X (Ct op) G2')(ha:QE X a fa)(hb:QE X b fb)(hm:Ls op b=false:=by first|exact bA _|with_unfolding_all rfl):QT X (.Compare a [op] [b] pos) (dTr (d2 G2' fa fb)):=⟨L7 ho.1 ha.1 hb.1 hm⟩
theorem J3 {op op':Vo}{g':G2}(ho:ZOp X (Ct op) G2')(ho':ZOp X (Ct op') g')(ha:QE X a fa)(hb:QE X b fb)(hc:QE X c fc)(hm:Xw [op,op'] [b,c]=false:=by with_unfolding_all rfl):QT X (.Compare a [op,op'] [b,c] pos) (dTr (xU G2' g' fa fb fc)):=⟨VD ho.1 ho'.1 ha.1 hb.1 hc.1 hm⟩
theorem EB (ha:QE X a fa)(he:∀ whole,isTrue a X.env whole=(do let v <- whole;Rl a.pos;holding [v] (truthy v)):=by intro _;rfl):QT X a (dTr fa):=⟨L9 ha.1 he⟩
theorem FQ (hN:X.N.Nodup)(hi:X.N[m]? = Ab x)(hx:Loc X.env.scope x)(hf:X.fn x=true\/X.env.scope.names.lookup x=Ab .local):QG X (.Name x pos) (gNm m):=⟨GY hN hi hx hf⟩
theorem FR:QGs X [] vY:=⟨GZ⟩
theorem UW {h:DG}{gs:DGs}(h1:QG X e h)(h2:QGs X es gs)(hs:(Gr (e::es) X.env).map (·.2)=assign e X.env::(Gr es X.env).map (·.2):=by rfl):QGs X (e::es) (xF h gs):=⟨V5 h1.1 h2.1 hs⟩
theorem RX {kk:Ai}{gs:DGs}(hc:X.calm=true)(h:QGs X es gs)(hn:(Gr es X.env).length=n:=by rfl)(hst:(Gr es X.env).findIdx? (·.1)=none:=by rfl):QG X (.Tuple es kk pos) (gTp n gs):=⟨NT hc h.1 hn hst⟩
theorem RW {h:G3}(ho:QE X o fo)(hi:QE X i fi)(hs:ZSet X h)
  (ha:∀ v,assign (.Subscript o i pos) X.env v=(do
   let ov <- holding [v] (eval o X.env)
   let iv <- holding [v,ov] (eval i X.env)
   Rl pos
   holding [v,ov,iv] (setItem ov iv v)
   release [v,ov,iv] []):=by intro _;rfl):QG X (.Subscript o i pos) (gSb fo fi h):=⟨NS ho.1 hi.1 hs.1 ha⟩
theorem E0 {tg:Bw}(ha:QE X e fa):QI X tg e (yH fa):=⟨NU ha.1⟩
theorem UY {tg:Bw}(hg:Gl X "range")(hm:X.mg "range" = none)(ha:QA X (e::es) fA)(hs:Bm (e::es) X.env=(false,eval e X.env)::Bm es X.env:=by rfl)(hpl:(Ft pos (Bm es X.env)).any (·.1)=false:=by rfl):QI X tg (.Call (.Name "range" p) (e::es) [] pos) (uI fA):=⟨V7 hg hm ha.1 hs hpl⟩
theorem E1 {elts:Aa Bw}{x1:Ai}{tpos:Ey}(hg:Gl X "zip")(hm:X.mg "zip" = none)(ha:QA X [e1,e2] fA)(hs:Bm [e1,e2] X.env=(false,eval e1 X.env)::Bm [e2] X.env:=by rfl)(hpl:(Ft pos (Bm [e2] X.env)).any (·.1)=false:=by rfl):QI X (.Tuple elts x1 tpos) (.Call (.Name "zip" p) [e1,e2] [] pos) (Q7 fA):=⟨NV hg hm ha.1 hs hpl⟩
theorem RI:QB X [] xD:=⟨L0⟩
theorem WW (h:QS X st f):QB X [st] f:=⟨L3 h.1⟩
theorem o7 (h1:QS X st f)(h2:QB X sts g):QB X (st::sts) (qY f g):=⟨PC h1.1 h2.1⟩
theorem FX (he:QE X e fa)(hs:Np e none pos.line X.env=pure false:=by rfl):QS X (.Expr e pos) (w9 fa):=⟨PD he.1 hs⟩
theorem E7 (he:QE X e fa):QS X (.Return (Ab e) pos) (qW fa):=⟨L5 he.1⟩
theorem AM {as bs:Aa Fq}(hc:QT X c ta)(ha:QB X as f)(hb:QB X bs g):QS X (.If c as bs pos) (sIf ta f g):=⟨HW hc.1 ha.1 hb.1⟩
theorem J2 (hp:ZPass X)(hc:QT X c ta)(hb:QB X body f):QS X (.While c body [] pos) (nB ta f):=⟨VC hp.1 hc.1 hb.1⟩
theorem E5 {tg iter:Bw}{fI:DI}{h:DG}(hp:ZPass X)(hc:X.calm=true)(hi:QI X tg iter fI)(hg:QG X tg h)(hb:QB X body f)(hs:∀ x,Ep iter X.env x=pure x:=by intro _;rfl):QS X (.For tg iter body [] pos) (uW fI h f):=⟨NZ hp.1 hc hi.1 hg.1 hb.1 hs⟩
theorem E8 {pos':Ey}(hN:X.N.Nodup)(he:QE X e fa)(hi:X.N[m]? = Ab x)(hx:Loc X.env.scope x)(hs:Np e (Ab (.Name x pos')) pos.line X.env=pure false)(hf:X.fn x=true\/X.env.scope.names.lookup x=Ab .local):QS X (.Assign [.Name x pos'] e pos) (zP fa (gNm m)):=⟨L6 hN he.1 hi hx hs hf⟩
theorem E4 {tg:Bw}{h:DG}(he:QE X e fa)(hg:QG X tg h)(hs:Lq [tg] e pos.line X.env=pure false:=by rfl)(hw:Lp [tg] e X.env=pure none:=by rfl)(h1:(Gr [tg] X.env).map (·.2)=[assign tg X.env]:=by rfl):QS X (.Assign [tg] e pos) (zP fa h):=⟨NY he.1 hg.1 hs hw h1⟩
theorem E6 {l:Ai}{y:Aq}{px pt:Ey} {kt k2 pt2} (hc:X.calm=true) (hN:X.N.Nodup) (ha:QA X [a,b] fA) (hi:X.N[m]? = Ab x) (hj:X.N[l]? = Ab y) (hij:m≠l) (hx:X.env.scope.names.lookup x=Ab .local) (hy:X.env.scope.names.lookup y=Ab .local)
  (hw:Lp [.Tuple [.Name x px,.Name y py] kt pt] (.Tuple [a,b] k2 pt2) X.env=pure (Ab [x,y]):=by rfl) (hs:Lq [.Tuple [.Name x px,.Name y py] kt pt] (.Tuple [a,b] k2 pt2) pos.line X.env=pure false:=by rfl) :
  QS X (.Assign [.Tuple [.Name x px,.Name y py] kt pt] (.Tuple [a,b] k2 pt2) pos) (lY m l fA):=⟨L4 hc hN ha.1 hi hj hij hx hy hw hs⟩
theorem J0 {C Ae:Af}{np cpos:Ey}(hc:X.calm=true)(hF:Fn1 X)(hg:Gl X x)(hm:X.mg x=Ab (.ref C))(hx:m9 X.K C Ae=true)(ha:QA X (e::rest) fA)(hdb:(x == ("__debug__" : Aq))=false)(he:Bm (e::rest) X.env=(false,eval e X.env)::Bm rest X.env:=by rfl)(hpl:(Ft cpos (Bm rest X.env)).any (·.1)=false:=by rfl) :
  QS X (.Raise (Ab (.Call (.Name x np) (e::rest) [] cpos)) none pos) (bF (.ref C) fA):=⟨VB hc hF hg hm hx ha.1 hdb he hpl⟩
theorem IG:ZOp X (Ff .Add) zW:=⟨SG⟩
theorem IX:ZOp X (Ff .Sub) yD:=⟨SM⟩
theorem IS:ZOp X (Ff .Mult) zR:=⟨F6⟩
theorem II:ZOp X (Ff .FloorDiv) uN:=⟨SH⟩
theorem IR:ZOp X (Ff .Mod) gB:=⟨SK⟩
theorem IV:ZOp X (Ff .Pow) pW:=⟨SL⟩
theorem qAX:ZOp X (Ct .Lt) gLt:=⟨KO⟩
theorem qAW:ZOp X (Ct .LtE) gLe:=⟨A6⟩
theorem qAU:ZOp X (Ct .Gt) gGt:=⟨KN⟩
theorem qAT:ZOp X (Ct .GtE) gGe:=⟨A5⟩
theorem qAS (hr:RoomC cm k X.A):ZOp X (Ct .Eq) gEq:=⟨KM hr.units⟩
theorem qAY (hr:RoomC cm k X.A):ZOp X (Ct .NotEq) gNe:=⟨KP hr.units⟩
theorem IJ (hr:RoomC cm k X.A):ZOp X (Ct .Eq) (u3 gEq):=⟨OpD.look (KM hr.units)⟩
theorem IT (hr:RoomC cm k X.A):ZOp X (Ct .NotEq) (u3 gNe):=⟨OpD.look (KP hr.units)⟩
theorem IU:ZUn X (Yp .USub) mG:=⟨EW⟩
theorem qAV:ZIx X gIx:=⟨OT⟩
theorem IM:ZCall X (.builtin "isinstance") uK:=⟨N3⟩
theorem IP:ZCall X (.builtin "len") wY:=⟨GC⟩
theorem IH (hc:X.calm=true):ZCall X (.builtin "all") (mD false):=⟨N1 false hc⟩
theorem IL:ZCall X (.type "int") QD:=⟨N2⟩
theorem T6:ZCall X (.type "tuple") tH:=⟨YT⟩
theorem JS:ZMt X "list.append" wC:=⟨W6⟩
theorem IW (hr:RoomC cm k X.A):ZSet X vJ:=⟨EH (hu1 hr)⟩
end
section
variable {P:Bc}{w:Bx}{K:Aj}{mg:Aq->Al Ac}{base:Bs}{cm:Ar}
theorem TB {qual:Aq}{scope:Ei}{f:Af}{cd:Ac}{A:Bk}{outer:Aa Ie}{s:Ag}{H:Hp}{E:XK}:ZPass (cxC cm P w K mg base N qual scope f cd A outer s H E):=⟨YX⟩
theorem OL {x:Aq}{st:Fq}{ps:Aa Aq}{k:Ai}{g:DS}(h:Src K mg x st ps)(S:FnScope N ps (qF st))(hbd:zJ st=body)
  (hbody:∀ (f:Af) (cdv:Ac) (A:Bk) (outer:Aa Ie) (s:Ag) (H:Hp) (E:XK),kN K x cdv->RoomC cm k (A.deeper (Gb x (qF st) s.heap.objs.size f cdv)) ->
   QB (cxC cm P w K mg base N x (qF st) f cdv A outer s H E) body g):Def P w K mg base cm (k+1) x ps.length (qM N.length g):=
 NR h S λf cdv A outer s H E hc hr=>hbd▸(hbody f cdv A outer s H E hc hr).1
theorem HU {x:Aq}{st:Fq}{ps:Aa Aq}{k:Ai}{g:DS}(h:Src K mg x st ps)(S:FnScope N ps (qF st))(hbd:zJ st=body)
  (hbody:∀ (f:Af) (cdv:Ac) (A:Bk) (outer:Aa Ie) (s:Ag) (H:Hp) (E:XK),kN K x cdv->RoomC cm k (A.deeper (Gb x (qF st) s.heap.objs.size f cdv)) ->
   QB (cxC cm P w K mg base N x (qF st) f cdv A outer s H E) body g):rD P w K mg base cm (k+1) x ps (qM N.length g):=
 GX h S λf cdv A outer s H E hc hr=>hbd▸(hbody f cdv A outer s H E hc hr).1
end
structure QTs (X:Cx)(ifs:Aa Bw)(t:DT):Prop where
 get:PTs X ifs t
section
variable {X:Cx}{elt tg iter e:Bw}{ifs es:Aa Bw}{scope:Ei}{pos p:Ey}{N':Aa Aq}{cap:Aa (Al Ai)}{fi:DI}{g:DG}{t u:DT}{fe:DE}{fa:DA}{x:Aq}{cm:Ar}{k n:Ai}{F:DF}
theorem FY:QTs X [] xM:=⟨PL⟩
theorem J6 (h1:QT X e t)(h2:QTs X es u):QTs X (e::es) (wV t u):=⟨VE h1.1 h2.1⟩
theorem qcO (G:Def X.prog X.w X.K X.mg X.base cm k x n F)(hr:RoomC cm k X.A)(hg:Gl X x)(ha:QA X (e::es) fa)(hdb:(x == ("__debug__" : Aq))=false)(he:Bm (e::es) X.env=(false,eval e X.env)::Bm es X.env:=by rfl)(hpl:(Ft pos (Bm es X.env)).any (·.1)=false:=by rfl) :
  QE X (.Call (.Name x p) (e::es) [] pos) (qI n (okO F) fa):=⟨dcO G hr hg ha.1 hdb he hpl⟩
end
def stn (o:Al (Ai × MO))(S:Sto):Prop:=match o with
 |none=>Ps
 |some p=>S[p.1]? = Ab p.2
open Classical in
def ZG (o:Al (Ai × MO))(S:Sto):Ar:=decide (stn o S)
theorem yQ {o:Al (Ai × MO)}{S:Sto}:ZG o S=true↔stn o S:=by simp[ZG]
structure ItD2 (K:Aj)(J:It)(P:Hp)(α : Aa Af)(o:Al (Ai × MO))(ds:Aa D):Prop where
 go:∀ i H P1 α1 S,i<ds.length->Rel K H P1 α1 S->stn o S->qD P P1->α<+:α1->J.go i H
 yld:∀ i H x H' P1 α1 S,i<ds.length->Rel K H P1 α1 S->stn o S->qD P P1->α<+:α1->J.yld i H x H'->∃ P2 d,ds[i]? = Ab d/\Rel K H' P2 α1 S/\qD P1 P2/\Rep K P2 α1 d x
 stop:∀ i H P1 α1 S,ds.length<=i->Rel K H P1 α1 S->stn o S->qD P P1->α<+:α1->J.stop i H
theorem ItD.two {K:Aj}{J:It}{P:Hp}{α:Aa Af}(h:ItD K J P α ds):ItD2 K J P α none ds:=
 ⟨λi H P1 α1 S a b _ c d=>h.go i H P1 α1 S a b c d,λi H x H' P1 α1 S a b _ c d e=>h.yld i H x H' P1 α1 S a b c d e,λi H P1 α1 S a b _ c d=>h.stop i H P1 α1 S a b c d⟩
abbrev DI2:=qB->Sto->Res (Al (Ai × MO) × Aa D)
inductive tDI2 (X:Cx)(f:DI2)(σ : _L.St)(H:Hp)(R:It->Hp->Prop):Prop
 |mk (P:Hp) (α : Aa Af) (env:qB) (S:Sto) (r:Rel X.K H P α S) (re:z9 X.K P α σ env) (af:qG X P α (f env S) (λp S'=>∀ J H' P' α',Rel X.K H' P' α' S'->qD P P'->α<+:α'->ItD2 X.K J P' α' p.1 p.2->R J H')):tDI2 X f σ H R
def wG (f:DI):DI2:=λenv S=>(f env S).bind λds S1=>.ok (none,ds) S1
section
variable {X:Cx}{K:Aj}{tg e:Bw}{fa:DE}{pos:Ey}
theorem P8 {f:DI}(h:PI X tg e (tDI X f)):PI X tg e (tDI2 X (wG f)):=PI.weak h λσ H R ⟨P,α,env,S,r,re,af⟩=>by
 refine⟨P,α,env,S,r,re,?_⟩;unfold wG at af;cases q:f env S with
 |bad=>rw[q] at af;exact af
 |ex c x S'=>rw[q] at af;exact af
 |ok ds S1 =>
  rw[q] at af;exact λJ H' P' α' r' e1 e2 it=>af J H' P' α' r' e1 e2 it.two
theorem B9 {P:Hp}{α:Aa Af}{a:Af}{n:Ai}(hα:α[n]? = Ab a):ItD2 K (Itl K a) P α (Ab (n,.lst ds)) ds where
 go:=λi H P1 α1 S hi r st e e2=>by
  obtain⟨vs,z,t⟩:=r.at' n a _ (fD e2 hα) st;exact⟨vs,vs[i]'(by rw[<- t.length];exact hi),.of z,by simp⟩
 yld:=λi H x H' P1 α1 S hi r st e e2 y=>by
  obtain⟨rfl,y⟩:=y;obtain⟨vs,z,t⟩:=r.at' n a _ (fD e2 hα) st;have hx:=y vs (.of z);obtain⟨v,h1,h2⟩:=t.get (Am hi);rw[hx] at h1;cases h1;exact⟨P1,_,Am hi,r,qD.refl _,h2⟩
 stop:=λi H P1 α1 S hi r st e e2=>by
  obtain⟨vs,z,t⟩:=r.at' n a _ (fD e2 hα) st;exact⟨vs,.of z,by rw[<- t.length];exact hi⟩
def itD (d:D)(S:Sto):Res (Al (Ai × MO) × Aa D):=match d with
 |.tup xs=>.ok (none,xs) S
 |.lst xs=>.ok (none,xs) S
 |.loc n=>match S[n]? with
  |some (.lst xs)=>.ok (Ab (n,.lst xs),xs) S
  |_=>.bad
 |_=>.bad
def dIt (f:DE):DI2:=λenv S=>(f env S).bind λd S1=>itD d S1
theorem HV (ha:PE X e (tD X fa)):PI X tg e (tDI2 X (dIt fa)):=by
 intro pins s σ H R I h;obtain⟨P,α,env,S,r,re,af⟩:=h;refine thn (zN ha I r re af) λvv s1 ⟨v,H1,P1,α1,d,S1,G1,af1⟩=>?_;have seq:∀ ds,x9 d=Ab ds->(∀ J H' P' α',Rel X.K H' P' α' S1->qD P P'->α<+:α'->ItD2 X.K J P' α' none ds->R J H')->Ap (As X.prog X.w) X.A (Od vv) (PIE X pins σ tg R) X.xe s1:=λds e1 q =>
  eO G1.inv G1.rel G1.val G1.rep e1 λJ H' P' α' r' h1 h2 it=>q J H' P' α' r' (G1.same.trans h1) (G1.pre.trans h2) it.two
 cases d with
 |tup xs=>exact seq xs rfl af1
 |lst xs=>exact seq xs rfl af1
 |loc n =>
  obtain⟨xs,hS,af1⟩:=gQ (X:=X) (f:=λxs=>Res.ok (Ab (n,MO.lst xs),xs) S1) af1;have rp:=G1.rep;simp only[Rep] at rp;obtain⟨a,rfl,ha⟩:=rp;cases (show vv=Cw a from G1.val)
  obtain⟨vs,z,t⟩:=G1.rel.at' n a _ ha hS;obtain⟨its,rv,p,hz⟩:=G1.inv.list (SqL.of z);refine Gc p.isList ?_;refine⟨s1.heap.objs.size,[s1.heap.objs.size],_,_,H1,rfl,G1.inv.kept (t':=s1.toks) λb o e=>Ah _ e,sI a _,⟨_,AT _ rfl,rfl,rfl⟩,λb hb=>?_,af1 _ _ P1 α1 G1.rel G1.same G1.pre (B9 ha)⟩;have e:b=s1.heap.objs.size:=by simpa using hb
  subst e;exact G1.inv.fpOk (Ax _) (G1.inv.hok.fresh (Ax _))
 |_=>exact Ao af1
end
def emX (m:Ar)(elt:Bw)(acc:Ac)(env:Ie):Ke Uv:=match m with
 |false=>do let _ <- call (.builtin "list.append") [acc,<- eval elt env]
 |true=>do let v <- eval elt env;Rl elt.pos;let _ <- call (.builtin "set.add") [acc,v]
def zS (m:Ar)(elt:Bw)(gens:Aa Dx)(scope:Ei)(pos:Ey)(k:Ai)(acc:Ac)(env:Ie):Ke Uv:=
 match gens[k+1]? with
 |some g'=>do
  let x <- eval g'.iter env
  Rl g'.iter.pos
  let x <- Ep g'.iter env x
  let it <- holding [x] (Od x)
  let _ <- runOwn (.compStart (xK m elt gens scope pos) (k+1) it acc env) env
 |none=>emX m elt acc env
theorem JP (m:Ar)(elt target iter:Bw)(ifs:Aa Bw)(gens:Aa Dx)(scope:Ei)(pos:Ey)(it acc:Ac)(env:Ie)(k:Ai)(hg:gens[k]? = Ab ⟨target,iter,ifs,0⟩)(ha:∀ g',gens[k+1]? = Ab g'->g'.is_async=0) :
  Zn (xK m elt gens scope pos) k it acc env=(do
   Rl iter.pos
   match <- Ng it with
   |none=>pure (.done .next)
   |some v =>
    Kg target it v
    assign target env v
    let mut ok:=true
    for c in ifs do
     if ok then ok <- isTrue c env (eval c env)
    if ok then zS m elt gens scope pos k acc env
    again (.compLoop (xK m elt gens scope pos) k it acc env)):=by
 cases m <;>
 .unfold Zn zS xK emX
  simp only[hg];cases q:gens[k+1]? with
  |none=>rfl
  |some g' =>
   have h0:=ha g' q;have e0:(g'.is_async != 0)=false:=by rw[h0];rfl
   simp only[e0,Br,Dw,bind_assoc,pure_bind];rfl
abbrev DK:=qB->Sto->Aa D->Res (qB × Aa D)
def goL (o:Al (Ai × MO))(g:DG)(t:DT)(k:DK):Aa D->DK
 |[],env,S,acc=>if ZG o S then .ok (env,acc) S else .bad
 |d::ds,env,S,acc=>if ZG o S then (g d env S).bind λenv1 S1=>(t env1 S1).bind λb S2 =>
   if b then (k env1 S2 acc).bind λp S3=>goL o g t k ds p.1 S3 p.2 else goL o g t k ds env1 S2 acc
  else .bad
def zM (fe:DE):DK:=λenv S acc=>(fe env S).bind λx S1=>if acc.length<lim then .ok (env,acc++[x]) S1 else .bad
def kIn (fi:DI2)(g:DG)(t:DT)(k:DK):DK:=λenv S acc=>(fi env S).bind λp S1=>goL p.1 g t k p.2 env S1 acc
def oM (B:Acc)(Y:Cx)(pins:Aa (Af × Cj))(P1:Hp)(α1:Aa Af)(acc:Af)(env:qB)(S:Sto)(ds:Aa D)(s:Ag):Prop:=
 ∃ σ H P α o,TurnSt B Y pins P1 α1 [] acc env S ds s σ H P α o
def PK (B:Acc)(Y:Cx)(step:Ac->Ke Uv)(k:DK):Prop:=
 ∀ (pins:Aa (Af × Cj)) (P1:Hp) (α1:Aa Af) (acc:Af) (env env':qB) (S S':Sto) (ds ds':Aa D) (s:Ag),(∀ H:Hp,H acc=none->zZ Y pins H acc)->oM B Y pins P1 α1 acc env S ds s->k env S ds=.ok (env',ds') S' ->
  Ap (As Y.prog Y.w) Y.A (step (.ref acc)) (λ_ s'=>oM B Y pins P1 α1 acc env' S' ds' s') (λ_ _=>Fh) s
section
variable {B:Acc}{Y:Cx}{elt tg iter:Bw}{ifs:Aa Bw}{gens:Aa Dx}{scope:Ei}{pos:Ey}{k:Ai}{g:DG}{t:DT}{fe:DE}{it acc:Af}{fp:Aa Af}{J:It}{tn:Ai->Bs->Prop}{items:Aa D}{P1:Hp}{α1:Aa Af}{pins:Aa (Af × Cj)}
theorem XI {X:Cx}{H:Hp}{b:Af}{h:Bs}(f:zZ X pins H b)(hn:b ∉ fp):zZ X (pins++v7 fp h) H b:=by
 obtain⟨f0,f1,f2,f3,f4,f5⟩:=f;refine⟨f0,f1,f2,f3,f4,λp hp=>?_⟩;rcases Cn.mp hp with z|z
 .exact f5 p (Dk _ z)
 .rcases Cn.mp z with z|z
  .exact f5 p (Bt _ z)
  .rintro rfl
   exact hn (dZ z).1
theorem Res.bind_inv {β γ:Type}{r:Res β}{f:β->Sto->Res γ}{x:γ}{S:Sto}(h:r.bind f=.ok x S):∃ b S1,r=.ok b S1/\f b S1=.ok x S:=by
 cases r with
 |ok b S1=>exact⟨b,S1,rfl,h⟩
 |_=>cases h
inductive GoC (o:Al (Ai × MO))(g:DG)(t:DT)(k:DK)(d:D)(ds acc:Aa D)(env:qB)(S SF:Sto)(x:qB × Aa D):Prop
 |no (env1:qB) (S1 S2:Sto) (z:stn o S) (q1:g d env S=.ok env1 S1) (q2:t env1 S1=.ok false S2) (r:goL o g t k ds env1 S2 acc=.ok x SF):GoC o g t k d ds acc env S SF x
 |yes (env1:qB) (S1 S2:Sto) (env5:qB) (ds5:Aa D) (S5:Sto) (z:stn o S) (q1:g d env S=.ok env1 S1) (q2:t env1 S1=.ok true S2) (q3:k env1 S2 acc=.ok (env5,ds5) S5) (r:goL o g t k ds env5 S5 ds5=.ok x SF):GoC o g t k d ds acc env S SF x
set_option tactic.hygienic true in
theorem VS {o:Al (Ai × MO)}{k:DK}{d:D}{acc:Aa D}{S:Sto}{x:qB × Aa D}(h:goL o g t k (d::ds) env S acc=.ok x SF):GoC o g t k d ds acc env S SF x:=by
 simp only[goL] at h
 split at h
 .rename_i z
  obtain⟨env1,S1,q1,h⟩:=Res.bind_inv h;obtain⟨b,S2,q2,h⟩:=Res.bind_inv h;cases b with
  |false=>exact .no env1 S1 S2 (yQ.mp z) q1 q2 h
  |true =>
   obtain⟨⟨env5,ds5⟩,S5,q3,h⟩:=Res.bind_inv h;exact .yes env1 S1 S2 env5 ds5 S5 (yQ.mp z) q1 q2 q3 h
 .cases h
set_option tactic.hygienic true in
theorem PZ {o:Al (Ai × MO)}{k:DK}{acc:Aa D}{S:Sto}(h:goL o g t k [] env S acc=.ok (envF,dsF) SF):stn o S/\env=envF/\acc=dsF/\S=SF:=by
 simp only[goL] at h
 split at h
 .rename_i z
  cases h;exact⟨yQ.mp z,rfl,rfl,rfl⟩
 .cases h
inductive LpI (B:Acc)(Y:Cx)(pins:Aa (Af × Cj))(P1:Hp)(α1:Aa Af)(fp:Aa Af)(acc:Af)(tn:Ai->Bs->Prop)(G:Aa D->DK)(items:Aa D)(x:qB × Aa D)(SF:Sto)(n:Ai)(s:Ag):Prop
 |mk (i:Ai) (σ : _L.St) (H P:Hp) (α : Aa Af) (o:Cj) (env:qB) (S:Sto) (ds:Aa D) (hn:n=items.length-i) (hi:i<=items.length) (st:TurnSt B Y pins P1 α1 fp acc env S ds s σ H P α o) (st1:tn i s.heap) (run:G (items.drop i) env S ds=.ok x SF):LpI B Y pins P1 α1 fp acc tn G items x SF n s
theorem MP {m:Ar}{M:Nl}{A:Bk}{Q:Fin->Ag->Prop}{E:Ac->Ag->Prop}{s:Ag}{it acc:Ac}{en:Ie}(hgk:gens[k]? = Ab ⟨tg,iter,ifs,0⟩)(has:∀ g',gens[k+1]? = Ab g'->g'.is_async=0)
  (ha:∀ s,Qa s->Q (.again (.compLoop (xK m elt gens scope pos) k it acc en)) s) (hd:∀ s,Qd s->Q (.done .next) s)
  (h:Ap M A (Ng it) (λr s1=>(r=none->Qd s1)/\∀ v,r=Ab v->Ap M A (Kg tg it v) (λ_ s2=>Ap M A (assign tg en v) (λ_ s3=>Ap M A (uY ifs en) (λb s4=>(b=false->Qa s4)/\(b=true->Ap M A (zS m elt gens scope pos k acc en) (λ_ s5=>Qa s5) E s4)) E s3) E s2) E s1) E s) :
  Ap M A (Zn (xK m elt gens scope pos) k it acc en) Q E s:=by
 rw[JP m elt tg iter ifs gens scope pos it acc en k hgk has];refine Ad (Lr (Ad (thn h λr s1 ⟨h0,h1⟩=>?_)));cases r with
 |none=>exact An (hd _ (h0 rfl))
 |some v =>
  refine Ad (thn (h1 v rfl) λ_ s2 h2=>Ad (thn h2 λ_ s3 h3=>Ad (thn h3 λb s4 h4=>?_)));cases b with
  |false=>exact An (ha _ (h4.1 rfl))
  |true=>exact Ad (thn (h4.2 rfl) λ_ s5 h5=>An (ha _ h5))
theorem PX (hfp:∀ H:Hp,(∀ b∈fp,H b=none)->∀ b∈fp,zZ Y pins H b)(hne:acc ∉ fp)(o:Cj)(H':Hp)(hn:∀ b∈fp,H' b=none):∀ b∈fp,zZ Y (pins++[(acc,o)]) H' b:=λb hb=>by
 obtain⟨f0,f1,f2,f3,f4,f5⟩:=hfp H' hn b hb;refine⟨f0,f1,f2,f3,f4,λp hp=>?_⟩;rcases Cn.mp hp with z|z
 .exact f5 p (Dk _ z)
 .rcases Cn.mp z with z|z
  .exact f5 p (Bt _ z)
  .rw[Dn.mp z]
   rintro rfl;exact hne hb
theorem jL {i:Ai}{h:Bs}(T:Turn Y.prog Y.w Y.K tg J fp it tn)(st2:tn (i+1) h)(pl:∀ b∈fp,∃ o,h.get? b=Ab o/\∀ v,o.data≠.cell v){s5:Ag}{σ5:_L.St}{H5:Hp}(I5:Inv Y (pins++v7 fp h) σ5 H5 s5):tn (i+1) s5.heap/\(∀ b∈fp,H5 b=none):=by
 refine⟨T.keep _ _ _ st2 λb hb o' e=>(I5.pin (b,o') (Bt _ (Bt _ (u4 hb e)))).1,λb hb=>?_⟩;obtain⟨o',e,d'⟩:=pl b hb;exact(I5.pin (b,o') (Bt _ (Bt _ (u4 hb e)))).2.1
theorem Q5 {kk:DK}{E:Ac->Ag->Prop}{s:Ag}{σ:_L.St}{H P:Hp}{α:Aa Af}{S:Sto}{o:Cj}{i:Ai}(hc:Y.calm=true)(hx:Y.xe=λ_ _=>Fh)
  (T:Turn Y.prog Y.w Y.K tg J fp it tn) (hit:ItD2 Y.K J P1 α1 o' items) (hg:PG Y tg (tDG Y g)) (ht:PTs Y ifs t) (he:PK B Y (λacc=>zS B.m elt gens scope pos k acc Y.env) kk) (hacc:∀ H:Hp,H acc=none->zZ Y pins H acc) (hfp:∀ H:Hp,(∀ b∈fp,H b=none)->∀ b∈fp,zZ Y pins H b) (hne:acc ∉ fp)
  (hi:i<=items.length) (st:TurnSt B Y pins P1 α1 fp acc env S ds s σ H P α o) (st1:tn i s.heap) (run:goL o' g t kk (items.drop i) env S ds=.ok (envF,dsF) SF)
  (hA:∀ s' σ' H' P' α' o1 env1 S' ds',i<items.length->TurnSt B Y pins P1 α1 fp acc env1 S' ds' s' σ' H' P' α' o1->tn (i+1) s'.heap->goL o' g t kk (items.drop (i+1)) env1 S' ds'=.ok (envF,dsF) SF->Qa s')
  (hD:∀ s' σ' H' P' α' o',TurnSt B Y pins P1 α1 fp acc envF SF dsF s' σ' H' P' α' o'->Qd s') :
  Ap (As Y.prog Y.w) Y.A (Ng (.ref it)) (λr s1=>(r=none->Qd s1)/\∀ v,r=Ab v->Ap (As Y.prog Y.w) Y.A (Kg tg (.ref it) v) (λ_ s2=>Ap (As Y.prog Y.w) Y.A (assign tg Y.env v) (λ_ s3=>Ap (As Y.prog Y.w) Y.A (uY ifs Y.env) (λb s4=>(b=false->Qa s4)/\(b=true->Ap (As Y.prog Y.w) Y.A (zS B.m elt gens scope pos k (.ref acc) Y.env) (λ_ s5=>Qa s5) E s4)) E s3) E s2) E s1) E s:=by
 have I1:=_D.Inv.pin1 st.inv (hacc H st.acn) st.at' (B.cell st.acc);have fp1:=PX hfp hne o;by_cases hlt:i<items.length
 .have hdr:items.drop i=items[i]::items.drop (i+1):=Fk hlt
  rw[hdr] at run;have run:=VS run;have hst:stn o' S:=by cases run with|no _ _ _ z=>exact z|yes _ _ _ _ _ _ z=>exact z
  refine gY (T.item Y rfl rfl rfl hc i _ s σ H (λ_ _=>Fh) I1 (fp1 H st.fpn) st1 (hit.go i H P α S hlt st.rel hst st.same st.pre)) λr s1 ⟨u,hr,h1⟩=>⟨λz=>(by rw[hr] at z;cases z),λv hv=>?_⟩
  obtain rfl:v=u:=Cs (hv.symm.trans hr);refine gY h1 λ_ s2 ⟨x,H2,I2,rx,y,st2,fr2⟩=>?_;obtain⟨P2,d,hd,r2,e2,rp⟩:=hit.yld i H x H2 P α S hlt st.rel hst st.same st.pre y;cases (Am hlt).symm.trans hd;have pl:=T.obj _ _ st2;have I2':=I2.pinned (fp1 _ fr2) pl;have two:∀ env1 S1 b S2,g items[i] env S=.ok env1 S1->t env1 S1=.ok b S2->(∀ s4 σ3 H4 P4 α4 (I4:Inv Y (pins++v7 fp s2.heap) σ3 H4 s4),TurnSt B Y pins P1 α1 fp acc env1 S2 ds s4 σ3 H4 P4 α4 o->tn (i+1) s4.heap->(b=false->Qa s4)/\(b=true->Ap (As Y.prog Y.w) Y.A (zS B.m elt gens scope pos k (.ref acc) Y.env) (λ_ s5=>Qa s5) E s4))->Ap (As Y.prog Y.w) Y.A (assign tg Y.env v) (λ_ s3=>Ap (As Y.prog Y.w) Y.A (uY ifs Y.env) (λb s4=>(b=false->Qa s4)/\(b=true->Ap (As Y.prog Y.w) Y.A (zS B.m elt gens scope pos k (.ref acc) Y.env) (λ_ s5=>Qa s5) E s4)) E s3) E s2:=by
   intro env1 S1 b S2 q1 q2 next;refine gY (hx▸qAE hg I2' r2 (st.env.mono e2 (Bg _)) rx rp q1) λ_ s3 ⟨σ3,H3,P3,α3,I3,r3,re3,e3,e3'⟩=>?_;refine gY (hx▸AF ht I3 r3 re3 q2) λb' s4 ⟨hb,H4,P4,α4,I4,r4,re4,e4,e4'⟩=>?_;have I4':Inv Y (pins++v7 fp s2.heap) σ3 H4 s4:=I4.pins_of λp hp=>I4.pin p (Bt _ ((Cn.mp hp).elim (λz=>Dk _ (Dk _ z)) λz=>Bt _ z));have a4:=I4.pin (acc,o) (Bt _ (Dk _ (Bt _ (Dn.mpr rfl))));rw[hb];exact next s4 σ3 H4 P4 α4 I4' ⟨I4'.unpinned,r4,re4,((st.same.trans e2).trans e3).trans e4,(st.pre.trans e3').trans e4',(jL T st2 pl I4').2,a4.2.1,a4.1,B.mono ((e2.trans e3).trans e4) (e3'.trans e4') st.acc⟩ (jL T st2 pl I4').1
  cases run with
  |no env1 S1 S2 _ q1 q2 run=>exact two env1 S1 false S2 q1 q2 λs4 σ3 H4 P4 α4 I4 st4 tn4=>⟨λ_=>hA s4 σ3 H4 P4 α4 o env1 S2 ds hlt st4 tn4 run,λz=>(by cases z)⟩
  |yes env1 S1 S2 env5 ds5 S5 _ q1 q2 q3 run =>
   refine two env1 S1 true S2 q1 q2 λs4 σ3 H4 P4 α4 I4 st4 tn4=>⟨λz=>(by cases z),λ_=>?_⟩
   refine gY (he (pins++v7 fp s2.heap) P1 α1 acc env1 env5 S2 S5 ds ds5 s4 (λH hn=>XI (hacc H hn) hne) ⟨σ3,H4,P4,α4,o,I4,st4.rel,st4.env,st4.same,st4.pre,λb hb=>(by cases hb),st4.acn,st4.at',st4.acc⟩ q3) λ_ s5 ⟨σ5,H5,P5,α5,o5,T5⟩=>?_
   exact hA s5 σ5 H5 P5 α5 o5 env5 S5 ds5 hlt ⟨T5.inv.unpinned,T5.rel,T5.env,T5.same,T5.pre,(jL T st2 pl T5.inv).2,T5.acn,T5.at',T5.acc⟩ (jL T st2 pl T5.inv).1 run
 .rw[Kl li] at run
  obtain⟨z,rfl,rfl,rfl⟩:=PZ run;refine gY (T.done Y rfl rfl rfl hc i _ s σ H (λ_ _=>Fh) I1 (fp1 H st.fpn) st1 (hit.stop i H P α _ li st.rel z st.same st.pre)) λr s1 ⟨hr,I2⟩=>⟨λ_=>?_,λv hv=>(by rw[hr] at hv;cases hv)⟩
  have a:=_D.Inv.pinned1 I2;exact hD s1 σ H P α o ⟨I2.unpinned,st.rel,st.env,st.same,st.pre,st.fpn,a.2,a.1,st.acc⟩
theorem UA (P:Bc)(w:Bx)(m:Ar)(elt:Bw)(gens:Aa Dx)(scope:Ei)(pos:Ey)(k:Ai)(it acc:Ac)(env:Ie):(As P w).den (.compLoop (xK m elt gens scope pos) k it acc env)=(Zn (xK m elt gens scope pos) k it acc env).onRaise (λx=>do noteFrame x env;theTreesLotGoes x):=by cases m <;> rfl
theorem UB (A:Bk)(m:Ar)(elt:Bw)(gens:Aa Dx)(scope:Ei)(pos:Ey)(k:Ai)(it acc:Ac)(env:Ie):A.under (.compLoop (xK m elt gens scope pos) k it acc env)=A:=by cases m <;> rfl
theorem mZ {kk:DK}{R:xL->Ag->Prop}{s:Ag}{σ:_L.St}{H P:Hp}{α:Aa Af}{S:Sto}{ds0:Aa D}{o:Cj}(hc:Y.calm=true)(hx:Y.xe=λ_ _=>Fh)(hgk:gens[k]? = Ab ⟨tg,iter,ifs,0⟩)(has:∀ g',gens[k+1]? = Ab g'->g'.is_async=0)
  (T:Turn Y.prog Y.w Y.K tg J fp it tn) (hit:ItD2 Y.K J P1 α1 o' items) (hg:PG Y tg (tDG Y g)) (ht:PTs Y ifs t) (he:PK B Y (λacc=>zS B.m elt gens scope pos k acc Y.env) kk) (hacc:∀ H:Hp,H acc=none->zZ Y pins H acc) (hfp:∀ H:Hp,(∀ b∈fp,H b=none)->∀ b∈fp,zZ Y pins H b) (hne:acc ∉ fp)
  (st:TurnSt B Y pins P1 α1 fp acc env S ds0 s σ H P α o) (st0:tn 0 s.heap) (run:goL o' g t kk items env S ds0=.ok (envF,dsF) SF)
  (hR:∀ s' σ' H' P' α' o',TurnSt B Y pins P1 α1 fp acc envF SF dsF s' σ' H' P' α' o'->R (.ok .next) s') :
  Ih (As Y.prog Y.w) Y.A (.compLoop (xK B.m elt gens scope pos) k (.ref it) (.ref acc) Y.env) R s:=by
 refine codeAny_loop rfl (LpI B Y pins P1 α1 fp acc tn (goL o' g t kk) items (envF,dsF) SF) (λn s hI=>?_) items.length ⟨0,σ,H,P,α,o,env,S,ds0,rfl,Gz _,st,st0,run⟩;obtain⟨i,σ,H,P,α,o,env,S,ds,hn,hi,st,st1,run⟩:=hI;subst hn;rw[UA,UB];refine wpAny_noted (MP (m:=B.m) hgk has (Qa:=λs'=>∃ m,m<items.length-i/\LpI B Y pins P1 α1 fp acc tn (goL o' g t kk) items (envF,dsF) SF m s') (Qd:=R (.ok .next)) (λ_ h=>⟨rfl,h⟩) (λ_ h=>h) ?_);exact Q5 hc hx T hit hg ht he hacc hfp hne hi st st1 run (λs' σ' H' P' α' o1 env1 S' ds' hlt st' tn' run'=>⟨_,Nat.sub_succ_lt_self _ _ hlt,i+1,σ',H',P',α',o1,env1,S',ds',rfl,hlt,st',tn',run'⟩) hR
set_option tactic.hygienic true in
theorem FF (hx:Y.xe=λ_ _=>Fh)(hlast:gens[k+1]? = none)(he:PE Y elt (tD Y fe)):PK accL Y (λacc=>zS false elt gens scope pos k acc Y.env) (zM fe):=by
 intro pins P1 α1 acc env env' S S' ds ds' s hacc ⟨σ,H,P,α,o,st⟩ run;show Ap _ _ (zS false elt gens scope pos k (.ref acc) Y.env) _ _ s;unfold zS;rw[hlast];dsimp only[emX];unfold zM at run;cases q3:fe env S with
 |bad=>rw[q3] at run;cases run
 |ex c z S'=>rw[q3] at run;cases run
 |ok d5 S5 =>
  rw[q3,Res.bind_ok] at run
  split at run
  .rename_i hlen
   cases run;have fA:=hacc H st.acn;have I1:=_D.Inv.pin1 st.inv fA st.at' (accL.cell st.acc);refine Ad (gY (hx▸qAD he I1 st.rel st.env q3) λu5 s5 ⟨v5,H5,P5,α5,G5⟩=>?_);have J:=_D.Inv.pinned1 G5.inv;have J1:=G5.inv.unpinned;obtain⟨J4,J5⟩:=J;obtain⟨its,n5,vs,ho,rvs,rps,hz⟩:=st.acc;subst ho;have hlen':vs.length=ds.length:=rps.length.symm;have hl2:=rvs.length;refine Ad (call_meets Wp ⟨_,J4,rfl⟩ Vu (Vf _ _) (Xv acc its.toArray n5 u5 (by rw[Bz];rw[<- zV];lia)) ⟨J4,?_⟩)
   have q:=Yu J4 (·.push u5)
   have fA5:=hacc H5 J5;have keep:∀ b o,b≠acc->s5.heap.get? b=Ab o->(s5.heap.update acc (Es (·.push u5))).get? b=Ab o:=λb o hb e=>(Di s5.heap _ (Fy hb)).trans e
   have I6:=J1.turned (t':=s5.toks) keep J5 fA5.2.1 fA5.2.2.2.1 fA5.2.2.2.2.1 fA5.2.2.2.2.2;refine An ⟨σ,H5,P5,α5,_,I6,G5.rel,G5.env,st.same.trans G5.same,st.pre.trans G5.pre,λb hb=>(by simp at hb),J5,q,?_⟩
   refine⟨its++[u5],_,vs++[v5],by simp <;> rfl,rvs.append (.cons G5.val .nil),?_,by simp;lia⟩
   exact(qC.mono G5.same G5.pre _ _ rps).append (.cons G5.rep .nil)
  .cases run
end
theorem pR {prog:Bc}{w:Bx}{A:Bk}{R:xL->Ag->Prop}{s:Ag}{elt:Bw}{gens:Aa Dx}{scope:Ei}{pos:Ey}{k:Ai}{it acc:Ac}{env:Ie}{g:Dx}{m:Ar}(hg:gens[k]? = Ab g)(ha:g.is_async=0)
  (h0:Ih (As prog w) A (.compLoop (xK m elt gens scope pos) k it acc env) R s)
  (h:Ap (As prog w) A (Od it) (λit' s'=>Ih (As prog w) A (.compLoop (xK m elt gens scope pos) k it' acc env) R s') (notedBy (As prog w) A env λx s'=>R (.error x) s') s) :
  Ih (As prog w) A (.compStart (xK m elt gens scope pos) k it acc env) R s:=by
 refine Pm ?_;have e1:(As prog w).den (.compStart (xK m elt gens scope pos) k it acc env)=(compStart (xK m elt gens scope pos) k it acc env).onRaise (λx=>do noteFrame x env;Rl theWindowsPlace):=by cases m <;> rfl
 have e2:A.under (.compStart (xK m elt gens scope pos) k it acc env)=A:=by cases m <;> rfl
 have e3:(Aa5 (xK m elt gens scope pos) k it acc env).quiet=true/\∀ it',(Aa5 (xK m elt gens scope pos) k it' acc env).quiet=true:=by cases m <;> exact⟨rfl,λ_=>rfl⟩
 rw[e1,e2];refine wpAny_notedAt ?_;have hcl:clausesOf (xK m elt gens scope pos)=gens:=by cases m <;> rfl
 have e0:(g.is_async != 0)=false:=by rw[ha];rfl
 unfold compStart;simp only[hcl,hg,Option.elim,e0,Br,Dw];refine Ad (Jz (wpAny_ite ?_))
 split
 .exact An (And.intro e3.1 h0)
 .refine Ad (Gs ?_)
  exact Ad (Lr (Ad (Gq h (λit' s' h'=>An (And.intro (e3.2 _) h')) λ_ _ x=>x)))
section
variable {B:Acc}{Y:Cx}{elt tg iter:Bw}{ifs:Aa Bw}{gens:Aa Dx}{scope:Ei}{pos:Ey}{k:Ai}{g:DG}{t:DT}{fi:DI2}{kk:DK}
theorem XH {X:Cx}{pins pl:Aa (Af × Cj)}{H:Hp}{b:Af}(f:zZ X (pins++pl) H b):zZ X pins H b:=by
 obtain⟨f0,f1,f2,f3,f4,f5⟩:=f;refine⟨f0,f1,f2,f3,f4,λp hp=>f5 p ?_⟩;rcases Cn.mp hp with z|z
 .exact Dk _ z
 .exact Bt _ (Dk _ z)
theorem AD (hc:Y.calm=true)(hx:Y.xe=λ_ _=>Fh)(hgk:gens[k+1]? = Ab ⟨tg,iter,ifs,0⟩)(has:∀ g',gens[k+1+1]? = Ab g'->g'.is_async=0)(hi:PI Y tg iter (tDI2 Y fi))(hg:PG Y tg (tDG Y g))(ht:PTs Y ifs t)
  (he:PK B Y (λacc=>zS B.m elt gens scope pos (k+1) acc Y.env) kk) (hs:∀ x,Ep iter Y.env x=pure x):PK B Y (λacc=>zS B.m elt gens scope pos k acc Y.env) (kIn fi g t kk):=by
 intro pins P1 α1 acc env env' S S' ds ds' s hacc ⟨σ,H,P,α,o,st⟩ run;show Ap _ _ (zS B.m elt gens scope pos k (.ref acc) Y.env) _ _ s;unfold zS;rw[hgk];dsimp only;unfold kIn at run;cases q:fi env S with
 |bad=>rw[q] at run;cases run
 |ex c z S'=>rw[q] at run;cases run
 |ok p S1 =>
  rw[q,Res.bind_ok] at run;have fA:=hacc H st.acn;have I1:=_D.Inv.pin1 st.inv fA st.at' (B.cell st.acc);have key:=hi (pins++[(acc,o)]) s σ H (λJ H1=>∃ P' α',Rel Y.K H1 P' α' S1/\qD P P'/\α<+:α'/\ItD2 Y.K J P' α' p.1 p.2) I1 ⟨P,α,env,S,st.rel,st.env,by rw[q];exact λJ H' P' α' r' e1 e2 it=>⟨P',α',r',e1,e2,it⟩⟩
  rw[hx] at key;refine Ad (gY key λv s1 h1=>Ad (Lr ?_));rw[hs];refine Ad (An (Ad (Fj (gY h1 λitv s2 h2=>?_))));obtain⟨it,fp,tn,J,H2,rfl,I2,T,st0,hf,P',α',r2,e1,e2,hit⟩:=h2;have a2:=_D.Inv.pinned1 I2;have hne:acc ∉ fp:=λhm=>(hf acc hm).2.2.2.2.2 (acc,o) (Bt _ (Bt _ (by simp))) rfl
  have loop:Ih (As Y.prog Y.w) Y.A (.compLoop (xK B.m elt gens scope pos) (k+1) (.ref it) (.ref acc) Y.env) (λr s'=>match r with
    |.ok f=>oM B Y pins P1 α1 acc env' S' ds' s'
    |.error _=>Fh) s2:=by
   refine mZ (pins:=pins) (fp:=fp) (P1:=P') (α1:=α') (σ:=σ) (H:=H2) (P:=P') (α:=α') (o:=o) hc hx hgk has T hit hg ht he hacc (λH hn b hb=>?_) hne
    ⟨I2.unpinned,r2,st.env.mono e1 e2,qD.refl _,Bg _,λb hb=>(hf b hb).1,a2.2,a2.1,B.mono e1 e2 st.acc⟩ st0 run λs' σ' H' Pf αf o' T'=>?_
   .obtain⟨_,g1,g2,g3,g4,g5⟩:=XH (hf b hb)
    exact⟨hn b hb,g1,g2,g3,g4,g5⟩
   .exact⟨σ',H',Pf,αf,o',T'.inv,T'.rel,T'.env,(st.same.trans e1).trans T'.same,(st.pre.trans e2).trans T'.pre,λb hb=>(by simp at hb),T'.acn,T'.at',T'.acc⟩
  refine Ad (wpAny_runOwn (Jh (pR hgk rfl loop (T.self Y.A 0 _ _ _ st0 loop)) λr s' h=>?_));cases r with
  |error x=>exact Ao h
  |ok f=>exact An h
end
def mkM (m:Ar)(r:Res (qB × Aa D)):Res D:=match r with
 |.ok p S2=>if m then .ok (.loc S2.length) (S2++[.lst p.2]) else .ok (.lst p.2) S2
 |_=>.bad
def zK (m:Ar)(cap:Aa (Al Ai))(fi:DI2)(g:DG)(t:DT)(k:DK):DE:=λenv S=>(fi env S).bind λp S1=>mkM m (goL p.1 g t k p.2 (zY cap env) S1 [])
section
variable {X:Cx}{elt tg iter:Bw}{ifs:Aa Bw}{scope:Ei}{pos:Ey}{N':Aa Aq}{cap:Aa (Al Ai)}{fi:DI2}{g:DG}{t:DT}{kk:DK}{rest:Aa Dx}{mm:Ar}
theorem W8 {P:Hp}{α:Aa Af}{r:Res (qB × Aa D)}{Ok:D->Sto->Prop}(h:qG X P α (mkM mm r) Ok):∃ envF ds SF,r=.ok (envF,ds) SF/\(if mm then Ok (.loc SF.length) (SF++[.lst ds]) else Ok (.lst ds) SF):=by
 cases r with
 |ok p S =>
  obtain⟨envF,ds⟩:=p;refine⟨envF,ds,S,rfl,?_⟩;cases mm <;> exact h
 |ex c x S=>exact Ao h
 |bad=>exact Ao h
theorem VF {pins:Aa (Af × Cj)}{σ:_L.St}{P1:Hp}{α1:Aa Af}{acc C:Af}{s:Ag}{Q:VK}(c:jR X pins σ P1 α1 ds SF acc C s)(ok:if mm then OkV X P1 α1 Q (.loc SF.length) (SF++[.lst ds]) else OkV X P1 α1 Q (.lst ds) SF):EP X pins σ Q (.ref acc) s:=by
 cases mm with
 |false=>exact PN c ok
 |true =>
  obtain⟨H',P',α',vs,I,r,hn,e1,e2,rp,_⟩:=c;exact⟨.ref acc,_,I,rfl,lO r hn rp λv H2 P2 α2 r2 q1 q2 q3=>ok v H2 P2 α2 r2 (e1.trans q1) (e2.trans q2) q3⟩
theorem XC {M:Nl}{A:Bk}{E:Ac->Ag->Prop}{s:Ag}{globals:Af}{closure:Aa (Aq × Af)}{qual:Aq}{env:Ie}{Q:Ie->Ag->Prop}
  (hQ:Q (newEnv scope s.heap.objs.size globals (Hj (s.heap.objs.size+1) scope.names closure) qual none .none (Ab env) Pu) { s with heap:=Xz (s.heap.push { cls:=.type "dict",data:=.dict #[] }) scope.names }) :
  Ap M A (Uz scope globals closure [] qual none .none (Ab env)) Q E s:=by
 simp only[Uz,Wq,Dp];refine Ad (wpAny_alloc ?_);refine Ad (wpAny_layCells _ (λname kind cells=>by cases hkc:kind == Ol <;> simp[hkc]) _ _ _ _ ?_)
 rw[show ({ s with heap:=s.heap.push { cls:=.type "dict",data:=.dict #[] } } : Ag).heap.objs.size=s.heap.objs.size+1 from Dj ..]
 refine Ad ?_;rw[Ni];exact An (An hQ)
theorem fM {B:Acc}{o0:Cj}{pins:Aa (Af × Cj)}{σ:_L.St}{H2 P1:Hp}{α1:Aa Af}{s2:Ag}{S1:Sto}{items:Aa D}{it:Af}{fp:Aa Af}{tn:Ai->Bs->Prop}{J:It}{E:Ac->Ag->Prop}{RR:Ac->Af->xL->Ag->Prop}
  (hc:X.calm=true) (S:CompSc X.env.scope X.N scope N' cap) (has:∀ g',(⟨tg,iter,ifs,0⟩::rest:Aa Dx)[0+1]? = Ab g'->g'.is_async=0)
  (hg:∀ cl C ex s₀ H₀,PG (qV X N' scope cl C ex s₀ H₀) tg (tDG (qV X N' scope cl C ex s₀ H₀) g))
  (ht:∀ cl C ex s₀ H₀,PTs (qV X N' scope cl C ex s₀ H₀) ifs t) (he:∀ cl C ex s₀ H₀,PK B (qV X N' scope cl C ex s₀ H₀) (λacc=>zS B.m elt (⟨tg,iter,ifs,0⟩::rest) scope pos 0 acc (qV X N' scope cl C ex s₀ H₀).env) kk)
  (I2:Inv X pins σ H2 s2) (r:Rel X.K H2 P1 α1 S1) (re:z9 X.K P1 α1 σ env) (T:Turn X.prog X.w X.K tg J fp it tn) (st0:tn 0 s2.heap) (hf:∀ b∈fp,zZ X pins H2 b) (hit:ItD2 X.K J P1 α1 o' items) (run:goL o' g t kk items (zY cap env) S1 [] = .ok (envF,ds) SF)
  (h0:B.O X.K P1 α1 [] o0) (hg0:o0.isFreed=false) (hRR:∀ acc C s',s2.heap.objs.size<=acc->(∃ m,s'.heap.Ns C m)->s2.heap.objs.size<=C->acc≠C->(∃ cl σ' H' P' α' o',TurnSt B (qV X N' scope cl C fp s2 H2) [] P1 α1 fp acc envF SF ds s' σ' H' P' α' o')->RR (.ref acc) C (.ok .next) s') :
  Ap (As X.prog X.w) X.A (Uz scope X.env.globals (wF X.env.cells scope.names []) [] X.env.qual none .none (Ab X.env)) (λcenv s₄ =>
   Ih (As X.prog X.w) X.A (.compStart (xK B.m elt (⟨tg,iter,ifs,0⟩::rest) scope pos) 0 (.ref it) (.ref s2.heap.objs.size) { cenv with scope:=relabel scope X.env }) (RR (.ref s2.heap.objs.size) cenv.locals) s₄) E { s2 with heap:=s2.heap.push o0 }:=by
 have hlt:∀ b∈fp,b<s2.heap.objs.size:=λb hb=>by
  obtain⟨o,e,_⟩:=T.obj 0 _ st0 b hb;exact Ay e
 refine XC ?_;dsimp only;generalize hH2:s2.heap.push o0=Hh;have hsz:Hh.objs.size=s2.heap.objs.size+1:=by rw[<- hH2,Dj]
 have hC:s2.heap.objs.size<=Hh.objs.size:=by rw[hsz];exact Oq _
 have hne:s2.heap.objs.size≠Hh.objs.size:=by rw[hsz];exact Ci (Ga _)
 have kp:∀ b o,Hh.get? b=Ab o->(Xz (Hh.push { cls:=.type "dict",data:=.dict #[] }) scope.names).get? b=Ab o:=λb o e=>Zo _ _ b o (Ah _ e);have hns₁:(Xz (Hh.push { cls:=.type "dict",data:=.dict #[] }) scope.names).Ns Hh.objs.size (λ_=>none):=(Heap.Ns.new Hh (.type "dict")).keeps (Zo _ _);have co:=cellsFrom_ok scope.names (Hh.push { cls:=.type "dict",data:=.dict #[] }) (Hh.objs.size+1) [] ⟨λ_ _ hm=>(nomatch hm),Nn⟩ (by rw[Dj];exact Ax _)
 rw[Dj] at co;generalize hh₁:Xz (Hh.push { cls:=.type "dict",data:=.dict #[] }) scope.names=h₁ at kp hns₁ co ⊢;have keep:∀ b o,s2.heap.get? b=Ab o->h₁.get? b=Ab o:=λb o e=>kp b o (hH2▸Ah _ e);have hacc:h₁.get? s2.heap.objs.size=Ab o0:=kp _ _ (hH2▸AT _ hg0);have I4:∀ tk,Inv (qV X N' scope (kR X scope Hh.objs.size) Hh.objs.size fp s2 H2) [] (vA cap σ) H2 { s2 with heap:=h₁,toks:=tk }:=λtk =>
  YV (s4:={ s2 with heap:=h₁,toks:=tk }) S I2 hf hlt hC hns₁ rfl rfl keep co
 have loop:∀ tk,Ih (As X.prog X.w) X.A (.compLoop (xK B.m elt (⟨tg,iter,ifs,0⟩::rest) scope pos) 0 (.ref it) (.ref s2.heap.objs.size) (compEnvC scope (kR X scope Hh.objs.size) Hh.objs.size X.env)) (RR (.ref s2.heap.objs.size) Hh.objs.size) { s2 with heap:=h₁,toks:=tk }:=λtk=>by
  refine mZ (B:=B) (kk:=kk) (o':=o') (Y:=qV X N' scope (kR X scope Hh.objs.size) Hh.objs.size fp s2 H2) (pins:=[]) (fp:=fp) (acc:=s2.heap.objs.size) (P1:=P1) (α1:=α1) (σ:=vA cap σ) (H:=H2) (P:=P1) (α:=α1) (o:=o0) hc rfl rfl has T hit
   (hg _ _ _ _ _) (ht _ _ _ _ _) (he _ _ _ _ _) (λH hn=>?_) (λH hn b hb=>?_) (λhm=>Du _ (hlt _ hm)) ⟨I4 tk,r,Y0 re cap,qD.refl _,Bg _,λb hb=>(hf b hb).1,I2.hok.fresh (Ax _),hacc,h0⟩ (T.keep _ _ _ st0 λb hb o e=>keep b o e) run λs' σ' H' P' α' o' st=>?_
  .refine⟨hn,hne,λhm=>?_,.inr (Ax _),λx c h z=>?_,λp hp=>absurd (show p∈([]:Aa (Af × Cj)) from hp) (by simp)⟩
   .obtain⟨_,o,ho,_⟩:=I2.stack.mem hm
    exact Du _ (Ay ho)
   .rcases xB S I2.ok h with⟨m,_⟩|⟨m,_⟩
    .exact Du _ (Mr hC (z▸(co.empty x c m).2))
    .obtain⟨v,ob,hob,_⟩:=I2.cell x c m
     rw[z] at hob;exact Du _ (Ay hob)
  .obtain⟨_,h1,h2,h3,h4,h5⟩:=hf b hb
   refine⟨hn b hb,Ci (Bh (hlt b hb) hC),λhm=>?_,.inl hb,λx c h=>(by
    rcases xB S I2.ok h with⟨m,_⟩|⟨m,_⟩
    .exact Fy (Ci (Hz (Bh (hlt b hb) hC) (co.empty x c m).2))
    .exact h4 x c m),λp hp=>absurd (show p∈([]:Aa (Af × Cj)) from hp) (by simp)⟩
   rcases Az.mp (I2.stkSub b hm) with z|z
   .exact h1 z
   .exact h2 z
  .obtain⟨m,hm,_⟩:=st.inv.loc
   exact hRR _ _ s' (Ax _) ⟨m,hm⟩ hC hne ⟨_,_,_,_,_,_,st⟩
 exact pR (k:=0) rfl rfl (loop _) (T.self X.A 0 _ _ _ (T.keep _ _ _ st0 λb hb o e=>keep b o e) (loop _))
theorem V3 (hc:X.calm=true)(S:CompSc X.env.scope X.N scope N' cap)(hi:PI X tg iter (tDI2 X fi))
  (hg:∀ cl C ex s₀ H₀,PG (qV X N' scope cl C ex s₀ H₀) tg (tDG (qV X N' scope cl C ex s₀ H₀) g))
  (ht:∀ cl C ex s₀ H₀,PTs (qV X N' scope cl C ex s₀ H₀) ifs t) (has:∀ g',(⟨tg,iter,ifs,0⟩::rest:Aa Dx)[0+1]? = Ab g'->g'.is_async=0) (he:∀ cl C ex s₀ H₀,PK accL (qV X N' scope cl C ex s₀ H₀) (λacc=>zS false elt (⟨tg,iter,ifs,0⟩::rest) scope pos 0 acc (qV X N' scope cl C ex s₀ H₀).env) kk)
  (hs:∀ x,Ep iter X.env x=pure x:=by intro _;rfl):PE X (.ListComp elt (⟨tg,iter,ifs,0⟩::rest) scope pos) (tD X (zK mm cap fi g t kk)):=by
 intro pins s σ H Q I h;obtain⟨P,α,env,S0,r,re,af⟩:=h;rw[eval_ListComp];have af':qG X P α ((fi env S0).bind λp S1=>mkM mm (goL p.1 g t kk p.2 (zY cap env) S1 [])) (OkV X P α Q):=af;refine Sf (use:=none) rfl hs (aP S I.ok) S.kind S.names ?_;refine thn (hi pins s σ H (λJ H1=>∃ (P1:Hp) (α1:Aa Af) (p:Al (Ai × MO) × Aa _D.D) (S1:Sto),Rel X.K H1 P1 α1 S1/\qD P P1/\α<+:α1/\ItD2 X.K J P1 α1 p.1 p.2/\qG X P α (mkM mm (goL p.1 g t kk p.2 (zY cap env) S1 [])) (OkV X P α Q)) I ⟨P,α,env,S0,r,re,?_⟩) λxv s1 h1=>thn h1 λitv s2 h2=>?_
 .cases q:fi env S0 with
  |bad=>rw[q] at af';exact af'
  |ex c x S'=>rw[q] at af';exact af'
  |ok p S1=>rw[q] at af';exact λJ H1 P1 α1 r1 e1 e2 it=>⟨P1,α1,p,S1,r1,e1,e2,it,af'⟩
 obtain⟨it,fp,tn,J,H2,rfl,I2,T,st0,hf,P1,α1,p,S1,r1,e1,e2,hit,af1⟩:=h2;obtain⟨envF,ds,SF,run,ok⟩:=W8 af1;refine Ek (fM (B:=accL) (o0:={ cls:=.type "list",dict:=none,data:=.seq ([] : Aa Ac).toArray }) (RR:=λacc C=>compPost (As X.prog X.w) X.A X.xe none (EP X pins σ Q) acc C) hc S has hg ht he I2 r1 (re.mono e1 e2) T st0 hf hit run ⟨[],0,[],rfl,.nil,.nil,Gz _⟩ rfl ?_);intro acc C s' hA ⟨m,hm⟩ hC hne ⟨cl,σf,Hf,Pf,αf,of,stf⟩;have fin:∀ h',Fc C s'.heap h'->jR X pins σ P1 α1 ds SF acc C { s' with heap:=h' }:=λh' sb=>rR I2 hf rfl hC hA hne stf sb
 refine⟨m,hm,λh' sb=>VF (mm:=mm) (fin h' sb) ?_⟩;cases mm with
 |false=>exact λv H3 P3 α3 r3 q1 q2 q3=>ok v H3 P3 α3 r3 (e1.trans q1) (e2.trans q2) q3
 |true=>exact λv H3 P3 α3 r3 q1 q2 q3=>ok v H3 P3 α3 r3 (e1.trans q1) (e2.trans q2) q3
theorem VA {i:Ai}{y:Aq}{py spos:Ey}(hc:X.calm=true)(hN:X.N.Nodup)(S:CompSc X.env.scope X.N scope N' cap)(hi:PI X tg iter (tDI2 X fi))
  (hg:∀ cl C ex s₀ H₀,PG (qV X N' scope cl C ex s₀ H₀) tg (tDG (qV X N' scope cl C ex s₀ H₀) g))
  (ht:∀ cl C ex s₀ H₀,PTs (qV X N' scope cl C ex s₀ H₀) ifs t) (has:∀ g',(⟨tg,iter,ifs,0⟩::rest:Aa Dx)[0+1]? = Ab g'->g'.is_async=0) (he:∀ cl C ex s₀ H₀,PK accL (qV X N' scope cl C ex s₀ H₀) (λacc=>zS false elt (⟨tg,iter,ifs,0⟩::rest) scope pos 0 acc (qV X N' scope cl C ex s₀ H₀).env) kk)
  (hy:X.N[i]? = Ab y:=by rfl) (hyl:Loc X.env.scope y:=by first|exact x0 rfl|exact Yv rfl) (hf:X.fn y=true\/X.env.scope.names.lookup y=Ab .local:=by first|exact .inl rfl|exact .inr rfl|assumption)
  (hsw:Np (.ListComp elt (⟨tg,iter,ifs,0⟩::rest) scope pos) (Ab (.Name y py)) spos.line X.env=pure true:=by rfl)
  (hs:∀ x,Ep iter X.env x=pure x:=by intro _;rfl):PS X (.Assign [.Name y py] (.ListComp elt (⟨tg,iter,ifs,0⟩::rest) scope pos) spos) (tDS X (zP (zK mm cap fi g t kk) (gNm i))):=by
 intro pins s σ H D I h;obtain⟨P,α,env,S0,r,re,af⟩:=h;have af0:=w5 af;have af':qG X P α ((fi env S0).bind λp S1=>mkM mm (goL p.1 g t kk p.2 (zY cap env) S1 [])) (λd S=>z0 X P α (.nx (env.set i (Ab d)) S) D):=af0;rw[exec_Assign_Name_used _ _ _ _ hsw];refine Ad (Lr (Ad ?_));show Ap _ X.A (do let _ <- comprehension (.ListComp elt (⟨tg,iter,ifs,0⟩::rest) scope pos) scope X.env _ (newList []) false (eval iter X.env) (Ab (assign (.Name y py) X.env))) _ _ s
 refine Ad (Gq (Sf (use:=Ab (assign (.Name y py) X.env)) (Q:=λ_ s'=>SP X pins D .next s') rfl hs (aP S I.ok) S.kind S.names ?_) (λ_ s' hq=>An (An hq)) λ_ _ e=>e);refine thn (hi pins s σ H (λJ H1=>∃ (P1:Hp) (α1:Aa Af) (p:Al (Ai × MO) × Aa _D.D) (S1:Sto),Rel X.K H1 P1 α1 S1/\qD P P1/\α<+:α1/\ItD2 X.K J P1 α1 p.1 p.2/\qG X P α (mkM mm (goL p.1 g t kk p.2 (zY cap env) S1 [])) (λd S=>z0 X P α (.nx (env.set i (Ab d)) S) D)) I ⟨P,α,env,S0,r,re,?_⟩) λxv s1 h1=>thn h1 λitv s2 h2=>?_
 .cases q:fi env S0 with
  |bad=>rw[q] at af';exact af'
  |ex c x S'=>rw[q] at af';exact af'
  |ok p S1=>rw[q] at af';exact λJ H1 P1 α1 r1 e1 e2 it=>⟨P1,α1,p,S1,r1,e1,e2,it,af'⟩
 obtain⟨it,fp,tn,J,H2,rfl,I2,T,st0,hfp,P1,α1,p,S1,r1,e1,e2,hit,af1⟩:=h2;obtain⟨envF,ds,SF,run,ok⟩:=W8 af1;refine Ek (fM (B:=accL) (o0:={ cls:=.type "list",dict:=none,data:=.seq ([] : Aa Ac).toArray }) (RR:=λacc C=>compPost (As X.prog X.w) X.A X.xe (Ab (assign (.Name y py) X.env)) (λ_ s'=>SP X pins D .next s') acc C) hc S has hg ht he I2 r1 (re.mono e1 e2) T st0 hfp hit run ⟨[],0,[],rfl,.nil,.nil,Gz _⟩ rfl ?_);intro acc C s' hA ⟨m,hm⟩ hC hne ⟨cl,σf,Hf,Pf,αf,of,stf⟩;have fin:∀ h',Fc C s'.heap h'->jR X pins σ P1 α1 ds SF acc C { s' with heap:=h' }:=λh' sb=>rR I2 hfp rfl hC hA hne stf sb
 show Ap _ X.A (assign (.Name y py) X.env (.ref acc)) _ _ s';obtain⟨H3,P3,α3,vs,I3,r3,hn3,q1,q2,rp,hCn⟩:=fin s'.heap (XV _ _);obtain⟨r4,e4⟩:=r3.pure (o:=.lst vs) hn3;have hCn':(upd H3 acc (.lst vs)) C=none:=by rw[qH (Fy hne)];exact hCn
 have fC:=I2.fpOk hC hCn';refine Xm (sG I3 hN hy hyl (show qJ (V.ref acc) (Cw acc) from rfl) (λs5 I5 ⟨a,sb,ha⟩=>?_) hf)
 have hCa:C≠a:=by
  rcases ha with rfl|ha
  .exact fC.2.1
  .exact λz=>fC.2.2.2.2.1 _ _ ha z.symm
 refine⟨m,hm.sameBut sb hCa,λh' sb'=>?_⟩;have I6:Inv X pins (σ.set i (Ab (V.ref acc))) (upd H3 acc (.lst vs)) { s5 with heap:=h' }:=I5.turned (t':=s5.toks) (λb o hb e=>(sb'.2 b hb).trans e) hCn' fC.2.1 fC.2.2.2.1 fC.2.2.2.2.1 fC.2.2.2.2.2
 cases mm with
 |false =>
  refine⟨_,_,I6,ok _ _ (upd P3 acc (.lst vs)) α3 r4 ?_ ((e1.trans q1).trans e4) (e2.trans q2)⟩;exact((re.mono e1 e2).mono (q1.trans e4) q2).set i (lT (.inl (.inl qR)) (qC.mono e4 (Bg _) _ _ rp))
 |true =>
  have hpre:α3<+:α3++[acc]:=Mp _ _;have r5:=r3.new (o:=.lst vs) (m:=.lst ds) hn3 ⟨vs,qR,qC.mono (qD.refl _) hpre _ _ rp⟩;refine⟨_,_,I6,ok _ _ P3 (α3++[acc]) r5 ?_ (e1.trans q1) ((e2.trans q2).trans hpre)⟩;refine((re.mono e1 e2).mono q1 (q2.trans hpre)).set i ?_;simp only[Rep];exact⟨acc,rfl,by rw[<- r3.len];simp⟩
end
section
variable {prog:Bc}{w:Bx}{A:Bk}{E:Ac->Ag->Prop}{s:Ag}
theorem XB {e it l:Af}{i:Ai}{x old:Ac}(he:Ug s.heap e it i old)(hit:zF tp s.heap it l i)(hl:xN tp s.heap l xs)(hx:xs[i]? = Ab x)(ne:e≠it)
  (hQ:∀ g,IsEnumOut g e it ((i:Ak)+1) x s.heap.objs.size->zF tp g it l (i+1)->Ja g s.heap.objs.size (.int i s.toks) x->g.objs.size=s.heap.objs.size+1->(∀ b o,b≠e->b≠it->s.heap.get? b=Ab o->g.get? b=Ab o)->Q (.ref s.heap.objs.size) { s with heap:=g,toks:=s.toks+1 }) :
  Ap (As prog w) A (Ik.«enumerate.__next__» ⟨[.ref e],[]⟩) (λfin s'=>∃ v,fin=.done (.ret v)/\Q v s') E s:=by
 obtain⟨hp,gn,dr,tk,os⟩:=s;show Ap _ _ (field (.ref e) 2 >>= _) _ _ _;refine Ad (Ej he rfl (x:=.ref it) rfl (Ad (gM hit hl hx λg1 i1 s1=>?_)))
 replace s1:Fc it hp g1:=s1
 have e1:Ug g1 e it i old:=(s1.2 e ne).trans he;show Ap _ _ (field (.ref e) 3 >>= _) _ _ ⟨g1,gn,dr,tk,os⟩;refine Ad (Ej e1 rfl (x:=Fz i) rfl ?_);show Ap _ _ (field (.ref e) 4 >>= _) _ _ ⟨g1,gn,dr,tk,os⟩;refine Ad (Ej e1 rfl (x:=.none) rfl ?_);show Ap _ _ (mkInt i >>= _) _ _ ⟨g1,gn,dr,tk,os⟩;refine Ad (wpAny_mkInt ?_);show Ap _ _ (setField (.ref e) 3 (Fz ((i:Ak)+1)) >>= _) _ _ ⟨g1,gn,dr,tk+1,os⟩;refine Ad (Eu e1 (by simp) λg2 e2 s2=>?_)
 replace s2:Fc e g1 g2:=s2
 replace e2:Ug g2 e it ((i:Ak)+1) old:=e2
 show Ap _ _ (setField (.ref e) 4 .none >>= _) _ _ ⟨g2,gn,dr,tk+1,os⟩;refine Ad (Eu e2 (by simp) λg3 e3 s3=>?_)
 replace s3:Fc e g2 g3:=s3
 replace e3:Ug g3 e it ((i:Ak)+1) old:=e3
 show Ap _ _ (newTuple [.int i tk,x] >>= _) _ _ ⟨g3,gn,dr,tk+1,os⟩;refine Ad (Ux ?_);have e4:Ug (g3.push { cls:=.type "tuple",data:=.seq #[.int i tk,x] }) e it ((i:Ak)+1) old:=Ah _ e3;generalize q4:g3.push { cls:=.type "tuple",data:=.seq #[.int i tk,x] } = g4 at e4;have sz:g3.objs.size=hp.objs.size:=by rw[s3.1,s2.1,s1.1]
 have el:e<hp.objs.size:=Ay he;have t4:Ja g4 hp.objs.size (.int i tk) x:=by rw[<- q4,<- sz];exact AT _ rfl
 have z4:g4.objs.size=hp.objs.size+1:=by rw[<- q4,Dj,sz]
 have k4:∀ b o,b≠e->b≠it->hp.get? b=Ab o->g4.get? b=Ab o:=λb o b1 b2 q=>by
  rw[<- q4];exact Ah _ (s3.extBut b o b1 (s2.extBut b o b1 (s1.extBut b o b2 q)))
 have i4:zF tp g4 it l (i+1):=i1.keep λo q=>by rw[<- q4];exact Ah _ (s3.extBut _ o ne.symm (s2.extBut _ o ne.symm q))
 show Ap _ _ (Eo (.ref e) >>= _) _ _ ⟨g4,gn,dr,tk+1,os⟩;rw[sz];refine Ad ?_;unfold Eo;refine Ad (Ej e4 rfl (x:=.none) rfl (An ?_));simp only[Dp];refine Ad (Gs (Ad (Ej e4 rfl (x:=old) rfl (Ad (Eu e4 (by simp) λg5 e5 s5=>?_)))))
 replace s5:Fc e g4 g5:=s5
 replace e5:Ug g5 e it ((i:Ak)+1) x:=e5
 show Ap _ _ (Gm (.ref e) (.ref hp.objs.size) >>= _) _ _ ⟨g5,gn,dr,tk+1,os⟩;refine Ad ?_;unfold Gm;refine Ad (Eu e5 (by simp) λg6 e6 s6=>?_)
 replace s6:Fc e g5 g6:=s6
 replace e6:IsEnumOut g6 e it ((i:Ak)+1) x hp.objs.size:=e6
 refine Eu e6 (by simp) λg7 e7 s7=>?_
 replace s7:Fc e g6 g7:=s7
 replace e7:IsEnumOut g7 e it ((i:Ak)+1) x hp.objs.size:=e7
 have up:∀ b o,b≠e->g4.get? b=Ab o->g7.get? b=Ab o:=λb o b1 q=>s7.extBut b o b1 (s6.extBut b o b1 (s5.extBut b o b1 q));exact Ad (Uf (An ⟨_,rfl,hQ g7 e7 (i4.keep λo q=>up _ o ne.symm q) (up _ _ (Fv el) t4) (by rw[s7.1,s6.1,s5.1,z4]) λb o b1 b2 q=>up b o b1 (k4 b o b1 b2 q)⟩))
set_option maxHeartbeats 4000000 in
set_option tactic.hygienic true in
theorem VI (tp:Ar)(l:Af)(xs:Aw Ac) :
  Meets (Ik.«enumerate.__new__» ⟨[.type "enumerate",.ref l],[]⟩) (λ_ R s=>(∃ n dct sl,s.heap.get? l=Ab { cls:=.type (if tp then "tuple" else "list"),dict:=dct,data:=.seq xs n,slots:=sl }) /\ R (.ok (.ret (.ref (s.heap.push (vK tp l)).objs.size))) { s with heap:=(s.heap.push (vK tp l)).push { cls:=.type "enumerate",data:=.fields #[.none,.bool false,.ref s.heap.objs.size,Fz 0,.none,.none] } }):=
 .of_wp λprog w A R s h=>by
  obtain⟨hp,gn,dr,tk,os⟩:=s;obtain⟨⟨n,dct,sl,hl⟩,h⟩:=h;have hsub:=sub_enumerate;cases tp
  .have L1:Yy (Op ⟨hp,gn,dr,tk,os⟩) l xs:=⟨_,hl,rfl,n,rfl⟩
   wp_walk using Gn hl
   refine Zp λst=>An ?_
   split
   .rename_i c _ _ _ _ _
    cases (c == Hr "enumerate") <;> (wp_walk using Gn hl,Gc L1;exact⟨_,rfl,h⟩)
   .wp_walk using Gn hl,Gc L1;exact⟨_,rfl,h⟩
  .have L1:Xe (Op ⟨hp,gn,dr,tk,os⟩) l xs:=⟨_,hl,rfl,n,rfl⟩
   wp_walk using Gn hl
   refine Zp λst=>An ?_
   split
   .rename_i c _ _ _ _ _
    cases (c == Hr "enumerate") <;> (wp_walk using Gn hl,Fx L1;exact⟨_,rfl,h⟩)
   .wp_walk using Gn hl,Fx L1;exact⟨_,rfl,h⟩
theorem ZX {tp:Ar}{l:Af}{xs:Aw Ac}{Q:Ac->Ag->Prop}(hl:∃ n dct sl,s.heap.get? l=Ab { cls:=.type (if tp then "tuple" else "list"),dict:=dct,data:=.seq xs n,slots:=sl })
  (h:∀ g,Ug g (s.heap.objs.size+1) s.heap.objs.size 0 .none->zF tp g s.heap.objs.size l 0->(∀ b o,s.heap.get? b=Ab o->g.get? b=Ab o)->Q (.ref (s.heap.objs.size+1)) { s with heap:=g }) :
  Ap (As prog w) A (call (.type "enumerate") [.ref l]) Q E s:=by
 refine callType_new F.called_enumerate (by decide) (F.typeCall_enumerate_1 _) (F.newCall_enumerate_1 _) (λobj=>F.args_object_init_2 obj _) F.entry_enumerate_new (VI tp l xs) ⟨hl,?_⟩
 have hz:(s.heap.push (vK tp l)).objs.size=s.heap.objs.size+1:=Dj ..;show _/\_;have he:((s.heap.push (vK tp l)).push { cls:=.type "enumerate",data:=.fields #[.none,.bool false,.ref s.heap.objs.size,Fz 0,.none,.none] }).get? (s.heap.push (vK tp l)).objs.size=Ab _:=AT _ rfl;rw[hz] at he ⊢;exact⟨⟨_,he,rfl⟩,h _ he (gF (Ah _ (AT _ rfl))) λb o x=>Ah _ (Ah _ x)⟩
end
def Ite (tp:Ar)(K:Aj)(a:Af):It:=
  ⟨λi H=>∃ xs x,Sq tp K H a xs/\xs[i]? = Ab x,
   λi H v H'=>∃ T x,v=.ref T/\H T=none/\H'=upd H T (.tup [.int i,x])/\∀ xs,Sq tp K H a xs->xs[i]? = Ab x,
   λi H=>∃ xs,Sq tp K H a xs/\xs.length<=i⟩
def ZQ (tp:Ar)(e it l:Af)(k:Ai)(h:Bs):Prop:=∃ old,Ug h e it k old/\zF tp h it l k
theorem Y7 {P:Bc}{w:Bx}{K:Aj}{elts:Aa Bw}{x1:Ai}{tpos:Ey}{e it a:Af}(ne:e≠it):Turn P w K (.Tuple elts x1 tpos) (Ite tp K a) [e,it] e (ZQ tp e it a) where
 mem:=by simp
 obj:=λk h st c hc=>by
  obtain⟨old,s1,s2⟩:=st;simp only[Az,Dq,Hc] at hc;rcases hc with rfl|rfl
  .exact⟨_,s1,λv y=>by cases y⟩
  .exact s2.there
 keep:=λk h h' st kp=>by
  obtain⟨old,s1,s2⟩:=st;exact⟨old,kp e (by simp) _ s1,s2.keep λo q=>kp it (by simp) o q⟩
 item:=by
  intro X hP hw hK hc k pins s σ H E Iv hf st hg;subst hP hw hK;obtain⟨old,s1,s2⟩:=st;obtain⟨xs,x,qa,hx⟩:=hg;obtain⟨ia,ra,ha⟩:=qa.at Iv;obtain⟨u,hu,ru⟩:=ra.get hx;have hT:s.TypeIs (.ref e) "enumerate":=⟨_,s1,rfl⟩;unfold Ng;refine Ad (Kn (Ef (name:=Hy "__next__") hT Kw (Ea Kw hT Tq
   (XB s1 s2 ha (by simpa using hu) ne λh' a1 a2 a3 a4 a5=>An ?_) (Sy _))))
  refine⟨_,rfl,wpAny_letOwnedTupleGo_enum (s:={ s with heap:=h',toks:=s.toks+1 }) a1 λh2 b1 b2=>?_⟩
  have up:∀ c o,c≠e->h'.get? c=Ab o->h2.get? c=Ab o:=λc o n q=>(b2.2 c n).trans q;have el:e<s.heap.objs.size:=Ay s1;have T2:Ja h2 s.heap.objs.size (.int k s.toks) u:=up _ _ (Fv el) a3;have st2:ZQ tp e it a (k+1) h2:=⟨u,b1,a2.keep λo q=>up _ o ne.symm q⟩;refine⟨.ref s.heap.objs.size,upd H s.heap.objs.size (.tup [.int k,x]),?_,rfl,⟨_,x,rfl,Iv.hok.fresh (Ax _),rfl,λzs qz=>by rw[qz.inj Iv qa];exact hx⟩,st2,λc hc=>?_⟩
  .have:=Inv.turnLay (fp:=[e,it]) (its:=[.int k s.toks,u]) (h':=h2) (xs:=[.int k,x]) Iv hf (λc o hc q=>by
    simp only[Az,Dq,Hc,Wh] at hc;exact up c o hc.1 (a5 c o hc.1 hc.2 q)) (λc hc=>by
    obtain⟨old',t1,t2⟩:=st2;simp only[Az,Dq,Hc] at hc;rcases hc with rfl|rfl
    .exact⟨_,t1⟩
    .obtain⟨o,q,_⟩:=t2.there;exact⟨o,q⟩) (Ax _) (.cons ⟨_,rfl⟩ (.cons ru .nil)) ⟨_,T2,rfl,_,rfl⟩ (by show 2<=sizeLine;decide)
   exact this.tok (s.toks+1)
  .have hn:=(hf c hc).1
   rw[qH ?_]
   .exact hn
   .rintro rfl
    obtain⟨o,q,_⟩:∃ o,s.heap.get? s.heap.objs.size=Ab o/\Ps:=by
     simp only[Az,Dq,Hc] at hc;rcases hc with z|z
     .exact⟨_,z▸s1,trivial⟩
     .obtain⟨o,e',_⟩:=s2.there;exact⟨o,z▸e',trivial⟩
    exact absurd (Ay q) (Du _)
 done:=by
  intro X hP hw hK hc k pins s σ H E Iv hf st hg;subst hP hw hK;obtain⟨old,s1,s2⟩:=st;obtain⟨xs,qa,hend⟩:=hg;obtain⟨ia,ra,ha⟩:=qa.at Iv;have hT:s.TypeIs (.ref e) "enumerate":=⟨_,s1,rfl⟩;have l1:=ra.length;unfold Ng;refine Ad (Kn (Ef (name:=Hy "__next__") hT Kw (Ea Kw hT Tq ?_ (Sy _))));show Ap _ _ (field (.ref e) 2 >>= _) _ _ _;refine Ad (Ej s1 rfl (x:=.ref it) rfl (Ad (uS (Iv.ok.hd hc) s2 ha (by simp;omega) λh' x kp hx'=>?_)))
  obtain⟨o,ho,hcl⟩:=hx';refine Ad (Ln (T:="StopIteration") (b:=true) ⟨o,ho,hcl⟩ Uy (An ⟨rfl,Inv.turnL (fp:=[e,it]) Iv hf λc o hc q=>?_⟩));simp only[Az,Dq,Hc,Wh] at hc;exact kp c o hc.2 q
 self:=λ_ _ _ _ _ st h=>by
  obtain⟨old,s1,_⟩:=st;exact Ya s1 h
def yL (xs:Aa D):Aa D:=xs.mapIdx λi x=>D.tup [.int i,x]
def K4 (ds:Aa D):Al (Aa D):=match ds with
 |[.tup xs]=>Ab (yL xs)
 |[.lst xs]=>Ab (yL xs)
 |_=>none
def sS (f:DA):DI:=λenv S=>(f env S).bind λds S1=>yG (K4 ds) S1
theorem XA (xs:Aa D)(i:Ai):(yL xs)[i]? = (xs[i]?).map λx=>D.tup [.int i,x]:=by
 unfold yL;rw[List.getElem?_mapIdx]
theorem pT (xs:Aa D):(yL xs).length=xs.length:=by simp[yL]
theorem VX {K:Aj}{P:Hp}{α:Aa Af}{a:Af}{xs:Aa D}(qa:Sq tp K P a vs)(ta:qC K P α xs vs):ItD K (Ite tp K a) P α (yL xs) where
 go:=λi H P1 α1 S hi r e _=>by
  rw[pT] at hi;have h1:i<vs.length:=by rw[<- ta.length];omega
  exact⟨vs,vs[i],qa.mono (e.trans r.sub),by simp⟩
 yld:=λi H x H' P1 α1 S hi r e e2 y=>by
  obtain⟨T,u,rfl,hT,rfl,hu⟩:=y;rw[pT] at hi;obtain⟨v1,z1,p1⟩:=ta.get (Am hi);have eu:=hu vs (qa.mono (e.trans r.sub));rw[z1] at eu;cases eu;obtain⟨r1,s1⟩:=r.pure (o:=.tup [.int i,u]) hT;refine⟨_,.tup [.int i,xs[i]],?_,r1,s1,?_⟩
  .rw[XA,Am hi];rfl
  .exact fE (.of qR) (.cons (by simp only[Rep]) (.cons (Rep.mono (e.trans s1) e2 _ _ p1) .nil))
 stop:=λi H P1 α1 S hi r e _=>by
  rw[pT] at hi;have l1:=ta.length;exact⟨vs,qa.mono (e.trans r.sub),by omega⟩
section
variable {X:Cx}{e1:Bw}{elts:Aa Bw}{x1:Ai}{tpos:Ey}{f:DA}{p pos:Ey}
theorem Sq.obj {pins:Aa (Af × Cj)}{σ:_L.St}{H:Hp}{s:Ag}{a:Af}{xs:Aa V}(I:Inv X pins σ H s)(q:Sq tp X.K H a xs):∃ its:Aa Ac,qL xs its/\∃ n dct sl,s.heap.get? a=Ab { cls:=.type (if tp then "tuple" else "list"),dict:=dct,data:=.seq its.toArray n,slots:=sl }:=by
 obtain⟨its,rv,h⟩:=q.at I;refine⟨its,rv,?_⟩;cases tp with
 |true =>
  obtain⟨o,ho,hc,n,hd⟩:=h;obtain⟨c,d,dt,sl⟩:=o;dsimp only at hc hd;subst hc;subst hd;exact⟨n,_,_,ho⟩
 |false =>
  obtain⟨o,ho,hc,n,hd⟩:=h;obtain⟨c,d,dt,sl⟩:=o;dsimp only at hc hd;subst hc;subst hd;exact⟨n,_,_,ho⟩
theorem aS {pins:Aa (Af × Cj)}{σ:_L.St}{H P:Hp}{α:Aa Af}{S:Sto}{s:Ag}{a:Af}{xs:Aa D}(I:Inv X pins σ H s)(r:Rel X.K H P α S)(qa:Sq tp X.K P a vs)(ta:qC X.K P α xs vs)
  (q:OkI X P α R (yL xs) S):Ap (As X.prog X.w) X.A (call (.type "enumerate") [.ref a]) (λv s1=>Ap (As X.prog X.w) X.A (Od v) (PIE X pins σ (.Tuple elts x1 tpos) R) X.xe s1) X.xe s:=by
 obtain⟨ia,ra,ha⟩:=Sq.obj I (qa.mono r.sub);refine ZX (tp:=tp) ha λh' z1 z2 z7=>?_;refine Ya (s:={ s with heap:=h' }) z1 ?_
 refine⟨_,[s.heap.objs.size+1,s.heap.objs.size],_,_,H,rfl,I.kept (t':=s.toks) z7,Y7 (tp:=tp) (a:=a) (by intro z;simp at z),⟨_,z1,z2⟩,λc hc=>?_,q _ _ P α r (qD.refl _) (Bg _) (VX qa ta)⟩
 have hl:s.heap.objs.size<=c:=by
  simp only[Az,Dq,Hc] at hc;rcases hc with rfl|rfl <;> simp
 exact I.fpOk hl (I.hok.fresh hl)
theorem nM:Fu "enumerate" = Ab (.type "enumerate"):=by decide +kernel
theorem VH (h:K4 ds=Ab its):∃ d xs,ds=[d]/\ItV d xs/\its=yL xs:=by
 cases ds with
 |nil=>exact nn h
 |cons d ds =>
  cases ds with
  |cons _ _=>cases d <;> exact nn h
  |nil =>
   cases d with
   |tup xs=>exact⟨_,xs,rfl,.tup rfl,(Cs h).symm⟩
   |lst xs=>exact⟨_,xs,rfl,.lst rfl,(Cs h).symm⟩
   |_=>exact nn h
theorem P7 (hg:Gl X "enumerate")(hm:X.mg "enumerate" = none)(ha:PA X [e1] (tDA X f))(hs:Bm [e1] X.env=(false,eval e1 X.env)::Bm [] X.env:=by rfl)(hpl:(Ft pos (Bm [] X.env)).any (·.1)=false:=by rfl) :
  PI X (.Tuple elts x1 tpos) (.Call (.Name "enumerate" p) [e1] [] pos) (tDI X (sS f)):=by
 intro pins s σ H R I h;obtain⟨P,α,env,S,r,re,af⟩:=h;refine Call_ (vO I hg hm nM (Ha (thn (wA ha I r re af pos) λus s1 ⟨vs,H1,P1,α1,ds,S1,I1,rv,r1,re1,rp,e1,e2,af1⟩=>?_) hs hpl));obtain⟨its,hi,q⟩:=vD af1;obtain⟨d,xs,rfl,hd,rfl⟩:=VH hi;obtain⟨v,u,rfl,rfl,p1,q1⟩:=yA rp rv;cases hd with
 |tup ed =>
  subst ed;simp only[Rep] at p1;obtain⟨a,va,rfl,qa,ta⟩:=p1;cases (show u=Cw a from q1)
  exact aS (tp:=true) I1 r1 qa ta (q.base e1 e2)
 |lst ed =>
  subst ed;simp only[Rep] at p1;obtain⟨a,va,rfl,qa,ta⟩:=p1;cases (show u=Cw a from q1)
  exact aS (tp:=false) I1 r1 qa.l ta (q.base e1 e2)
end
section
variable {X:Cx}
def xV:D->Aa D->Sto->Res D:=λa ds S=>match a,ds with
 |.loc n,[i,x]=>match S[n]? with
  |some (.dct kvs)=>match yF i with
   |some k=>match x8 kvs k with
    |some d=>.ok d S
    |none=>if kvs.length<lim then .ok x (S.set n (.dct (yO kvs k x))) else .bad
   |none=>.bad
  |_=>.bad
 |_,_=>.bad
theorem fJ (a b c:Ac):Zb "dict.setdefault" ⟨[a,b,c],[]⟩:=by unfold Zb;kernel_rfl
inductive SdV (a:D)(ds:Aa D)(S:Sto):Prop
 |bad (e:xV a ds S=.bad)
 |of (n:Ai) (i x:D) (kvs:Aa (Key × D)) (k:Key) (ea:a=.loc n) (ed:ds=[i,x]) (hS:S[n]? = Ab (.dct kvs)) (hk:yF i=Ab k) (e:xV a ds S=(match x8 kvs k with|some d=>.ok d S|none=>if kvs.length<lim then .ok x (S.set n (.dct (yO kvs k x))) else .bad))
theorem sdV (a:D)(ds:Aa D)(S:Sto):SdV a ds S:=by
 cases a with
 |loc n =>
  cases ds with
  |nil=>exact .bad rfl
  |cons i ds =>
   cases ds with
   |nil=>exact .bad rfl
   |cons x ds =>
    cases ds with
    |cons _ _=>exact .bad rfl
    |nil =>
     have z:xV (.loc n) [i,x] S=(match S[n]? with|some (.dct kvs)=>(match yF i with|some k=>(match x8 kvs k with|some d=>.ok d S|none=>if kvs.length<lim then .ok x (S.set n (.dct (yO kvs k x))) else .bad)|none=>.bad)|_=>.bad):=rfl
     cases hS:S[n]? with
     |none=>rw[hS] at z;exact .bad z
     |some m =>
      rw[hS] at z;cases m with
      |dct kvs =>
       cases hk:yF i with
       |none=>rw[hk] at z;exact .bad z
       |some k=>rw[hk] at z;exact .of n i x kvs k rfl rfl hS hk z
      |_=>exact .bad z
 |_=>exact .bad rfl
theorem W7:MtD X "dict.setdefault" xV:=by
 intro pins σ H s P α S v vv vs us a ds Q I r rv p rvs rps af;cases sdV a ds S with
 |bad e=>rw[e] at af;exact Ao af
 |of n i x kvs k ea ed hS hk e =>
  rw[e] at af;subst ea ed;clear e;obtain⟨vi,vx,ui,ux,rfl,rfl,pi,px,qi,qx⟩:=gV rps rvs;simp only[Rep] at p;obtain⟨b,rfl,q⟩:=p;obtain⟨ws,z,t⟩:=r.at' n b _ q hS;cases eP hk pi;cases (show vv=Cw b from rv)
  obtain⟨hz,hd,us',rel,dd⟩:=tB I.hok z;have hz':us'.length<=sizeLine:=by rw[<- rel.length];exact hz
  obtain⟨k1,k2⟩:=lD (k:=k) t;have er:=rel.val k;refine call_meetsIn Px dd.typeIs PySem.F.entry_dict_setdefault (fJ _ _ _) (kt_meets_setdefault (zH X.prog X.w) b (bX qi) hd ux) ⟨us',dd,hz',λv' hv'=>?_,λhn h' dd' hs=>?_⟩
  .cases hv:x8 kvs k with
   |none =>
    rw[k2 hv,hv'] at er;exact Ao er
   |some d =>
    obtain⟨w',e1,e2⟩:=k1 d hv;rw[hv] at af;rw[e1,hv'] at er;exact⟨w',H,I.tok _,er,xr af r e2⟩
  .cases hv:x8 kvs k with
   |some d =>
    obtain⟨w',e1,e2⟩:=k1 d hv;rw[e1,hn] at er;exact Ao er
   |none =>
    rw[hv] at af;obtain⟨hl,af⟩:=xW (X:=X) af;have hl':(yP ws k vx).length<=sizeLine:=by
     have:=jO ws k vx;have e3:=lC t;rw[<- zV];lia
    have he:∃ q,h'.get? b=Ab q:=let ⟨q,_,_,hq,_⟩:=dd';⟨q,hq⟩
    have I':=nR (t':=s.toks+1) I (by rw[z];exact Jg) hs he (X9 hl' hd (rel.put k qx) dd')
    exact⟨vx,_,I',qx,af _ _ P α (r.put (m':=.dct (yO kvs k x)) q hS (by intro z;cases z) ⟨_,qR,iJ px t⟩) (qD.refl _) (Bg _) px⟩
def xI:Aa D->Al (Aa Ak)
 |[]=>Ab []
 |.int i::r=>(xI r).map (i::·)
 |_::_=>none
theorem dP (ns:Aa Ak):xI (ns.map D.int)=Ab ns:=by
 induction ns with
 |nil=>rfl
 |cons n r ih=>exact congrArg (Option.map (n::·)) ih
theorem uO:∀ {ds:Aa D} {ns:Aa Ak},xI ds=Ab ns->ds=ns.map D.int
 |[],ns,h=>by cases h;rfl
 |d::r,ns,h=>by
  cases d with
  |int i =>
   obtain⟨m,h1,rfl⟩:=Co.mp (show (xI r).map (i::·)=Ab ns from h)
   rw[uO h1];rfl
  |_=>exact nn h
theorem vN {K:Aj}{P:Hp}{α:Aa Af}:∀ {ns:Aa Ak} {vs:Aa V},qC K P α (ns.map D.int) vs->vs=ns.map V.int
 |[],vs,r=>by rw[r.nil_inv];rfl
 |n::ns,vs,r=>by
  obtain⟨w,ws,rfl,p,t⟩:=r.cons_inv;simp only[Rep] at p;rw[p,vN t];rfl
def l6:G2:=λa b S=>match a,b with
 |.tup xs,.tup ys=>match xI xs,xI ys with
  |some ns,Ab ms=>.ok (.bl (_H.lexLt ns ms)) S
  |_,_=>.bad
 |_,_=>gLt a b S
def l4:G2:=λa b S=>match a,b with
 |.tup xs,.tup ys=>match xI xs,xI ys with
  |some ns,Ab ms=>.ok (.bl (_H.lexLt ms ns)) S
  |_,_=>.bad
 |_,_=>gGt a b S
end
section
open PySem.SeqAt
open PySem.AutoSeq1 (wpAny_loadPart')
open PySem.MeetsSeq PySem.MeetsSeq2 PySem.MeetsSeq3
theorem JB (A:Bk)(s:Ag)(a:Ak)(t:Qf)(c:Ak)(u:Qf)(prog:Bc)(w:Bx)(E:Ac->Ag->Prop)(Q:Ac->Ag->Prop)(h:Q (.bool (decide (a>c))) s) :
  Ap (As prog w) A (Yr .Gt (.int a t) (.int c u)) Q E s:=
 (PyProof.Rows.gt_int h:Ap (As prog w) A (Ct .Gt (.int a t) (.int c u)) Q E s)
theorem sM (l b:Af)(items items2:Aw Ac)(n n2:Ai)(dd dd2:Al Af)(sl sl2:Aw (Al Ac))(ns ms:Aa Ak)(hi:Gw items.toList ns)(hj:Gw items2.toList ms) :
  Meets (Ik.«tuple.__gt__» ⟨[.ref l,.ref b],[]⟩)
   (λ_ R s=>s.heap.get? l=Ab { cls:=.type "tuple",dict:=dd,data:=.seq items n,slots:=sl } /\ s.heap.get? b=Ab { cls:=.type "tuple",dict:=dd2,data:=.seq items2 n2,slots:=sl2 } /\
    R (.ok (.ret (.bool (_H.lexLt ms ns)))) s):=
 .of_wp λprog w A R s h=>by
  obtain⟨hp,g,d,tk,os⟩:=s;obtain⟨hl,hb,h⟩:=h;have f2:=Ml;have z1:items.size=ns.length:=by rw[<- hi.length];simp
  have z2:items2.size=ms.length:=by rw[<- hj.length];simp
  wp_walk using wpAny_loadPart' hl,wpAny_loadPart' hb,Hk _ (λrest b s'=>b.1=none/\s'=⟨hp,g,d,tk,os⟩/\∃ (vs ws:Aa Ac) (ns' ms':Aa Ak),rest=vs.zip ws /\
   Gw vs ns'/\Gw ws ms'/\ns'.length+items2.size=ms'.length+items.size/\R (.ok (.ret (.bool (_H.lexLt ms' ns')))) ⟨hp,g,d,tk,os⟩) _
  case turn =>
   rintro⟨y,x⟩ rest b s' ⟨hb',rfl,vs,ws,ns',ms',hz,hvi,hwi,hlen,hR⟩;cases hvi with
   |nil=>rw[Xs] at hz;cases hz
   |cons a t hvi' =>
    cases hwi with
    |nil=>rw[Wm] at hz;cases hz
    |cons c u hwi' =>
     rw[Gp] at hz;injection hz with hyx hrest
     injection hyx with hy hx
     subst hy hx;rw[_H.lexLt_cons] at hR;simp only[By] at hlen;obtain⟨e,he,hiff⟩:=_H.eqAt_int A.in1 ⟨hp,g,d,tk,os⟩ a t c u;refine Ad (he prog w _ _ ?_);cases e with
     |true =>
      rw[Bf (hiff.mp rfl).symm] at hR
      wp_walk
      exact⟨rfl,rfl,_,_,_,_,hrest,hvi',hwi',by lia,hR⟩
     |false =>
      rw[Bb (λq=>absurd (hiff.mpr q.symm) Go)] at hR;have hri:=JB A.in1 ⟨hp,g,d,tk,os⟩ a t c u prog w
      wp_walk using hri
      exact⟨_,rfl,by simpa using hR⟩
  case fin =>
   rintro⟨b1,b2⟩ s' ⟨hb',rfl,vs,ws,ns',ms',hz,hvi,hwi,hlen,hR⟩;simp only at hb';subst hb';have hv:_H.lexLt ms' ns'=decide (items2.size<items.size):=by
    cases hvi with
    |nil =>
     cases hwi with
     |nil =>
      simp only[Ec] at hlen;rw[_H.lexLt_nil_nil];exact(Cb li).symm
     |cons c u hw =>
      simp only[Ec,By] at hlen;rw[_H.lexLt_cons_nil];exact(Cb li).symm
    |cons a t hv =>
     cases hwi with
     |nil =>
      simp only[Ec,By] at hlen;rw[_H.lexLt_nil_cons];exact(Cd li).symm
     |cons c u hw =>
      rw[Gp] at hz;cases hz
   rw[hv] at hR
   wp_walk
   exact⟨_,rfl,by simpa [Jw] using hR⟩
  case h =>
   exact⟨rfl,rfl,items.toList,items2.toList,ns,ms,rfl,hi,hj,by lia,h⟩
end
section
variable {X:Cx}
theorem QH {prog:Bc}{w:Bx}{A:Bk}{E:Ac->Ag->Prop}{s:Ag}{l b:Af}{items items2:Aw Ac}{ms:Aa Ak}(hl:Qg s.heap l items)(hb:Qg s.heap b items2)(hi:Gw items.toList ns)(hj:Gw items2.toList ms)
  (hu:A.units<Ee) (h:Q (.bool (_H.lexLt ms ns)) s):Ap (As prog w) A (Ct .Gt (.ref l) (.ref b)) Q E s:=by
 obtain⟨⟨cls,dd,data,sl⟩,ho,hc,n,hd⟩:=id hl;obtain⟨⟨cls2,dd2,data2,sl2⟩,ho2,hc2,n2,hd2⟩:=id hb;simp only at hc hd hc2 hd2;subst hc hd hc2 hd2;exact Nu (op:=.Gt) ⟨_,ho,rfl⟩ ⟨_,ho2,rfl⟩ PySem.F.slot_tuple_gt PySem.F.entry_tuple_gt (PySem.F.args_tuple_gt_2 _ _) (sM l b items items2 n n2 dd dd2 sl sl2 ns ms hi hj)
  ⟨ho,ho2,show Ic (_H.lexLt ms ns)≠Pb/\Q (.bool (_H.lexLt ms ns)) s from⟨(λx=>nomatch x),h⟩⟩ hu
theorem gZ {pins:Aa (Af × Cj)}{σ:_L.St}{H P:Hp}{α:Aa Af}{S:Sto}{s:Ag}{xs:Aa D}{v:V}{vv:Ac}(I:Inv X pins σ H s)(r:Rel X.K H P α S)(rv:qJ v vv)(p:Rep X.K P α (.tup xs) v)(h:xI xs=Ab ns) :
  ∃ a its,vv=.ref a/\Qg s.heap a (List.toArray its)/\Gw its ns:=by
 have:=uO h;subst this;obtain⟨a,vs,its,rfl,q1,t1,rv1,h1,l1,_⟩:=vQ I r p;have:=vN t1;subst this;exact⟨a,its,rv,h1,by simpa using gD rv1⟩
set_option tactic.hygienic true in
theorem SJ (hu:X.A.units<Ee):OpD X (Ct .Lt) l6:=by
 intro pins σ H s P α S v u vv uu a b Q I r rv ru pa pb af;unfold l6 at af
 split at af
 .rename_i xs ys
  split at af
  .rename_i ns ms h1 h2
   obtain⟨a,its,rfl,t1,i1⟩:=gZ I r rv pa h1;obtain⟨b,its2,rfl,t2,i2⟩:=gZ I r ru pb h2;exact _H.lt_tupInts t1 t2 (by simpa using i1) (by simpa using i2) hu ⟨.bl _,H,I,rfl,xr af r (by simp only[Rep])⟩
  .exact Ao af
 .exact KO pins σ H s P α S v u vv uu a b Q I r rv ru pa pb af
set_option tactic.hygienic true in
theorem SI (hu:X.A.units<Ee):OpD X (Ct .Gt) l4:=by
 intro pins σ H s P α S v u vv uu a b Q I r rv ru pa pb af;unfold l4 at af
 split at af
 .rename_i xs ys
  split at af
  .rename_i ns ms h1 h2
   obtain⟨a,its,rfl,t1,i1⟩:=gZ I r rv pa h1;obtain⟨b,its2,rfl,t2,i2⟩:=gZ I r ru pb h2;exact QH t1 t2 (by simpa using i1) (by simpa using i2) hu ⟨.bl _,H,I,rfl,xr af r (by simp only[Rep])⟩
  .exact Ao af
 .exact KN pins σ H s P α S v u vv uu a b Q I r rv ru pa pb af
end
section
variable {X:Cx}
def sU:DF:=λds S=>match ds with
 |[.int a,.int b]=>.ok (.int (if b>a then b else a)) S
 |_=>.bad
def jC:DF:=λds S=>match ds with
 |[.int a,.int b]=>.ok (.int (if b<a then b else a)) S
 |_=>.bad
inductive Two (ds:Aa D):Prop
 |no (h:∀ (g:Ak->Ak->Res D),(match ds with|[.int a,.int b]=>g a b|_=>.bad)=.bad)
 |of (a b:Ak) (ed:ds=[.int a,.int b])
theorem JR (ds:Aa D):Two ds:=by
 cases ds with
 |nil=>exact .no λ_=>rfl
 |cons d ds =>
  cases d with
  |int a =>
   cases ds with
   |nil=>exact .no λ_=>rfl
   |cons e ds =>
    cases e with
    |int b =>
     cases ds with
     |nil=>exact .of a b rfl
     |cons _ _=>exact .no λ_=>rfl
    |_=>exact .no λ_=>rfl
  |_=>exact .no λ_=>rfl
theorem GE (hc:X.calm=true):xA X (.builtin "max") sU:=by
 intro pins σ H s P α S vs us ds Q I r rv rp af;cases JR ds with
 |no h=>exact(rG (X:=X) (r:=sU ds S) (h _) af).elim
 |of a b ed =>
  subst ed;obtain⟨v,w,u,x,rfl,rfl,p,p',q,q'⟩:=gV rp rv;cases zT p;cases zT p';obtain⟨t,rfl⟩:=q;obtain⟨t',rfl⟩:=q';refine max_two_ints (I.ok.hd hc) λh' tk hk=>?_;have I':Inv X pins σ H { s with heap:=h',toks:=tk }:=I.kept (t':=tk) hk
  by_cases hb:b>a
  .rw[Bf hb]
   exact⟨.int b,H,I',⟨t',rfl⟩,xr af r (by simp only[Rep];rw[Bf hb])⟩
  .rw[Bb hb]
   exact⟨.int a,H,I',⟨t,rfl⟩,xr af r (by simp only[Rep];rw[Bb hb])⟩
theorem GG (hc:X.calm=true):xA X (.builtin "min") jC:=by
 intro pins σ H s P α S vs us ds Q I r rv rp af;cases JR ds with
 |no h=>exact(rG (X:=X) (r:=jC ds S) (h _) af).elim
 |of a b ed =>
  subst ed;obtain⟨v,w,u,x,rfl,rfl,p,p',q,q'⟩:=gV rp rv;cases zT p;cases zT p';obtain⟨t,rfl⟩:=q;obtain⟨t',rfl⟩:=q';refine min_two_ints (I.ok.hd hc) λh' tk hk=>?_;have I':Inv X pins σ H { s with heap:=h',toks:=tk }:=I.kept (t':=tk) hk
  by_cases hb:b<a
  .rw[Bf hb]
   exact⟨.int b,H,I',⟨t',rfl⟩,xr af r (by simp only[Rep];rw[Bf hb])⟩
  .rw[Bb hb]
   exact⟨.int a,H,I',⟨t,rfl⟩,xr af r (by simp only[Rep];rw[Bb hb])⟩
end
section
variable {K:Aj}{H P:Hp}{α : Aa Af}{S:Sto}
theorem Rel.still {a:Af}{n:Ai}{m:MO}{o:HO}(r:Rel K H P α S)(ha:α[n]? = Ab a)(hs:S[n]? = Ab m)(hd:m≠.dead):Rel K (upd H a o) (upd P a o) α (S.set n .dead)/\qD P (upd P a o):=by
 have hP:=r.sep n a m ha hs hd;have sP:qD P (upd P a o):=gW hP;have r1:=r.put (o:=o) (m':=.dead) ha hs hd trivial;have hn:n<S.length:=(Bd.mp hs).1;refine⟨⟨r1.tb.keep (λ_ _ q _=>q) λb u q _ p n=>⟨(qH λ(z:b=a)=>n (by rw[z];exact Bu ha)).trans p,n⟩,λb u e=>?_,r1.len,r1.nd,λi b u q1 q2 q3=>?_,λi b u q1 q2=>(r1.at' i b u q1 q2).mono sP (Bg _),r1.own⟩,sP⟩
 .by_cases hb:b=a
  .subst hb;rw[qR] at e ⊢;exact e
  .rw[qH hb] at e ⊢;exact r.sub _ _ e
 .have hb:b≠a:=by
   rintro rfl;have:=dY r.nd q1 ha;subst this;rw[Er hn] at q2;cases q2;exact q3 rfl
  rw[qH hb];exact r1.sep i b u q1 q2 q3
end
def qAo (f:DE):DI:=λenv S=>(f env S).bind λd S1=>match d with
 |.loc n=>match S1[n]? with
  |some (.dct kvs)=>.ok (kvs.map (·.2)) (S1.set n .dead)
  |_=>.bad
 |_=>.bad
theorem iK {K:Aj}{P:Hp}{α:Aa Af}:∀ {kvs:Aa (Key × D)} {vs:Aa (Key × V)},KVs K P α kvs vs->qC K P α (kvs.map (·.2)) (vs.map (·.2))
 |_,_,.nil=>.nil
 |_,_,.cons z t=>.cons z.2 (iK t)
section
variable {X:Cx}{tg o:Bw}{fo:DE}{apos cpos:Ey}
theorem cP {S:Sto}{n:Ai}{kvs:Aa (Key × D)}(h:S[n]? = Ab (.dct kvs)):tyD (.loc n) S=Ab "dict":=by
 show (match S[n]? with|some (.lst _)=>Ab "list" | some (.dct _)=>Ab "dict" | _=>none)=_
 rw[h]
end
section
variable {X:Cx}
def NW (ns:Aa Ak):Ai:=(ns.foldl step_dedup []).length
theorem YN:Fu "set" = Ab (.type "set"):=by decide +kernel
variable {e:Bw}{fa:DE}{p1 p2 pos1 pos2:Ey}
end
structure QI2 (X:Cx)(tg it:Bw)(f:DI2):Prop where
 get:PI X tg it (tDI2 X f)
structure QK (B:Acc)(Y:Cx)(step:Ac->Ke Uv)(k:DK):Prop where
 get:PK B Y step k
section
variable {B:Acc}{X Y:Cx}{tg it e o elt iter ie:Bw}{es ifs rest:Aa Bw}{fa fo fe fi:DE}{fA:DA}{fI:DI}{f2:DI2}{g:DG}{t:DT}{kk:DK}{p pos:Ey}{n k:Ai}{x:Aq}{cm:Ar}{F:DF}{f:DS}{gens grest:Aa Dx}{scope:Ei}{N':Aa Aq}{cap:Aa (Al Ai)}{mm:Ar}
theorem RZ (h:QI X tg it fI):QI2 X tg it (wG fI):=⟨P8 h.1⟩
theorem RY (h:QE X e fa):QI2 X tg e (dIt fa):=⟨HV h.1⟩
theorem FS {e1:Bw}{elts:Aa Bw}{x1:Ai}{tpos:Ey}(hg:Gl X "enumerate")(hm:X.mg "enumerate" = none)(ha:QA X [e1] fA)(hs:Bm [e1] X.env=(false,eval e1 X.env)::Bm [] X.env:=by rfl)(hpl:(Ft pos (Bm [] X.env)).any (·.1)=false:=by rfl) :
  QI X (.Tuple elts x1 tpos) (.Call (.Name "enumerate" p) [e1] [] pos) (sS fA):=⟨P7 hg hm ha.1 hs hpl⟩
theorem FU (hx:Y.xe=λ_ _=>Fh)(hlast:gens[k+1]? = none)(he:QE Y elt fe):QK accL Y (λacc=>zS false elt gens scope pos k acc Y.env) (zM fe):=⟨FF hx hlast he.1⟩
theorem AL (hc:Y.calm=true)(hx:Y.xe=λ_ _=>Fh)(hgk:gens[k+1]? = Ab ⟨tg,iter,ifs,0⟩)(has:∀ g',gens[k+1+1]? = Ab g'->g'.is_async=0)(hi:QI2 Y tg iter f2)(hg:QG Y tg g)(ht:QTs Y ifs t)(he:QK B Y (λacc=>zS B.m elt gens scope pos (k+1) acc Y.env) kk)(hs:∀ x,Ep iter Y.env x=pure x) :
  QK B Y (λacc=>zS B.m elt gens scope pos k acc Y.env) (kIn f2 g t kk):=⟨AD hc hx hgk has hi.1 hg.1 ht.1 he.1 hs⟩
theorem UU (hc:X.calm=true)(S:CompSc X.env.scope X.N scope N' cap)(hi:QI2 X tg iter f2)(hg:∀ cl C ex s₀ H₀,QG (qV X N' scope cl C ex s₀ H₀) tg g)(ht:∀ cl C ex s₀ H₀,QTs (qV X N' scope cl C ex s₀ H₀) ifs t)
  (has:∀ g',(⟨tg,iter,ifs,0⟩::grest:Aa Dx)[0+1]? = Ab g'->g'.is_async=0)
  (he:∀ cl C ex s₀ H₀,QK accL (qV X N' scope cl C ex s₀ H₀) (λacc=>zS false elt (⟨tg,iter,ifs,0⟩::grest) scope pos 0 acc (qV X N' scope cl C ex s₀ H₀).env) kk) (hs:∀ x,Ep iter X.env x=pure x) :
  QE X (.ListComp elt (⟨tg,iter,ifs,0⟩::grest) scope pos) (zK mm cap f2 g t kk):=
 ⟨V3 hc S hi.1 (λcl C ex s H=>(hg cl C ex s H).1) (λcl C ex s H=>(ht cl C ex s H).1) has (λcl C ex s H=>(he cl C ex s H).1) hs⟩
theorem UZ {y:Aq}{spos:Ey}(hc:X.calm=true)(hN:X.N.Nodup)(S:CompSc X.env.scope X.N scope N' cap)(hi:QI2 X tg iter f2)(hg:∀ cl C ex s₀ H₀,QG (qV X N' scope cl C ex s₀ H₀) tg g)(ht:∀ cl C ex s₀ H₀,QTs (qV X N' scope cl C ex s₀ H₀) ifs t)
  (has:∀ g',(⟨tg,iter,ifs,0⟩::grest:Aa Dx)[0+1]? = Ab g'->g'.is_async=0)
  (he:∀ cl C ex s₀ H₀,QK accL (qV X N' scope cl C ex s₀ H₀) (λacc=>zS false elt (⟨tg,iter,ifs,0⟩::grest) scope pos 0 acc (qV X N' scope cl C ex s₀ H₀).env) kk) (hy:X.N[m]? = Ab y) (hyl:Loc X.env.scope y) (hf:X.fn y=true\/X.env.scope.names.lookup y=Ab .local)
  (hsw:Np (.ListComp elt (⟨tg,iter,ifs,0⟩::grest) scope pos) (Ab (.Name y py)) spos.line X.env=pure true) (hs:∀ x,Ep iter X.env x=pure x):QS X (.Assign [.Name y py] (.ListComp elt (⟨tg,iter,ifs,0⟩::grest) scope pos) spos) (zP (zK mm cap f2 g t kk) (gNm m)):=
 ⟨VA hc hN S hi.1 (λcl C ex s H=>(hg cl C ex s H).1) (λcl C ex s H=>(ht cl C ex s H).1) has (λcl C ex s H=>(he cl C ex s H).1) hy hyl hf hsw hs⟩
theorem JV:ZMt X "dict.setdefault" xV:=⟨W7⟩
theorem IQ (hr:RoomC cm k X.A):ZOp X (Ct .Lt) l6:=⟨SJ (by have:=hu1 hr;omega)⟩
theorem IK (hr:RoomC cm k X.A):ZOp X (Ct .Gt) l4:=⟨SI (by have:=hu1 hr;omega)⟩
end
def jQ (H:Hp):Aa (Af × HO)->Hp
 |[]=>H
 |p::ps=>jQ (upd H p.1 p.2) ps
theorem d3 {b:Af}:∀ {L:Aa (Af × HO)} {H:Hp},b ∉ L.map (·.1)->jQ H L b=H b
 |[],_,_=>rfl
 |p::ps,H,h=>by
  simp only[Dc,Az,Wh] at h;show jQ (upd H p.1 p.2) ps b=H b;rw[d3 h.2,qH h.1]
theorem cQ {b:Af}{u:HO}:∀ {L:Aa (Af × HO)} {H:Hp},jQ H L b=Ab u->(b,u)∈L\/H b=Ab u
 |[],_,h=>.inr h
 |p::ps,H,h=>by
  rcases cQ (L:=ps) (H:=upd H p.1 p.2) h with h|h
  .exact .inl (Bl _ h)
  .by_cases hb:b=p.1
   .subst hb
    rw[qR] at h;cases h;exact .inl (Cu ..)
   .rw[qH hb] at h
    exact .inr h
section
variable {X:Cx}{pins:Aa (Af × Cj)}{σ : _L.St}{H:Hp}{s:Ag}
theorem Inv.laidL {L:Aa (Af × HO)}{t':Ai}(I:Inv X pins σ H s)(k:∀ b u,s.heap.get? b=Ab u->h'.get? b=Ab u)(hp:∀ p∈L,s.heap.objs.size<=p.1)(new:∀ p∈L,zG X.prog X.w (jQ H L) h' p.1 p.2) :
  Inv X pins σ (jQ H L) { s with heap:=h',toks:=t' }:=by
 have old:∀ b u,H b=Ab u->jQ H L b=Ab u:=λb u e=>by
  rw[d3 (L:=L)]
  .exact e
  .intro hb
   obtain⟨p,hp',rfl⟩:=Bj.mp hb;rw[I.hok.fresh (hp p hp')] at e;cases e
 have low:∀ b,b<s.heap.objs.size->jQ H L b=H b:=λb hb=>d3 λhm=>by
  obtain⟨p,hp',rfl⟩:=Bj.mp hm;exact absurd (Bh hb (hp p hp')) (Du _)
 refine I.un ⟨λb u q _ _ _=>k b u q,λb u q _ _ _=>⟨u.slots,k b u q⟩,λb u q n _=>by rw[low b (Ay q)];exact n,λb u q _=>⟨u,k b u q⟩,λb xs q=>old b _ q,λb o xs q=>old b _ q,λb ps q=>⟨#[],by rw[old b _ q];simp⟩⟩ λb u e=>?_
 rcases cQ e with hm|hb
 .exact new (b,u) hm
 .exact(I.hok b u hb).stay (λc v _ q=>k c v q) (λc q=>old c _ q) λc xs q=>old c _ q
end
def kD:Key->D
 |.inl i=>.int i
 |.inr x=>.str x
theorem LZ {K:Aj}{P:Hp}{α:Aa Af}(k:Key):Rep K P α (kD k) (kV k):=by
 cases k <;> simp only[kD,kV,Rep]
theorem CB {k:Key}{u:Ac}(h:gI k u=true):qJ (kV k) u:=by
 rcases zU h with⟨i,t,rfl,rfl⟩|⟨x,t,rfl,rfl⟩
 .exact⟨t,rfl⟩
 .exact⟨t,rfl⟩
theorem XW {κ:Type}:∀ {vs:Aa (κ × V)} {us:Aa (κ × Ac)},KV vs us->∀ {j:Ai} {q:κ × V},vs[j]? = Ab q->∃ u,us[j]? = Ab (q.1,u)/\qJ q.2 u
 |_,_,.nil,j,q,h=>by simp at h
 |_,_,.cons (a:=x) (b:=y) z t,j,q,h=>by
  cases j with
  |zero =>
   simp at h;subst h;exact⟨y.2,by simp;exact Wg z.1.symm rfl,z.2⟩
  |succ j =>
   obtain⟨u,e1,e2⟩:=XW t (j:=j) (q:=q) (by simpa using h)
   exact⟨u,by simpa using e1,e2⟩
section
variable {X:Cx}{cm:Ar}{k:Ai}
theorem HB (hc:X.calm=true):ZCall X (.builtin "max") sU:=⟨GE hc⟩
theorem HD (hc:X.calm=true):ZCall X (.builtin "min") jC:=⟨GG hc⟩
end
end _D
namespace _S
open PySem
variable {mask:Ai}{xs:Aw Ai}
def Rs (xs:Aw Ai):Prop:=xs.toList.Pairwise (· < ·)
theorem Rs.lt (h:Rs xs){a b:Ai}{x y:Ai}(hab:a<b)(ha:xs[a]? = Ab x)(hb:xs[b]? = Ab y):x<y:=by
 obtain⟨h1,e1⟩:=Dv.mp ha;obtain⟨h2,e2⟩:=Dv.mp hb;have:=Jn.mp h a b (by simpa using h1) (by simpa using h2) hab
 rw[<- e1,<- e2];simpa using this
theorem getD_some {i x d:Ai}(h:xs[i]? = Ab x):xs.getD i d=x:=by
 obtain⟨h1,e1⟩:=Dv.mp h;simp[Ge,h1,e1]
structure Bel (xs:Aw Ai)(j p:Ai):Prop where
 le:p<=xs.size
 lo:∀ i x,i<p->xs[i]? = Ab x->x<j
 hi:∀ i x,p<=i->xs[i]? = Ab x->j<=x
set_option tactic.hygienic true in
theorem fX (h:Rs xs)(j:Ai):∀ (fuel lo hi:Ai),hi-lo<=fuel->lo<=hi->hi<=xs.size ->
  (∀ i x,i<lo->xs[i]? = Ab x->x<j)->(∀ i x,hi<=i->xs[i]? = Ab x->j<=x)->Bel xs j (Yb xs j fuel lo hi)
 |0,lo,hi,h1,h2,h3,h4,h5=>by
  have:lo=hi:=by lia
  subst this;exact⟨h3,h4,h5⟩
 |fuel+1,lo,hi,h1,h2,h3,h4,h5=>by
  unfold Yb;by_cases hlt:lo<hi
  .rw[Bf hlt]
   have hm:(lo+hi)/2<xs.size:=by lia
   have e:xs[(lo+hi)/2]? = Ab xs[(lo+hi)/2]:=Dz hm;simp only[getD_some e]
   split
   .rename_i hc
    refine fX h j fuel _ hi (by lia) (by lia) h3 (λi x hi' ex=>?_) h5
    by_cases q:i=(lo+hi)/2
    .subst q;rw[e] at ex;cases ex;exact hc
    .exact Hz (h.lt (by lia) ex e) hc
   .rename_i hc
    refine fX h j fuel lo _ (by lia) (by lia) (by lia) h4 (λi x hi' ex=>?_)
    by_cases q:i=(lo+hi)/2
    .subst q;rw[e] at ex;cases ex;lia
    .have:=h.lt (show (lo+hi)/2<i by lia) e ex
     lia
  .rw[Bb hlt]
   have:lo=hi:=by lia
   subst this;exact⟨h3,h4,h5⟩
theorem uH (h:Rs xs)(j:Ai):Bel xs j (Ch xs j):=
 fX h j _ _ _ (by lia) (by lia) (Ax _) (λi x hi=>by lia) λi x hi ex=>by
  have:=(Dv.mp ex).1
  lia
theorem fW (h:Rs xs){i j:Ai}(e:xs[i]? = Ab j):Ch xs j=i:=by
 have b:=uH h j;have hi:=(Dv.mp e).1;by_cases h1:Ch xs j<i
 .have e2:xs[Ch xs j]? = Ab xs[Ch xs j]:=Dz (by lia)
  have:=h.lt h1 e2 e;have:=b.hi _ _ (Ax _) e2
  lia
 .by_cases h2:i<Ch xs j
  .have:=b.lo _ _ h2 e
   lia
  .lia
theorem oZ (h:Rs xs){i j:Ai}(e:xs[i]? = Ab j):Ch xs (j+1)=i+1:=by
 have b:=uH h (j+1);have hi:=(Dv.mp e).1;have h1:i<Ch xs (j+1):=by
  apply Fl;intro q;have:=b.hi _ _ (by lia) e
  lia
 by_cases h2:i+1<Ch xs (j+1)
 .have hz:i+1<xs.size:=by have:=b.le;lia
  have e2:xs[i+1]? = Ab xs[i+1]:=Dz hz;have:=b.lo _ _ h2 e2;have:=h.lt (Ga i) e e2
  lia
 .lia
theorem Q0 (h:Rs xs):Ch xs 0=0:=by
 have b:=uH h 0;apply Fl;intro q;have hz:0<xs.size:=by have:=b.le;lia
 have e2:xs[0]? = Ab xs[0]:=Dz hz;have:=b.lo _ _ (by lia) e2
 lia
structure Tb (t:Fm):Prop where
 rs:Rs t.place
 dm:t.dummies=#[]
theorem i7 (j:Ai):Xf #[] j=false:=by simp[Xf]
theorem sD {t:Fm}(T:Tb t){i j:Ai}(e:t.place[i]? = Ab j):t.slot j=.live i:=by
 unfold Aa6;simp only[fW T.rs e,e];simp
theorem Z9 {t:Fm}(T:Tb t)(j:Ai):(∃ i,t.slot j=.live i/\t.place[i]? = Ab j)\/(t.slot j=.empty/\j ∉ t.place.toList):=by
 by_cases h:j∈t.place.toList
 .obtain⟨i,hi,e⟩:=Cc.mp h
  have e':t.place[i]? = Ab j:=by rw[<- Bn,Am hi,e]
  exact .inl ⟨i,sD T e',e'⟩
 .refine .inr ⟨?_,h⟩
  unfold Aa6;simp only[T.dm,i7];rw[Bb,Bb (by simp)]
  intro q;apply h;have:t.place[Ch t.place j]? = Ab j:=by simpa using q
  obtain⟨h1,e1⟩:=Dv.mp this;rw[<- e1];simp
theorem Y3 (h:Rs xs){j:Ai}(hj:j ∉ xs.toList):Rs (DL xs (Ch xs j) j):=by
 have b:=uH h j;unfold Rs;rw[Sg];have key:∀ (i:Ai) (x:Ai),xs.toList[i]? = Ab x->(i<Ch xs j->x<j)/\(Ch xs j<=i->j<x):=λi x e=>by
  have e':xs[i]? = Ab x:=by rw[<- Bn];exact e
  refine⟨λq=>b.lo _ _ q e',λq=>?_⟩;have h1:=b.hi _ _ q e';have:x≠j:=by
   rintro rfl;exact hj (Bu e)
  lia
 have tk:∀ x∈xs.toList.take (Ch xs j),x<j:=λx hx=>by
  obtain⟨i,hi,e⟩:=Cc.mp hx;rw[Fn] at hi;rw[Rr] at e;exact(key i x (by rw[Am (by lia),e])).1 (by lia)
 have dr:∀ x∈xs.toList.drop (Ch xs j),j<x:=λx hx=>by
  obtain⟨i,hi,e⟩:=Cc.mp hx;rw[Lj] at hi;rw[Ru] at e;exact(key (Ch xs j+i) x (by rw[Am (by lia),e])).2 (by lia)
 rw[Dl,Ev];refine⟨List.Pairwise.take h,⟨dr,List.Pairwise.drop h⟩,λx hx y hy=>?_⟩;rcases Az.mp hy with rfl|hy
 .exact tk x hx
 .exact Hz (tk x hx) (dr y hy)
theorem tK {α:Type}(xs:Aw α){p:Ai}(hp:p<=xs.size)(x:α)(i:Ai):(DL xs p x)[i]? = if i<p then xs[i]? else if i=p then Ab x else xs[i-1]?:=by
 rw[<- Bn,Sg];have hl:(xs.toList.take p).length=p:=by simp;lia
 by_cases h1:i<p
 .rw[Bf h1,Be (by lia),Mk h1,Bn]
 .rw[Bb h1,Cp (by lia),hl]
  by_cases h2:i=p
  .subst h2;simp
  .rw[Bb h2]
   obtain⟨k,hk⟩:∃ k,i-p=k+1:=⟨i-p-1,by lia⟩
   rw[hk,Nb,Wv,Bn]
   congr 1;lia
theorem jN {α:Type}(xs:Aw α)(p:Ai)(x:α):(DL xs p x).size=xs.size+1:=by
 have:=(Ko xs p x).length_eq;simpa using this
theorem RF {t:Fm}(T:Tb t){j:Ai}(hj:j ∉ t.place.toList):Tb (t.put j).1:=by
 refine⟨Y3 T.rs hj,?_⟩;show (if Xf t.dummies j then _ else t.dummies)=#[]
 rw[T.dm,i7];rfl
open PySem.SetTable (Probe leap runEnd turns bits)
def adv (mask:Ai)(p:Nq):Nq:=if p.more>0 then { p with j:=p.j+1,more:=p.more-1 } else { p with j:=(leap mask p.i p.perturb).1,more:=Hg mask (leap mask p.i p.perturb).1-(leap mask p.i p.perturb).1,i:=(leap mask p.i p.perturb).1,perturb:=(leap mask p.i p.perturb).2 }
theorem TM (t:Fm)(p:Nq):t.advance p=adv t.mask p:=rfl
def it (mask:Ai):Ai->Nq->Nq
 |0,p=>p
 |n+1,p=>it mask n (adv mask p)
theorem bW (mask:Ai):∀ (n:Ai) (p:Nq),it mask (n+1) p=adv mask (it mask n p)
 |0,p=>rfl
 |n+1,p=>bW mask n (adv mask p)
theorem tN (mask:Ai):∀ (m n:Ai) (p:Nq),it mask (m+n) p=it mask n (it mask m p)
 |0,n,p=>by rw[Gy];rfl
 |m+1,n,p=>by rw[Qp];exact tN mask m n (adv mask p)
def rs (mask i pert:Ai):Nq:={ j:=i,more:=Hg mask i-i,i,perturb:=pert,dummy:=none }
def st (mask:Ai)(h:Ak):Nq:=rs mask (bits h % (mask+1)) (bits h)
theorem pY (mask i pert:Ai):∀ k,k<=Hg mask i-i->it mask k (rs mask i pert)={ j:=i+k,more:=Hg mask i-i-k,i,perturb:=pert,dummy:=none }
 |0,_=>rfl
 |k+1,hk=>by
  rw[bW,pY mask i pert k (by lia)]
  unfold adv;rw[Bf (by show Hg mask i-i-k>0;lia)]
  simp only[Probe.mk.injEq,and_true,true_and]
  lia
theorem iC (mask i pert:Ai):it mask (Hg mask i-i+1) (rs mask i pert)=rs mask (leap mask i pert).1 (leap mask i pert).2:=by
 rw[bW,pY mask i pert _ (Ax _)];unfold adv;rw[Bb (by show ¬ (Hg mask i-i-(Hg mask i-i)>0);lia)]
 rfl
theorem EF (mask i:Ai):Hg mask i-i+1<=10:=by
 unfold Hg
 split <;> lia
def lp (mask:Ai):Ai->Ai × Ai->Ai × Ai
 |0,q=>q
 |n+1,q=>lp mask n (leap mask q.1 q.2)
theorem W3 (mask:Ai):∀ (m n:Ai) (q:Ai × Ai),lp mask (m+n) q=lp mask n (lp mask m q)
 |0,n,p=>by rw[Gy];rfl
 |m+1,n,p=>by rw[Qp];exact W3 mask m n _
theorem KC (mask:Ai):∀ (n i pert:Ai),∃ k,k<=10*n/\it mask k (rs mask i pert)=rs mask (lp mask n (i,pert)).1 (lp mask n (i,pert)).2
 |0,i,pert=>⟨0,by lia,rfl⟩
 |n+1,i,pert=>by
  obtain⟨k,hk,e⟩:=KC mask n (leap mask i pert).1 (leap mask i pert).2;refine⟨(Hg mask i-i+1)+k,by have:=EF mask i;lia,?_⟩
  rw[tN,iC,e];rfl
theorem iO (mask:Ai):∀ (n i pert:Ai),(lp mask n (i,pert)).2=pert/32 ^ n
 |0,i,pert=>by simp[lp]
 |n+1,i,pert=>by
  show (lp mask n ((leap mask i pert).1,pert/32)).2=_;rw[iO mask n _ (pert/32),Nat.div_div_eq_div_mul,<- Nat.pow_succ']
theorem lH (mask i pert:Ai):(leap mask i pert).1<=mask:=Kx (Py _ (Pr _))
theorem KD (mask:Ai):∀ (n i pert:Ai),i<=mask->(lp mask n (i,pert)).1<=mask
 |0,i,pert,h=>h
 |n+1,i,pert,h=>KD mask n _ _ (lH mask i pert)
theorem aJ (h:Ak):bits h<2 ^ 64:=by
 unfold bits;have h1:(0:Ak)<=h % 2 ^ 64:=Kq _ (by decide)
 have h2:h % 2 ^ 64<(2 ^ 64:Ak):=Iw _ (by decide)
 lia
def cyc (mask:Ai):Ai->Ai->Ai
 |0,i=>i
 |n+1,i=>cyc mask n ((i*5+1) % (mask+1))
theorem bP (mask:Ai):∀ (m n i:Ai),cyc mask (m+n) i=cyc mask n (cyc mask m i)
 |0,n,p=>by rw[Gy];rfl
 |m+1,n,p=>by rw[Qp];exact bP mask m n _
theorem W4 (mask:Ai):∀ (n i:Ai),(lp mask n (i,0)).1=cyc mask n i
 |0,i=>rfl
 |n+1,i=>by
  show (lp mask n (leap mask i 0)).1=_;have:leap mask i 0=((i*5+1) % (mask+1),0):=by simp[leap]
  rw[this,W4 mask n];rfl
def Msk (mask:Ai):Prop:=mask=7\/mask=31\/mask=127\/mask=511\/mask=2047
def orb (mask:Ai):Ai->Ai->Ai->Ai
 |0,_,acc=>acc
 |n+1,i,acc=>orb mask n ((i*5+1) % (mask+1)) (acc ||| 1 <<< i)
def X4 (mask:Ai):Ar:=orb mask (mask+1) 0 0 == 2 ^ (mask+1)-1&&cyc mask (mask+1) 0 == 0
theorem X5 (h:Msk mask):X4 mask=true:=by
 rcases h with rfl|rfl|rfl|rfl|rfl <;> decide +kernel
theorem iY (mask e:Ai):∀ (n i acc:Ai),(orb mask n i acc).testBit e=true->acc.testBit e=true\/∃ m,m<n/\cyc mask m i=e
 |0,i,acc,h=>.inl h
 |n+1,i,acc,h=>by
  rcases iY mask e n _ _ h with q|⟨m,hm,q⟩
  .rw[Nat.testBit_or,Md] at q
   rcases q with q|q
   .exact .inl q
   .rw[Nat.one_shiftLeft,Nat.testBit_two_pow,Ce] at q
    exact .inr ⟨0,by lia,q⟩
  .exact .inr ⟨m+1,by lia,q⟩
theorem YY (h:Msk mask){i e:Ai}(hi:i<=mask)(he:e<=mask):∃ n,n<=mask/\cyc mask n i=e:=by
 have a:=X5 h;unfold X4 at a;rw[Av] at a;obtain⟨a1,a2⟩:=a;have a1:orb mask (mask+1) 0 0=2 ^ (mask+1)-1:=by simpa using a1
 have g:∀ e,e<=mask->∃ n,n<=mask/\cyc mask n 0=e:=λe he=>by
  have q:(orb mask (mask+1) 0 0).testBit e=true:=by rw[a1,Nat.testBit_two_pow_sub_one];simp;lia
  rcases iY mask e _ _ _ q with q|⟨n,hn,q⟩
  .simp at q
  .exact⟨n,by lia,q⟩
 have a3:cyc mask (mask+1) 0=0:=by simpa using a2
 obtain⟨m,hm,em⟩:=g i hi;obtain⟨n,hn,en⟩:=g e he;by_cases q:m<=n
 .refine⟨n-m,by lia,?_⟩
  rw[<- em,<- bP,show m+(n-m)=n by lia]
  exact en
 .refine⟨n+(mask+1)-m,by lia,?_⟩
  rw[<- em,<- bP,show m+(n+(mask+1)-m)=(mask+1)+n by lia,bP,a3]
  exact en
theorem eV (h:Msk mask){i pert e:Ai}(hi:i<=mask)(hp:pert<2 ^ 64)(he:e<=mask):∃ n,n<=mask+13/\(lp mask n (i,pert)).1=e:=by
 have h0:(lp mask 13 (i,pert)).2=0:=by
  rw[iO];apply Nat.div_eq_of_lt;exact Hz hp (by decide)
 obtain⟨n,hn,q⟩:=YY h (KD mask 13 i pert hi) he;refine⟨13+n,by lia,?_⟩
 rw[W3];have:lp mask 13 (i,pert)=((lp mask 13 (i,pert)).1,0):=by rw[<- h0]
 rw[this,W4];exact q
theorem VW (h:Msk mask)(hs:Ak){e:Ai}(he:e<=mask):∃ n,n<10*turns mask/\(it mask n (st mask hs)).j=e:=by
 obtain⟨n,hn,q⟩:=eV h (i:=bits hs % (mask+1)) (Kx (Py _ (Pr _))) (aJ hs) he;obtain⟨k,hk,e1⟩:=KC mask n (bits hs % (mask+1)) (bits hs);refine⟨k,by unfold turns;lia,?_⟩
 show (it mask k (rs mask _ _)).j=e;rw[e1];exact q
theorem mO (mask:Ai):∀ (n:Ai) (p:Nq),(it mask n p).dummy=p.dummy
 |0,p=>rfl
 |n+1,p=>by
  show (it mask n (adv mask p)).dummy=_;rw[mO mask n];unfold adv
  split <;> rfl
def Way (t:Fm)(p:Nq)(n:Ai):Prop:=∀ m,m<n->(it t.mask m p).j∈t.place.toList
inductive Meets (t:Fm)(hashAt:Ai->Ak)(h:Ak)(p:Nq)(fuel:Ai):Al SetTable.Met->Prop
 |emp (n:Ai) (hn:n<fuel) (w:Way t p n) (e:(it t.mask n p).j ∉ t.place.toList) (q:∀ m i,m<n->t.place[i]? = Ab (it t.mask m p).j->hashAt i≠h):Meets t hashAt h p fuel (Ab (.empty (it t.mask n p).j none))
 |cand (n i:Ai) (hn:n<fuel) (w:Way t p n) (e:t.place[i]? = Ab (it t.mask n p).j) (hh:hashAt i=h) (q:∀ m i,m<n->t.place[i]? = Ab (it t.mask m p).j->hashAt i≠h):Meets t hashAt h p fuel (Ab (.candidate (it t.mask n p).j i (it t.mask (n+1) p)))
theorem Y2 (h:Rs xs){a b x:Ai}(ha:xs[a]? = Ab x)(hb:xs[b]? = Ab x):a=b:=by rw[<- fW h ha,fW h hb]
set_option tactic.hygienic true in
theorem mH {t:Fm}(T:Tb t)(hashAt:Ai->Ak)(h:Ak):∀ (fuel:Ai) (p:Nq),p.dummy=none->(∃ n,n<fuel/\(it t.mask n p).j ∉ t.place.toList)->Meets t hashAt h p fuel (Nr t hashAt h fuel p)
 |0,p,_,⟨n,hn,_⟩=>by lia
 |fuel+1,p,hd,⟨n,hn,hne⟩=>by
  unfold Nr;rcases Z9 T p.j with⟨i,e,ei⟩|⟨e,q⟩
  .rw[e]
   simp only
   split
   .rename_i hh
    exact Meets.cand 0 i (by lia) (λm hm=>by lia) ei (by simpa using hh) λm i hm=>by lia
   .rename_i hh
    have hh':hashAt i≠h:=by simpa using hh
    have hn0:n≠0:=by
     rintro rfl;exact hne (Bu (by rw[Bn];exact ei))
    obtain⟨n',rfl⟩:∃ n',n=n'+1:=⟨n-1,by lia⟩
    have ih:=mH T hashAt h fuel (adv t.mask p) (by rw[<- hd];exact mO t.mask 1 p) ⟨n',by lia,hne⟩
    rw[TM];have mem0:p.j∈t.place.toList:=Bu (by rw[Bn];exact ei)
    have up:∀ {k:Ai},Way t (adv t.mask p) k->Way t p (k+1):=λ{k} w m hm=>by
     cases m with
     |zero=>exact mem0
     |succ m=>exact w m (by lia)
    have upq:∀ {k:Ai},(∀ m i,m<k->t.place[i]? = Ab (it t.mask m (adv t.mask p)).j->hashAt i≠h)->∀ m i,m<k+1->t.place[i]? = Ab (it t.mask m p).j->hashAt i≠h:=λ{k} q m i' hm e'=>by
     cases m with
     |zero=>rw[Y2 T.rs e' ei];exact hh'
     |succ m=>exact q m i' (by lia) e'
    generalize hg:Nr t hashAt h fuel (adv t.mask p)=r at ih;cases ih with
    |emp k hk w e1 q1=>exact Meets.emp (p:=p) (k+1) (by lia) (up w) e1 (upq q1)
    |cand k i' hk w e1 hh1 q1=>exact Meets.cand (p:=p) (k+1) i' (by lia) (up w) e1 hh1 (upq q1)
  .rw[e]
   simp only[hd];exact Meets.emp (p:=p) 0 (by lia) (λm hm=>by lia) q λm i hm=>by lia
end _S
namespace _S
open PySem
open PySem.SetTable (Probe leap runEnd turns bits)
variable {us:Aa Ai}{mask:Ai}{owner:Aw (Al Ai)}
structure Own (mask:Ai)(owner:Aw (Al Ai))(us:Aa Ai):Prop where
 size:owner.size=mask+1
 nd:us.Nodup
 le:∀ u∈us,u<=mask
 at':∀ j k,j<=mask->(owner.getD j (Ab 0)=Ab k↔us[k]? = Ab j)
theorem lW {i:Ai}(hi:i<=mask):Hg mask i<=mask:=by
 unfold Hg
 split <;> lia
theorem lX (mask i:Ai):i<=Hg mask i:=by
 unfold Hg
 split <;> lia
theorem Own.none (O:Own mask owner us){j:Ai}(hj:j<=mask):(owner.getD j (Ab 0)).isNone=true↔j ∉ us:=by
 constructor
 .intro h hm
  obtain⟨k,hk,e⟩:=Cc.mp hm;have:=(O.at' j k hj).mpr (by rw[Am hk,e])
  rw[this] at h;cases h
 .intro h
  cases q:owner.getD j (Ab 0) with
  |none=>rfl
  |some k=>exact absurd (Bu ((O.at' j k hj).mp q)) h
theorem dO (O:Own mask owner us):∀ (fuel i pert:Ai),i<=mask->(∃ L,L<fuel/\(lp mask L (i,pert)).1 ∉ us) ->
  ∃ n,Io mask owner fuel i pert=Ab (it mask n (rs mask i pert)).j/\(it mask n (rs mask i pert)).j<=mask/\(it mask n (rs mask i pert)).j ∉ us/\∀ m,m<n->(it mask m (rs mask i pert)).j∈us
 |0,i,pert,hi,⟨L,hL,_⟩=>by lia
 |fuel+1,i,pert,hi,⟨L,hL,hne⟩=>by
  unfold Io;have hmx:=lW hi;have hmn:=lX mask i;cases hf:(Dd (Hg mask i+1-i)).find? λk=>(owner.getD (i+k) (Ab 0)).isNone with
  |some k =>
   obtain⟨h1,h2,h3⟩:=List.find?_range_eq_some.mp hf;have hk:k<Hg mask i+1-i:=Ed.mp h2;have ej:(it mask k (rs mask i pert)).j=i+k:=by rw[pY mask i pert k (by lia)]
   refine⟨k,?_,?_,?_,λm hm=>?_⟩
   .rw[ej]
   .rw[ej];lia
   .rw[ej];exact(O.none (by lia)).mp h1
   .rw[pY mask i pert m (by lia)]
    have:=h3 m hm;apply Fl;intro q;rw[(O.none (show i+m<=mask by lia)).mpr q] at this
    cases this
  |none =>
   have hall:∀ k,k<Hg mask i+1-i->i+k∈us:=λk hk=>by
    have:=Qq.mp hf k (Ed.mpr hk);apply Fl;intro q;exact this ((O.none (show i+k<=mask by lia)).mpr q)
   have hL0:L≠0:=by
    rintro rfl;exact hne (hall 0 (by lia))
   obtain⟨L',rfl⟩:∃ L',L=L'+1:=⟨L-1,by lia⟩
   obtain⟨n,q1,q2,q3,q4⟩:=dO O fuel (leap mask i pert).1 (leap mask i pert).2 (lH mask i pert) ⟨L',by lia,hne⟩
   have e:∀ m,it mask (Hg mask i-i+1+m) (rs mask i pert)=it mask m (rs mask (leap mask i pert).1 (leap mask i pert).2):=λm=>by rw[tN,iC]
   refine⟨Hg mask i-i+1+n,?_,?_,?_,λm hm=>?_⟩
   .rw[e];exact q1
   .rw[e];exact q2
   .rw[e];exact q3
   .by_cases hlt:m<Hg mask i-i+1
    .rw[pY mask i pert m (by lia)]
     exact hall m (by lia)
    .obtain⟨m',rfl⟩:∃ m',m=Hg mask i-i+1+m':=⟨m-(Hg mask i-i+1),by lia⟩
     rw[e];exact q4 m' (by lia)
theorem gap (h:us.length<=mask):∃ e,e<=mask/\e ∉ us:=by
 apply Fl;intro q;have:Dd (mask+1) ⊆ us:=λe he=>by
  apply Fl;intro r;exact q ⟨e,by have:=Ed.mp he;lia,r⟩
 have:=List.Nodup.length_le_of_subset Zc this;rw[List.length_range] at this
 lia
theorem F9 (mask:Ai):Own mask (Array.replicate (mask+1) none) []:=by
 refine⟨by simp,Nk,λu hu=>by simp at hu,λj k hj=>?_⟩
 have:j<mask+1:=by lia
 simp[Ge,this]
theorem UL (O:Own mask owner us){j:Ai}(hj:j<=mask)(hn:j ∉ us):Own mask (owner.setIfInBounds j (Ab us.length)) (us++[j]):=by
 refine⟨by simp[O.size],?_,λu hu=>?_,λi k hi=>?_⟩
 .rw[No]
  refine⟨O.nd,by simp,λa ha b hb=>?_⟩
  simp at hb;rintro rfl;subst hb;exact hn ha
 .rcases Cn.mp hu with h|h
  .exact O.le u h
  .simp at h;lia
 .have hsz:=O.size
  have hi':i<owner.size:=by lia
  have hk:∀ {k},us[k]? = Ab i->k<us.length:=λq=>(Bd.mp q).1;by_cases hij:j=i
  .subst hij
   have e1:(owner.setIfInBounds j (Ab us.length)).getD j (Ab 0)=Ab us.length:=by simp[Ge,hi']
   rw[e1];constructor
   .intro q;cases q;simp
   .intro q
    by_cases h1:k<us.length
    .rw[Be h1] at q
     exact absurd (Bu q) hn
    .rw[Cp (by lia)] at q
     have:k-us.length=0:=by
      cases hz:k-us.length with
      |zero=>rfl
      |succ z=>rw[hz] at q;simp at q
     congr 1;lia
  .have e1:(owner.setIfInBounds j (Ab us.length)).getD i (Ab 0)=owner.getD i (Ab 0):=by
    simp[Ge,hi',Array.getElem_setIfInBounds,hij]
   rw[e1,O.at' i k hi];constructor
   .intro q;rw[Be (hk q)];exact q
   .intro q
    by_cases h1:k<us.length
    .rw[Be h1] at q;exact q
    .rw[Cp (by lia)] at q
     cases hz:k-us.length with
     |zero=>rw[hz] at q;simp at q;exact absurd q hij
     |succ z=>rw[hz] at q;simp at q
def oP (mask:Ai)(us:Aa Ai)(hs:Aa Ak):Prop:=∀ (k:Ai) (h:Ak),hs[k]? = Ab h->∃ n,us[k]? = Ab (it mask n (st mask h)).j/\∀ m,m<n->(it mask m (st mask h)).j∈us
theorem dN (hM:Msk mask):∀ (hs done:Aa Ak) (owner:Aw (Al Ai)) (us:Aa Ai),Own mask owner us->us.length=done.length->done.length+hs.length<=mask->oP mask us done ->
  ∃ owner' us',hs.foldl (λacc h=>do
   let (owner,k) <- acc
   let j <- Io mask owner (turns mask) (bits h % (mask+1)) (bits h)
   pure (owner.setIfInBounds j (Ab k),k+1)) (Ab (owner,us.length))=Ab (owner',us'.length)/\Own mask owner' us'/\us'.length=done.length+hs.length/\oP mask us' (done++hs)
 |[],done,owner,us,O,hl,_,hL=>⟨owner,us,rfl,O,by simpa using hl,by simpa using hL⟩
 |h::hs,done,owner,us,O,hl,hlen,hL=>by
  rw[By] at hlen;obtain⟨e,he,hne⟩:=gap (mask:=mask) (us:=us) (by lia)
  obtain⟨L,hLn,hLe⟩:=eV hM (i:=bits h % (mask+1)) (Kx (Py _ (Pr _))) (aJ h) he;obtain⟨n,q1,q2,q3,q4⟩:=dO O (turns mask) (bits h % (mask+1)) (bits h) (Kx (Py _ (Pr _))) ⟨L,by unfold turns;lia,by rw[hLe];exact hne⟩
  have O':=UL O q2 q3;have hL':oP mask (us++[(it mask n (rs mask (bits h % (mask+1)) (bits h))).j]) (done++[h]):=λk h' e'=>by
   by_cases hk:k<done.length
   .rw[Be hk] at e'
    obtain⟨n',w1,w2⟩:=hL k h' e';exact⟨n',by rw[Be (by lia)];exact w1,λm hm=>Dk _ (w2 m hm)⟩
   .rw[Cp (by lia)] at e'
    cases hz:k-done.length with
    |succ z=>rw[hz] at e';simp at e'
    |zero =>
     rw[hz] at e';simp at e';subst e';refine⟨n,?_,λm hm=>Dk _ (q4 m hm)⟩;rw[Cp (by lia),hl,hz]
     rfl
  obtain⟨owner',us',r1,r2,r3,r4⟩:=dN hM hs (done++[h]) _ _ O' (by simp[hl]) (by simp;lia) hL'
  refine⟨owner',us',?_,r2,by simpa [Nat.add_assoc,Xg 1] using r3,by simpa using r4⟩
  rw[Hd];rw[De] at r1;have e0:(do
   let (owner,k) <- Ab (owner,us.length)
   let j <- Io mask owner (turns mask) (bits h % (mask+1)) (bits h)
   pure (owner.setIfInBounds j (Ab k),k+1))=Ab (owner.setIfInBounds (it mask n (rs mask (bits h % (mask+1)) (bits h))).j (Ab us.length),us.length+1):=by
   show (Io mask owner (turns mask) (bits h % (mask+1)) (bits h)).bind _=_;rw[q1];rfl
  rw[e0];exact r1
theorem sJ (hM:Msk mask)(hs:Aw Ak)(hlen:hs.size<=mask):∃ owner us,Yc mask hs=Ab owner/\Own mask owner us/\us.length=hs.size/\oP mask us hs.toList:=by
 obtain⟨owner',us',r1,r2,r3,r4⟩:=dN hM hs.toList [] _ [] (F9 mask) rfl (by simpa using hlen) (λk h e=>by simp at e)
 refine⟨owner',us',?_,r2,by simpa using r3,by simpa using r4⟩
 unfold Yc;rw[<- Array.foldl_toList];have:(([]:Aa Ai).length)=0:=rfl;rw[this] at r1
 erw [r1]
 rfl
structure Laid (mask:Ai)(hs:Aw Ak)(t:Fm)(qQ:Aw Ai):Prop where
 msk:t.mask=mask
 tb:Tb t
 size:t.place.size=hs.size
 le:∀ x∈t.place.toList,x<=mask
 perm:qQ.toList.Perm (Dd hs.size)
 way:∀ (i k:Ai) (h:Ak),qQ[i]? = Ab k->hs[k]? = Ab h->∃ n,t.place[i]? = Ab (it mask n (st mask h)).j/\Way t (st mask h) n
theorem XY (hM:Msk mask)(hs:Aw Ak)(hlen:hs.size<=mask)(finger moves:Ai)(led plain:Ar) :
  ∃ t qQ,Vy mask finger moves led plain hs=Ab (t,qQ)/\t.led=led/\t.plain=plain/\Laid mask hs t qQ:=by
 obtain⟨owner,us,e,O,hl,hL⟩:=sJ hM hs hlen;have hg:∀ j,j<=mask->owner.getD j none=owner.getD j (Ab 0):=λj hj=>by
  have:j<owner.size:=by rw[O.size];lia
  simp[Ge,this]
 generalize hlv:((Dd (mask+1)).filterMap λj=>(owner.getD j none).map (j,·))=live
 have mem:∀ (j k:Ai),(j,k)∈live↔us[k]? = Ab j:=λj k=>by
  rw[<- hlv,Iu];constructor
  .rintro⟨j',hj',q⟩
   have hj'':j'<=mask:=by have:=Ed.mp hj';lia
   rw[hg j' hj''] at q;cases hz:owner.getD j' (Ab 0) with
   |none=>rw[hz] at q;cases q
   |some k' =>
    rw[hz] at q;simp at q;obtain⟨rfl,rfl⟩:=q;exact(O.at' _ _ hj'').mp hz
  .intro q
   have hj:j<=mask:=O.le j (Bu q);refine⟨j,Ed.mpr (by lia),?_⟩
   rw[hg j hj,(O.at' j k hj).mpr q];rfl
 have hfst:live.map (·.1)=(Dd (mask+1)).filter λj=>(owner.getD j none).isSome:=by
  rw[<- hlv,List.map_filterMap];generalize owner.getD=f
  induction Dd (mask+1) with
  |nil=>rfl
  |cons a l ih =>
   rw[Ig,List.filter_cons];cases hz:f a none with
   |none=>simpa using ih
   |some k=>simpa using ih
 have hR:(live.map (·.1)).Pairwise (· < ·):=by
  rw[hfst];exact Jq _ Nz
 have ndl:(live.map (·.2)).Nodup:=by
  unfold ZB;rw[Df];have h1:=Df.mp hR;refine Mn (λ{a b} ha hb hab=>?_) h1;intro q;have ea:=(mem a.1 a.2).mp ha;have eb:=(mem b.1 b.2).mp hb;rw[<- q,ea] at eb;simp at eb
  lia
 have pm:(live.map (·.2)).Perm (Dd hs.size):=by
  rw[Ra ndl Zc];intro k;rw[Bj,Ed,<- hl];constructor
  .rintro⟨⟨j,k'⟩,h1,rfl⟩
   exact(Bd.mp ((mem j k').mp h1)).1
  .intro hk
   exact⟨(us[k],k),(mem _ _).mpr (Am hk),rfl⟩
 have hmem:∀ j,j∈live.map (·.1)↔j∈us:=λj=>by
  rw[Bj];constructor
  .rintro⟨⟨j',k⟩,h1,rfl⟩
   exact Bu ((mem _ _).mp h1)
  .intro h1
   obtain⟨k,hk,e⟩:=Cc.mp h1;exact⟨(j,k),(mem _ _).mpr (by rw[Am hk,e]),rfl⟩
 refine⟨{ mask,place:=(live.map (·.1)).toArray,dummies:=#[],finger,led,moves,plain },(live.map (·.2)).toArray,?_,rfl,rfl,rfl,⟨?_,rfl⟩,?_,λx hx=>?_,?_,λi k h e1 e2=>?_⟩
 .unfold Vy
  rw[e,<- hlv];rfl
 .exact hR
 .have:=pm.length_eq
  simp at this ⊢;exact this
 .exact O.le x ((hmem x).mp hx)
 .exact pm
 .have e1':(live.map (·.2))[i]? = Ab k:=by simpa using e1
  rw[Cg] at e1';cases hz:live[i]? with
  |none=>rw[hz] at e1';cases e1'
  |some jk =>
   rw[hz] at e1';simp at e1';have hin:=Bu hz;have hu:=(mem jk.1 jk.2).mp hin;obtain⟨n,w1,w2⟩:=hL k h (by rw[Bn];exact e2)
   rw[<- e1'] at w1;rw[hu] at w1;refine⟨n,?_,λm hm=>?_⟩
   .rw[<- w1]
    simp[hz]
   .have:=(hmem _).mpr (w2 m hm)
    simpa using this
theorem ME {t:Fm}{hs:Aw Ak}{w:Ai}:SetTable.relaid t hs w=Vy (Ew w-1) t.finger (t.movedTo (Ew w-1)) t.led t.plain hs:=rfl
end _S
namespace _S
open PySem
open PySem.SetTable (Probe leap runEnd turns bits)
structure Set0 {K:Type}(is:K->Ac->Prop)(hash:K->Ak)(es:Aw (Ak × Ac))(seen:Aa K):Prop where
 good:∀ e∈es.toList,∃ k,e.1=hash k/\is k e.2
 nd:es.toList.Pairwise λa b=>∀ k,is k a.2->¬ is k b.2
 mem:∀ k,k∈seen↔∃ e∈es.toList,is k e.2
section
variable {K:Type}{is:K->Ac->Prop}{hash:K->Ak}{es es':Aw (Ak × Ac)}{seen seen':Aa K}
theorem Set0.perm (Z:Set0 is hash es seen)(p:es'.toList.Perm es.toList):Set0 is hash es' seen:=
 ⟨λe he=>Z.good e (p.mem_iff.mp he),(p.pairwise_iff λ{x y} h k hy hx=>h k hx hy).mpr Z.nd,λk=>(Z.mem k).trans ⟨λ⟨e,he,q⟩=>⟨e,p.mem_iff.mpr he,q⟩,λ⟨e,he,q⟩=>⟨e,p.mem_iff.mp he,q⟩⟩⟩
theorem Set0.nil:Set0 is hash #[] []:=⟨λe he=>by simp at he,by simp,λk=>by simp⟩
theorem Set0.push (Z:Set0 is hash es seen)(inj:∀ {k k':K} {v:Ac},is k v->is k' v->k=k'){k:K}{x:Ac}(hk:is k x)(hn:k ∉ seen)(p:es'.toList.Perm (es.toList++[(hash k,x)])):Set0 is hash es' (k::seen):=by
 refine Set0.perm (es:=es.push (hash k,x)) ⟨λe he=>?_,?_,λk'=>?_⟩ (by simpa using p)
 .rw[El] at he
  rcases Cn.mp he with he|he
  .exact Z.good e he
  .simp at he;subst he;exact⟨k,rfl,hk⟩
 .rw[El,Dl]
  refine⟨Z.nd,by simp,λa ha b hb k' h1 h2=>?_⟩
  simp at hb;subst hb;have:=inj hk h2;subst this;exact hn ((Z.mem k).mpr ⟨a,ha,h1⟩)
 .rw[Az,Z.mem,El]
  constructor
  .rintro (rfl|⟨e,he,q⟩)
   .exact⟨(hash k',x),by simp,hk⟩
   .exact⟨e,Dk _ he,q⟩
  .rintro⟨e,he,q⟩
   rcases Cn.mp he with he|he
   .exact .inr ⟨e,he,q⟩
   .simp at he;subst he;exact .inl (inj q hk)
theorem Set0.again (Z:Set0 is hash es seen){k:K}(hk:k∈seen):Set0 is hash es (k::seen):=
 ⟨Z.good,Z.nd,λk'=>by rw[Az,Z.mem];exact⟨λh=>h.elim (λe=>by subst e;exact(Z.mem _).mp hk) id,.inr⟩⟩
end
section
open Classical in
theorem mQ {K:Type}{is:K->Ac->Prop}:∀ (L:Aa (Ak × Ac)) (U:Aa K),L.Pairwise (λa b=>∀ k,is k a.2->¬ is k b.2)->(∀ e∈L,∃ k∈U,is k e.2)->L.length<=U.length
 |[],U,_,_=>Gz _
 |e::L,U,nd,h=>by
  rw[Ev] at nd;obtain⟨k0,hk0,q0⟩:=h e (by simp)
  have ih:=mQ L (U.erase k0) nd.2 λe' he'=>by
   obtain⟨k,hk,q⟩:=h e' (by simp[he'])
   have:k≠k0:=λz=>nd.1 e' he' k0 q0 (z▸q);exact⟨k,(Vh this).mpr hk,q⟩
  rw[Sh hk0] at ih;have:0<U.length:=Ts hk0;rw[By]
  lia
open Classical in
theorem Set0.few {K:Type}{is:K->Ac->Prop}{hash:K->Ak}{es:Aw (Ak × Ac)}{seen U:Aa K}{k:K}(Z:Set0 is hash es seen)(hU:∀ k'∈seen,k'∈U)(hk:k∈U)(hn:k ∉ seen):es.size<U.length:=by
 have:=mQ es.toList (U.erase k) Z.nd λe he=>by
  obtain⟨k',_,q⟩:=Z.good e he;have hs:=(Z.mem k').mpr ⟨e,he,q⟩;have hne:k'≠k:=λz=>hn (z▸hs);exact⟨k',(Vh hne).mpr (hU k' hs),q⟩
 rw[Sh hk,Bp] at this;have:0<U.length:=Ts hk
 lia
end
structure TabT (t:Fm)(es:Aw (Ak × Ac)):Prop where
 tb:Tb t
 msk:Msk t.mask
 size:t.place.size=es.size
 le:∀ x∈t.place.toList,x<=t.mask
 few:es.size*5<t.mask*3
 way:∀ (i:Ai) (e:Ak × Ac),es[i]? = Ab e->∃ n,t.place[i]? = Ab (it t.mask n (st t.mask e.1)).j/\Way t (st t.mask e.1) n
 plain:t.plain=true
theorem TabT.fits {t:Fm}{es:Aw (Ak × Ac)}(T:TabT t es):t.fits es.size=true:=by
 have h1:=T.size;have h2:=T.few;have h3:t.fill=es.size:=by unfold Rv;rw[T.tb.dm,h1];rfl
 unfold Aa7;rw[h3,h1];rcases T.msk with h|h|h|h|h <;> rw[h] at h2 ⊢ <;> simp <;> lia
theorem TabT.gap {t:Fm}{es:Aw (Ak × Ac)}(T:TabT t es):∃ e,e<=t.mask/\e ∉ t.place.toList:=by
 apply _S.gap;rw[Bp,T.size];have h2:=T.few;rcases T.msk with h|h|h|h|h <;> rw[h] at h2 ⊢ <;> lia
theorem TabT.odd {t:Fm}{es:Aw (Ak × Ac)}(T:TabT t es):t.gaveWay=false:=by
 unfold SetTable.gaveWay;rcases T.msk with h|h|h|h|h <;> rw[h] <;> rfl
theorem TabT.put {t:Fm}{es:Aw (Ak × Ac)}(T:TabT t es){h:Ak}{x:Ac}{n:Ai}(w:Way t (st t.mask h) n)(hn:(it t.mask n (st t.mask h)).j ∉ t.place.toList)(hle:(it t.mask n (st t.mask h)).j<=t.mask) :
  let es':=DL es (t.put (it t.mask n (st t.mask h)).j).2 (h,x)
  Tb (t.put (it t.mask n (st t.mask h)).j).1/\(t.put (it t.mask n (st t.mask h)).j).1.place.size=es'.size/\(∀ y∈(t.put (it t.mask n (st t.mask h)).j).1.place.toList,y<=t.mask) /\
  (∀ (i:Ai) (e:Ak × Ac),es'[i]? = Ab e->∃ m,(t.put (it t.mask n (st t.mask h)).j).1.place[i]? = Ab (it t.mask m (st t.mask e.1)).j/\Way (t.put (it t.mask n (st t.mask h)).j).1 (st t.mask e.1) m):=by
 generalize hj:(it t.mask n (st t.mask h)).j=j at *;have pm:∀ y,y∈(t.put j).1.place.toList↔y=j\/y∈t.place.toList:=λy=>by
  show y∈(DL t.place (Ch t.place j) j).toList↔_;rw[(Ko _ _ _).mem_iff];simp[or_comm]
 have hb:Ch t.place j<=t.place.size:=(uH T.tb.rs j).le;have wm:∀ {p:Nq} {m:Ai},Way t p m->Way (t.put j).1 p m:=λ{p m} w q hq=>(pm _).mpr (.inr (w q hq));refine⟨RF T.tb hn,?_,λy hy=>?_,λi e he=>?_⟩
 .show (DL t.place _ j).size=(DL es _ (h,x)).size
  rw[jN,jN,T.size]
 .rcases (pm y).mp hy with rfl|hy
  .exact hle
  .exact T.le y hy
 .have he':(if i<Ch t.place j then es[i]? else if i=Ch t.place j then Ab (h,x) else es[i-1]?)=Ab e:=by
   rw[<- tK es (by rw[<- T.size];exact hb)]
   exact he
  have pl:(t.put j).1.place[i]? = if i<Ch t.place j then t.place[i]? else if i=Ch t.place j then Ab j else t.place[i-1]?:=tK t.place hb j i
  rw[pl];by_cases h1:i<Ch t.place j
  .rw[Bf h1] at he' ⊢
   obtain⟨m,q1,q2⟩:=T.way i e he';exact⟨m,q1,wm q2⟩
  .rw[Bb h1] at he' ⊢
   by_cases h2:i=Ch t.place j
   .rw[Bf h2] at he' ⊢
    cases he';exact⟨n,by rw[hj],wm w⟩
   .rw[Bb h2] at he' ⊢
    obtain⟨m,q1,q2⟩:=T.way _ e he';exact⟨m,q1,wm q2⟩
theorem KB {mask:Ai}(p:Nq)(hp:p.j+p.more<=mask):∀ n,(it mask n p).j+(it mask n p).more<=mask
 |0=>hp
 |n+1=>by
  rw[bW];have ih:=KB p hp n;unfold adv
  split
  .show (it mask n p).j+1+((it mask n p).more-1)<=mask
   lia
  .show (leap mask _ _).1+(Hg mask (leap mask _ _).1-(leap mask _ _).1)<=mask
   have h1:=lW (lH mask (it mask n p).i (it mask n p).perturb);have h2:=lX mask (leap mask (it mask n p).i (it mask n p).perturb).1
   lia
theorem AZ (mask:Ai)(h:Ak)(n:Ai):(it mask n (st mask h)).j<=mask:=by
 have h0:bits h % (mask+1)<=mask:=Kx (Py _ (Pr _));have:=KB (mask:=mask) (st mask h) (by
  show bits h % (mask+1)+(Hg mask (bits h % (mask+1))-bits h % (mask+1))<=mask;have h1:=lW h0;have h2:=lX mask (bits h % (mask+1))
  lia) n
 lia
theorem a8 {t:Fm}{es:Aw (Ak × Ac)}(hM:Msk t.mask)(hp:t.plain=true)(h1:t.place.size=es.size)(h2:es.size<=1001)(hf:t.tooFull=true)(hd:t.dummies=#[])(h3:(es.size-1)*5<t.mask*3)(h4:0<es.size) :
  Ew (Hs es.size)<=2048/\∃ t' qQ,t.relaid (es.map (·.1)) (Hs es.size)=Ab (t',qQ)/\t'.led=t.led/\(qQ.filterMap (es[·]?)).toList.Perm es.toList/\TabT t' (qQ.filterMap (es[·]?))/\qQ.toList.Perm (Dd es.size):=by
 have hfill:t.fill=es.size:=by unfold Rv;rw[hd,h1];rfl
 have hful:t.mask*3<=es.size*5:=by
  unfold Zd at hf;rw[hfill] at hf;simpa using hf
 have hcase:(es.size=5/\Ew (Hs es.size)=32)\/(es.size=19/\Ew (Hs es.size)=128)\/(es.size=77/\Ew (Hs es.size)=512)\/(es.size=307/\Ew (Hs es.size)=2048):=by
  rcases hM with h|h|h|h|h <;> rw[h] at hful h3
  .have:es.size=5:=by lia
   exact .inl ⟨this,by rw[this];decide⟩
  .have:es.size=19:=by lia
   exact .inr (.inl ⟨this,by rw[this];decide⟩)
  .have:es.size=77:=by lia
   exact .inr (.inr (.inl ⟨this,by rw[this];decide⟩))
  .have:es.size=307:=by lia
   exact .inr (.inr (.inr ⟨this,by rw[this];decide⟩))
  .lia
 have hM':Msk (Ew (Hs es.size)-1):=by
  rcases hcase with⟨_,h⟩|⟨_,h⟩|⟨_,h⟩|⟨_,h⟩ <;> rw[h]
  .exact .inr (.inl rfl)
  .exact .inr (.inr (.inl rfl))
  .exact .inr (.inr (.inr (.inl rfl)))
  .exact .inr (.inr (.inr (.inr rfl)))
 have hle:(es.map (·.1)).size<=Ew (Hs es.size)-1:=by
  rw[Va];rcases hcase with⟨h5,h⟩|⟨h5,h⟩|⟨h5,h⟩|⟨h5,h⟩ <;> rw[h,h5] <;> lia
 obtain⟨t',qQ,e,l1,l2,L⟩:=XY hM' (es.map (·.1)) hle t.finger (t.movedTo (Ew (Hs es.size)-1)) t.led t.plain
 have hosz:qQ.size=es.size:=by
  have:=L.perm.length_eq;simpa using this
 have hord:∀ i k,qQ[i]? = Ab k->k<es.size:=λi k q=>by
  have:k∈Dd (es.map (·.1)).size:=L.perm.mem_iff.mp (Bu (by rw[Bn];exact q))
  simpa using this
 have hfm:(qQ.filterMap (es[·]?)).toList=qQ.toList.map λk=>es.toList.getD k (0,.none):=by
  rw[Array.toList_filterMap];have:∀ l:Aa Ai,(∀ k∈l,k<es.size)->l.filterMap (es[·]?)=l.map λk=>es.toList.getD k (0,.none):=by
   intro l
   induction l with
   |nil=>intro _;rfl
   |cons a l ih =>
    intro hl;have ha:=hl a (by simp)
    rw[Ig,Dc,ih λk hk=>hl k (by simp[hk])]
    rw[Dz ha];simp[ha]
  refine this _ λk hk=>?_;obtain⟨i,hi,q⟩:=Cc.mp hk;exact hord i k (by rw[<- Bn,Am hi,q])
 have hperm:(qQ.filterMap (es[·]?)).toList.Perm es.toList:=by
  rw[hfm];have p1:=L.perm.map λk=>es.toList.getD k (0,Cz);refine p1.trans ?_;have e2:(Dd (es.map (·.1)).size).map (λk=>es.toList.getD k (0,Cz))=es.toList:=by
   apply Os
   .simp
   .intro i a1 a2
    have a3:i<es.size:=by simpa using a2
    simp[a3]
  rw[e2]
 have hsz:(qQ.filterMap (es[·]?)).size=es.size:=by rw[<- Bp,hperm.length_eq,Bp]
 have hentry:∀ i,(qQ.filterMap (es[·]?))[i]? = (qQ[i]?).map λk=>es.toList.getD k (0,.none):=λi=>by
  rw[<- Bn,hfm,Cg,Bn]
 refine⟨by rcases hcase with⟨_,h⟩|⟨_,h⟩|⟨_,h⟩|⟨_,h⟩ <;> rw[h] <;> decide,t',qQ,by rw[ME];exact e,l1,hperm,⟨L.tb,by rw[L.msk];exact hM',by rw[L.size,hsz,Va],by rw[L.msk];exact L.le,?_,λi en q=>?_,by rw[l2];exact hp⟩,by have:=L.perm;rwa [Va] at this⟩
 .rw[hsz,L.msk]
  rcases hcase with⟨h5,h⟩|⟨h5,h⟩|⟨h5,h⟩|⟨h5,h⟩ <;> rw[h,h5] <;> lia
 .rw[hentry] at q
  cases hz:qQ[i]? with
  |none=>rw[hz] at q;cases q
  |some k =>
   rw[hz] at q;simp only[Tt,Option.some.injEq] at q;have hk:=hord i k hz;have:(es.map (·.1))[k]? = Ab en.1:=by
    rw[Array.getElem?_map,Dz hk];rw[<- q];simp[hk]
   rw[L.msk];exact L.way i k en.1 hz this
end _S
namespace _S
open PySem
open PySem.SetTable (Probe leap runEnd turns bits)
def Sup (h0 h:Bs):Prop:=∀ b o,h0.get? b=Ab o->h.get? b=Ab o
def isT (prog:Bc)(w:Bx)(h0:Bs)(ks:Aa Ak)(v:Ac):Prop:=∃ a,v=.ref a/\Ss (Is prog w) h0 ks a
section
variable {prog:Bc}{w:Bx}{h0:Bs}
theorem isT.inj {x y:Aa Ak}{v:Ac}(hx:isT prog w h0 x v)(hy:isT prog w h0 y v):x=y:=by
 obtain⟨a,rfl,h1⟩:=hx;obtain⟨b,e,h2⟩:=hy;cases e;exact h1.inj h2
theorem Y5 {h:Bs}{ks:Aa Ak}{a:Af}(hS:Sup h0 h)(hx:Ss (Is prog w) h0 ks a):Ss (Is prog w) h ks a:=by
 obtain⟨o,items,n,ho,r⟩:=hx;exact⟨o,items,n,hS _ _ ho,r⟩
variable {A:Bk}{E:Ac->Ag->Prop}{s:Ag}
theorem VZ {α : Type}{c:Prop}[Jl c]{M:Nl}{t u:Ke α}{Q:α->Ag->Prop}(h1:c->Ap M A t Q E s)(h2:¬ c->Ap M A u Q E s):Ap M A (if c then t else u) Q E s:=by
 by_cases h:c
 .rw[Bf h];exact h1 h
 .rw[Bb h];exact h2 h
structure Mem (prog:Bc)(w:Bx){K:Type}[Ob K](is:K->Ac->Prop)(hash:K->Ak)(h0:Bs):Prop where
 inj:∀ {k k':K} {v:Ac},is k v->is k' v->k=k'
 ref:∀ {k:K} {v:Ac},is k v->∃ a,v=.ref a
 hsh:∀ {A:Bk} {E:Ac->Ag->Prop} {s:Ag} {k:K} {v:Ac} {Q:Ak->Ag->Prop},A.units+8<Ee->Sup h0 s.heap->is k v->(∀ tk,s.toks<=tk->Q (hash k) { s with toks:=tk }) -> Ap (As prog w) A (pyHash v) Q E s
 eq:∀ {A:Bk} {E:Ac->Ag->Prop} {s:Ag} {k k':K} {v v':Ac} {Q:Ar->Ag->Prop},A.units+8<Ee->Sup h0 s.heap->is k v->is k' v'->Q (decide (k=k')) s->Ap (As prog w) A (eqBool v v') Q E s
 byV:∀ {A:Bk} {E:Ac->Ag->Prop} {s:Ag} {k:K} {v:Ac} {Q:Ar->Ag->Prop},Sup h0 s.heap->is k v->Q true s->Ap (As prog w) A (Uh 8 v) Q E s
 cls:∀ {A:Bk} {E:Ac->Ag->Prop} {s:Ag} {k:K} {v:Ac} {Q:Ar->Ag->Prop},Sup h0 s.heap->is k v->Q false s->Ap (As prog w) A (Nt 8 v) Q E s
 quiet:∀ {A:Bk} {E:Ac->Ag->Prop} {s:Ag} {k:K} {v:Ac} {Q:Ar->Ag->Prop},Sup h0 s.heap->is k v->Q true s->Ap (As prog w) A (Yd 8 v) Q E s
variable {K:Type}[Ob K]{is:K->Ac->Prop}{hash:K->Ak}
theorem AV (M:Mem prog w is hash h0){k:K}{x:Ac}{ys:Aa Ac}{Q:Ar->Ag->Prop}(hS:Sup h0 s.heap)(hx:is k x)(hy:∀ y∈ys,∃ k',is k' y)(h:Q false s):Ap (As prog w) A (Ye x ys) Q E s:=by
 unfold Ye;refine Ad ?_;refine Hk _ (λrest r s'=>r.1=none/\s'=s/\∀ v∈rest,∃ k',is k' v) _ ?_ ?_ _ _ ⟨rfl,rfl,hy⟩
 .rintro v rest r s' ⟨hr,rfl,hall⟩
  obtain⟨k',hv⟩:=hall v Cu;have hrest:∀ u∈rest,∃ k',is k' u:=λu hu'=>hall u (Bl _ hu');dsimp only;refine VZ (λ_=>An ⟨rfl,rfl,hrest⟩) λ_=>?_
  .refine Ad (M.quiet hS hx ?_)
   simp only[Il,Br,Dw];refine Ad (M.quiet hS hv ?_);simp only[Il,Br,Dw];refine Ad (M.cls hS hx ?_);simp only[Br,Dw];refine Ad (M.cls hS hv ?_);simp only[Br,Dw];exact An ⟨rfl,rfl,hrest⟩
 .rintro⟨r1,r2⟩ s' ⟨hr,rfl,_⟩
  simp only at hr;subst hr;exact An h
theorem AU (M:Mem prog w is hash h0){k:K}{v:Ac}{Q:Ar->Ag->Prop}(hx:is k v)(h:Q true s):Ap (As prog w) A (isSame v v) Q E s:=by
 obtain⟨a,rfl⟩:=M.ref hx;unfold isSame;simp only[Gu,Dp];exact An h
theorem K7 (M:Mem prog w is hash h0){k:K}{x:Ac}{S:Af}{o:Cj}{es:Aw (Ak × Ac)}{ep:Ai}{t:Fm}{seen:Aa K}(hu:A.units+8<Ee)(hS:Sup h0 s.heap)(ho:s.heap.get? S=Ab o)(hd:o.data=.set es ep t)
  (T:TabT t es) (Z:Set0 (is) hash es seen) (hx:is k x) (N:Ai) (hNw:Way t (st t.mask (hash k)) N)
  (hNe:(it t.mask N (st t.mask (hash k))).j ∉ t.place.toList) (hNf:N<10*turns t.mask) {Q:SetFound->Ag->Prop}
  (h1:k∈seen->Q (.there none) s) (h2:k ∉ seen->Q (.free (it t.mask N (st t.mask (hash k))).j false) s) :
  ∀ (fuel n:Ai) (stand:Al Nq),stand.getD (t.probeStart (hash k))=it t.mask n (st t.mask (hash k))->n<=N->N-n<fuel ->
   (∀ (m i:Ai) (e:Ak × Ac),m<n->t.place[i]? = Ab (it t.mask m (st t.mask (hash k))).j->es[i]? = Ab e->¬ is k e.2) ->
   Ap (As prog w) A (Rw S x (hash k) true fuel stand) Q E s
 |0,n,stand,_,_,hf,_=>by lia
 |fuel+1,n,stand,hst,hn,hf,hq=>by
  unfold Rw;refine Ad (Gf ho hd T.fits ?_);dsimp only;rw[T.odd];simp only[Br,Dw];rw[hst];generalize hg:t.probe _ (hash k) (it t.mask n (st t.mask (hash k)))=r;obtain⟨H,hH,hg⟩:∃ H:Ai->Ak,(∀ i,H i=(es[i]?.map (·.1)).getD 0)/\t.probe H (hash k) (it t.mask n (st t.mask (hash k)))=r:=⟨_,λi=>rfl,hg⟩
  have itn:∀ m,it t.mask m (it t.mask n (st t.mask (hash k)))=it t.mask (n+m) (st t.mask (hash k)):=λm=>(tN _ _ _ _).symm;have gm:Meets t H (hash k) (it t.mask n (st t.mask (hash k))) (10*turns t.mask) r:=by
   rw[<- hg];refine mH T.tb H _ _ _ (by rw[mO];rfl) ⟨N-n,by lia,?_⟩
   rw[itn,show n+(N-n)=N by lia]
   exact hNe
  have miss:∀ j:Ai,(∀ m i:Ai,m<j->t.place[i]? = Ab (it t.mask m (it t.mask n (st t.mask (hash k)))).j->H i≠hash k) ->
    ∀ (m i:Ai) (e:Ak × Ac),m<n+j->t.place[i]? = Ab (it t.mask m (st t.mask (hash k))).j->es[i]? = Ab e->¬ is k e.2:=λj qj m i e hm ei ee hk=>by
   by_cases hmn:m<n
   .exact hq m i e hmn ei ee hk
   .refine qj (m-n) i (by lia) (by rw[itn,show n+(m-n)=m by lia];exact ei) ?_
    rw[hH,ee];obtain⟨k',e1,e2⟩:=Z.good e (Bu (by rw[Bn];exact ee))
    rw[M.inj hk e2];simpa using e1
  cases gm with
  |emp j hj w' e' q =>
   rw[itn] at e';have hjN:n+j=N:=by
    rcases Yf (n+j) N with h|h|h
    .exact absurd (hNw _ h) e'
    .exact h
    .have:=w' (N-n) (by lia)
     rw[itn,show n+(N-n)=N by lia] at this
     exact absurd this hNe
   dsimp only;rw[itn,hjN];refine An (h2 λhk=>?_);obtain⟨e,he,hke⟩:=(Z.mem k).mp hk;obtain⟨i,hi,ei⟩:=Cc.mp he;have ei':es[i]? = Ab e:=by rw[<- Bn,Am hi,ei]
   obtain⟨m,w1,w2⟩:=T.way i e ei';obtain⟨k',g1,g2⟩:=Z.good e he;have:=M.inj hke g2;subst this;rw[g1] at w1 w2;have hmN:m<N:=by
    apply Fl;intro hc;by_cases hmN:m=N
    .subst hmN
     exact hNe (Bu (by rw[Bn];exact w1))
    .exact hNe (w2 N (by lia))
   exact miss j q m i e (by lia) w1 ei' hke
  |cand j i hj w' e' hh q =>
   rw[itn] at e';have hi:i<es.size:=by
    rw[<- T.size];exact(Dv.mp e').1
   have ei:es[i]? = Ab es[i]:=Dz hi;have hjN:n+j<N:=by
    rcases Yf (n+j) N with h|h|h
    .exact h
    .rw[h] at e'
     exact absurd (Bu (by rw[Bn];exact e')) hNe
    .have:=w' (N-n) (by lia)
     rw[itn,show n+(N-n)=N by lia] at this
     exact absurd this hNe
   obtain⟨k',g1,g2⟩:=Z.good es[i] (by simp)
   dsimp only;have main:Ap (As prog w) A (do
     let Ab (_,y):=es[i]?|unsupported "internal:set-entry"
     let equal <- holding [y] (eqBool y x)
     let (es',_,t') <- Wi S
     if true&&equal then return .there none
     let Ab same:=t'.sameMemory t.moves t.mask|unsupported "set.changed-during-lookup:is-the-new-block-at-the-old-address"
     let still <- match (if same then t'.slot (it t.mask j (it t.mask n (st t.mask (hash k)))).j else .empty) with
      |.live i'=>match es'[i']? with
       |some (_,y')=>do pure (if <- isSame y' y then Ab i' else none)
       |none=>pure none
      |_=>pure none
     match still with
     |none=>rule "set.search.anew";Rw S x (hash k) true fuel none
     |some i'=>if equal then return .there (Ab i') else Rw S x (hash k) true fuel (Ab (it t.mask (j+1) (it t.mask n (st t.mask (hash k)))))) Q E s:=by
    rw[ei];dsimp only;refine Ad (Fj (M.eq hu hS g2 hx ?_));refine Ad (Gf ho hd T.fits ?_);by_cases hkk:k'=k
    .subst hkk
     simp only[Jb,Bool.and_self,Dp];exact An (h1 ((Z.mem k').mpr ⟨es[i],by simp,g2⟩))
    .simp only[hkk,Kb,Vb,Br,Dw]
     have hm:t.sameMemory t.moves t.mask=Ab true:=by simp[SetTable.sameMemory]
     rw[hm];dsimp only;rw[itn,sD T.tb e'];simp only[Dp,ei];refine Ad (AU M g2 ?_);simp only[Dp];refine Ad (An ?_);dsimp only;refine K7 M hu hS ho hd T Z hx N hNw hNe hNf h1 h2 fuel (n+j+1) _ ?_ (by lia) (by lia) λm i' e hm ei' ee hk=>?_
     .rw[Oh,itn]
      rfl
     .by_cases hmj:m<n+j
      .exact miss j q m i' e hmj ei' ee hk
      .have:m=n+j:=by lia
       subst this;have:=Y2 T.tb.rs ei' e';subst this;rw[ei] at ee;cases ee;exact hkk (M.inj g2 hk)
   refine VZ (λ_=>?_) λ_=>?_
   .refine Ad (AV M hS hx (λy hy=>?_) ?_)
    .obtain⟨e,he,rfl⟩:=Bj.mp hy
     have:e∈es.toList:=by
      have:=(Oy.mp he);exact Oy.mpr (Array.mem_filter.mp this).1
     obtain⟨k2,_,g⟩:=Z.good e this;exact⟨k2,g⟩
    .simp only[Br,Dw]
     exact main
   .exact main
end
end _S
namespace _S
open PySem
open PySem.SetTable (Probe leap runEnd turns bits)
@[reducible] def setO (es:Aw (Ak × Ac))(ep:Ai)(t:Fm):Cj:={ cls:=.type "set",dict:=none,data:=.set es ep t }
theorem o4 {h:Bs}{S:Af}{es es':Aw (Ak × Ac)}{ep:Ai}{t t':Fm}(ho:h.get? S=Ab (setO es ep t)):(h.update S (Obj.putSet es' t')).get? S=Ab (setO es' (ep+1) t'):=Fo _ ho rfl
structure SetK {K:Type}(is:K->Ac->Prop)(hash:K->Ak)(S:Af)(led:Ar)(V:Aa Ac)(seen:Aa K)(h:Bs):Prop where
 ex:∃ es ep t,h.get? S=Ab (setO es ep t)/\Set0 is hash es seen/\TabT t es/\t.led=led/\∀ e∈es.toList,e.2∈V
section
variable {prog:Bc}{w:Bx}{h0:Bs}{A:Bk}{E:Ac->Ag->Prop}{s:Ag}{S:Af}{led:Ar}{V:Aa Ac}
theorem JD (a:Af)(wanted:Ai):setRelay a wanted=(do
  let (es,_,t) <- Wi a
  if Ew wanted>sizeLine then unsupported "set:memory"
  let (es,t) <- (do
   let Ab (t,qQ):=t.relaid (es.map (·.1)) wanted|unsupported "internal:set-table-without-room"
   let es':=qQ.filterMap (es[·]?)
   if es'.size != es.size then unsupported "internal:set-table-lost-an-element"
   pure (es',t))
  storeSet a es t):=rfl
theorem OA {K:Type}[Ob K]{is:K->Ac->Prop}{hash:K->Ak}(M:Mem prog w is hash h0){seen:Aa K}{k:K}{x:Ac}{Q:Ar->Ag->Prop}(hu:A.units+8<Ee)(hS:Sup h0 s.heap)(Z:SetK (is) hash S led V seen s.heap)(hx:is k x)(hV:x∈V){U:Aa K}(hU:U.length<=1000)(hU1:∀ k'∈seen,k'∈U)(hU2:k∈U)
  (h:∀ (b:Ar) (h':Bs) (tk:Ai),s.toks<=tk->Fc S s.heap h'->SetK (is) hash S led V (k::seen) h'->Q b { s with heap:=h',toks:=tk }) : Ap (As prog w) A (setAdd S x) Q E s:=by
 obtain⟨es,ep,t,ho,Z,T,hl,hm⟩:=Z;unfold setAdd;refine Fj (Ad (M.hsh hu hS hx λtk htk=>?_));unfold setAddHashed setAddHashedIn;refine Fj (Ad (Gf (s:={ s with toks:=tk }) ho rfl T.fits ?_))
 dsimp only;have hsc:byScan x es=false:=by
  obtain⟨a,rfl⟩:=M.ref hx;rfl
 rw[hsc];simp only[Br,Dw];obtain⟨e,he,hne⟩:=T.gap;have first:∃ N,Way t (st t.mask (hash k)) N/\(it t.mask N (st t.mask (hash k))).j ∉ t.place.toList/\N<10*turns t.mask:=by
  obtain⟨N,hN,eN⟩:=VW T.msk (hash k) he;have gm:=mH T.tb (λ_=>hash k+1) (hash k) (10*turns t.mask) (st t.mask (hash k)) rfl ⟨N,hN,by rw[eN];exact hne⟩
  generalize Nr t _ _ _ _=r at gm;cases gm with
  |emp j hj w' e' q=>exact⟨j,w',e',hj⟩
  |cand j i hj w' e' hh q=>exact absurd hh (by lia)
 obtain⟨N,hNw,hNe,hNf⟩:=first
 have hNt:N<100000:=by
  have:turns t.mask<=2200:=by
   unfold turns;rcases T.msk with h|h|h|h|h <;> rw[h] <;> lia
  lia
 refine Ad (K7 M (s:={ s with toks:=tk }) hu hS ho rfl T Z hx N hNw hNe hNf (λhk=>?_) (λhk=>?_) 100000 0 none rfl (by lia) (by lia) λm i e hm=>by lia)
 .exact An (h _ s.heap _ htk (XV _ _) ⟨es,ep,t,ho,Z.again hk,T,hl,hm⟩)
 .have hle:es.size<1000:=Bh (Z.few hU1 hU2 hk) hU
  dsimp only;refine Ad (Gf (s:={ s with toks:=tk }) ho rfl T.fits ?_)
  obtain⟨p1,p2,p3,p4⟩:=T.put (h:=hash k) (x:=x) hNw hNe (AZ _ _ _);generalize hj:(it t.mask N (st t.mask (hash k))).j=j at *;have m1:(t.put j).1.mask=t.mask:=rfl;have m2:(t.put j).1.plain=true:=T.plain;have m3:(t.put j).1.led=led:=hl;generalize hp:t.put j=tp at *;obtain⟨t1,p⟩:=tp;dsimp only at p1 p2 p3 p4 m1 m2 m3 ⊢;rw[m2];simp only[Dp];refine Ad (M.byV (s:={ s with toks:=tk }) hS hx ?_)
  simp only[Dp,Vc,Bool.true_and];have hsz:(DL es p (hash k,x)).size=es.size+1:=jN _ _ _;have hline:es.size+1<=sizeLine:=by rw[Fg];lia
  refine Ad (Yg (s:={ s with toks:=tk }) ho rfl ?_ (by rw[hsz];exact hline))
  have Z1:Set0 (is) hash (DL es p (hash k,x)) (k::seen):=by
   refine Z.push (λa b=>M.inj a b) hx hk ?_;have:=Ko es p (hash k,x);rw[El] at this;exact this
  have hm1:∀ e∈(DL es p (hash k,x)).toList,e.2∈V:=λe he=>by
   have:=(Ko es p (hash k,x)).mem_iff.mp he;rw[El] at this;rcases Cn.mp this with h1|h1
   .exact hm e h1
   .simp at h1;subst h1;exact hV
  have ho1:=o4 (es':=DL es p (hash k,x)) (t':=t1) ho;have sb1:=Jy s.heap S (Obj.putSet (DL es p (hash k,x)) t1);have hfit:t1.fits (DL es p (hash k,x)).size=true:=by
   have h3:t1.fill=es.size+1:=by unfold Rv;rw[p1.dm,p2,hsz];rfl
   have h2:=T.few;unfold Aa7;rw[h3,p2,hsz,m1];rcases T.msk with h|h|h|h|h <;> rw[h] at h2 ⊢ <;> simp <;> lia
  refine VZ (λhf=>?_) λhf=>?_
  .have hM1:Msk t1.mask:=by rw[m1];exact T.msk
   have h3:((DL es p (hash k,x)).size-1)*5<t1.mask*3:=by rw[hsz,m1];exact T.few
   obtain⟨q1,t2,qQ,q2,q3,q4,q5,_⟩:=a8 hM1 m2 p2 (by rw[hsz];lia) (by simpa using hf) p1.dm h3 (by rw[hsz];lia)
   rw[hsz] at q1 q2;rw[JD];refine Ad ?_;refine Ad (Gf (s:={ s with heap:=_,toks:=tk }) ho1 rfl hfit ?_)
   dsimp only;rw[Bb (by rw[Fg];lia)]
   refine Ad ?_;rw[q2];dsimp only;have hs2:(qQ.filterMap λx_1=>(DL es p (hash k,x))[x_1]?).size=es.size+1:=by rw[<- Bp,q4.length_eq,Bp,hsz]
   rw[Bb (by rw[hs2,hsz];simp)]
   refine An ?_;refine Yg (s:={ s with heap:=_,toks:=tk }) ho1 rfl ?_ (by rw[hs2];exact hline)
   refine An (h _ _ _ htk (sb1.trans (Jy _ S _)) ⟨_,_,t2,o4 ho1,Z1.perm q4,q5,by rw[q3];exact m3,λe he=>hm1 e (q4.mem_iff.mp he)⟩)
  .refine An (h _ _ _ htk sb1 ⟨_,_,t1,ho1,Z1,⟨p1,by rw[m1];exact T.msk,p2,by rw[m1];exact p3,?_,by rw[m1];exact p4,m2⟩,m3,hm1⟩)
   have h3:t1.fill=es.size+1:=by unfold Rv;rw[p1.dm,p2,hsz];rfl
   unfold Zd at hf;rw[h3] at hf;rw[hsz];simpa using hf
end
end _S
namespace _S
open PySem
open PySem.SetTable (Probe leap runEnd turns bits)
def isI (prog:Bc)(w:Bx)(k:Ak)(v:Ac):Prop:=(Is prog w).is k v=true
section
variable {prog:Bc}{w:Bx}{A:Bk}{E:Ac->Ag->Prop}{s:Ag}{S:Af}{led:Ar}{V:Aa Ac}
set_option tactic.hygienic true in
theorem uB {k:Ak}{v:Ac}(h:isI prog w k v):∃ t,v=.int k t:=by
 cases v <;> first|(exact absurd h (by rintro⟨⟩)) | skip
 rename_i i t;refine⟨t,?_⟩;have:i=k:=(Is prog w).inj (.int i t) i k (dL _ _ _ _) h;rw[this]
end
end _S
namespace _S
open PySem
variable {Q:Ac->Ag->Prop}{i:Ai}
structure AddS (prog:Bc)(w:Bx){K:Type}(is:K->Ac->Prop)(hash:K->Ak)(h0:Bs):Prop where
 add:∀ {A:Bk} {E:Ac->Ag->Prop} {s:Ag} {S:Af} {led:Ar} {V:Aa Ac} {seen U:Aa K} {k:K} {x:Ac} {Q:Ar->Ag->Prop},A.units+8<Ee->Sup h0 s.heap->SetK is hash S led V seen s.heap->is k x->x∈V->U.length<=1000->(∀ k'∈seen,k'∈U)->k∈U ->
  (∀ (b:Ar) (h':Bs) (tk:Ai),s.toks<=tk->Fc S s.heap h'->SetK is hash S led V (k::seen) h'->Q b { s with heap:=h',toks:=tk }) -> Ap (As prog w) A (setAdd S x) Q E s
def wX {K:Type}(key:Ai->K):Ai->Aa K
 |0=>[]
 |i+1=>key i::wX key i
theorem jG {K:Type}{key:Ai->K}{k:K}:∀ {n:Ai},k∈wX key n↔∃ i,i<n/\key i=k
 |0=>by simp[wX]
 |n+1=>by
  rw[wX,Az,jG];constructor
  .rintro (rfl|⟨i,h,e⟩)
   .exact⟨n,by omega,rfl⟩
   .exact⟨i,by omega,e⟩
  .rintro⟨i,h,e⟩
   by_cases hi:i=n
   .subst hi;exact .inl e.symm
   .exact .inr ⟨i,by omega,e⟩
section
variable {prog:Bc}{w:Bx}{A:Bk}{R:xL->Ag->Prop}{I:Af}{fp wr:Aa Af}{G:Aw Zi->Aw Zi->Prop}{n:Ai}{P:Ai->Ac->Prop}{St:Ai->Ag->Prop}
variable {K:Type}{is:K->Ac->Prop}{hash:K->Ak}{h0:Bs}{led:Ar}{V:Aa Ac}{U:Aa K}
theorem SetK.sup {S:Af}{seen:Aa K}{h h':Bs}(Z:SetK is hash S led V seen h)(e:∀ o,h.get? S=Ab o->h'.get? S=Ab o):SetK is hash S led V seen h':=by
 obtain⟨es,ep,t,ho,r⟩:=Z;exact⟨es,ep,t,e _ ho,r⟩
theorem oF (a:AddS prog w is hash h0)(W:WalksS prog w A.in1 I fp wr G n P St)(S:Af)(hSf:S ∉ fp)(hu:A.in1.units+8<Ee)(key:Ai->K)(hkey:∀ i v,P i v->is (key i) v/\v∈V)(hU:U.length<=1000)(hUk:∀ i,i<n->key i∈U)
  (hS0:h0.get? S=none) (hw0:∀ b∈wr,h0.get? b=none):∀ (k i:Ai) (s:Ag),n-i=k->i<=n->St i s->Sup h0 s.heap->SetK is hash S led V (wX key i) s.heap ->
   (∀ s',Moved (S::wr) G s s'->SetK is hash S led V (wX key n) s'.heap->R (.ok (.ret .none)) s')->Ih (As prog w) A (.builtin "set.update.loop" ⟨[.ref S,.ref I],[]⟩) R s:=by
 have hSw:S ∉ wr:=λh=>hSf (W.sub _ h);have hsub:∀ b∈wr,b∈S::wr:=λb hb=>Bl _ hb;intro k
 induction k with
 |zero =>
  intro i s hk hi hst hS Z hR;have hin:i=n:=by omega
  subst hin;refine Jk Me ?_;rw[Jr Ip _];show Ap _ A.in1 (Ng (.ref I) >>= _) _ _ s;refine Ad (W.done s _ _ hst λs' hm=>?_);exact An (hR s' (hm.mono hsub) (Z.sup λo e=>hm.heap S _ hSw e))
 |succ k ih =>
  intro i s hk hi hst hS Z hR;have hlt:i<n:=by omega
  refine Jk Me ?_;rw[Jr Ip _];show Ap _ A.in1 (Ng (.ref I) >>= _) _ _ s;refine Ad (W.item i s _ _ hlt hst λv s' hP hst' hm=>?_);obtain⟨q1,q2⟩:=hkey i v hP;have hS':Sup h0 s'.heap:=λb o e=>hm.heap b o (λhb=>by rw[hw0 b hb] at e;cases e) (hS b o e)
  show Ap _ A.in1 (holding [v] (setAdd S v) >>= _) _ _ s';refine Ad (Fj (a.add hu hS' (Z.sup λo e=>hm.heap S _ hSw e) q1 q2 hU (λk' hk'=>?_) (hUk i hlt) λb h' tk htk hsb Z'=>?_))
  .obtain⟨j,hj,e⟩:=jG.mp hk'
   exact e▸hUk j (by omega)
  .refine An ⟨Rx Ip _,ih (i+1) _ (by omega) hlt (W.frame _ s' _ _ hst' htk λb hb o e=>?_) (λb o e=>?_) Z' λs'' hm'' Z''=>?_⟩
   .rw[hsb.2 b (λh:b=S=>hSf (by rw[<- h];exact hb))];exact e
   .rw[hsb.2 b (λh:b=S=>by rw[h,hS0] at e;cases e)];exact hS' b o e
   .refine hR s'' (Moved.trans W.gtrans ((hm.mono hsub).then_heap htk λb o hb e=>?_) hm'') Z''
    rw[hsb.2 b (λh:b=S=>hb (by rw[h];exact Cu))];exact e
end
section
variable {prog:Bc}{w:Bx}{A:Bk}{E:Ac->Ag->Prop}{s:Ag}
def xX (w:Bx):Ar:=!w.params.followText "set-order"
@[reducible] def set0 (w:Bx):Cj:=setO #[] 0 (.fresh 0 0 (xX w))
theorem fP (a:Ac){Q₁:Ac->Ag->Prop}(h:Q₁ (.ref s.heap.objs.size) { s with heap:=s.heap.push (set0 w) }) : Ih (As prog w) A (.call (.builtin "set.__new__") ⟨[.type "set",a],[]⟩) (wants Q₁ E) s:=by
 refine Pm ?_;show Ap _ A.in1 (do checkBuiltinCall "set.__new__" ⟨[.type "set",a],[]⟩;again (.builtin "set.__new__" ⟨[.type "set",a],[]⟩)) _ _ s
 refine Ad (Yx (PySem.F.newCall_set_1 a) (An ⟨Rx Ui _,Jk PySem.F.entry_set_new ?_⟩));rw[Jr Ui _];unfold Ik.«set.__new__» Aa0;have hsub:=PySem.sub_set_self;obtain⟨hp,g,d,tk,os⟩:=s;dsimp only
 wp_walk
 refine Jz (An ?_);dsimp only;simp only[newObj];exact Ad (wpAny_alloc (An (An h)))
theorem sH (w:Bx):TabT (.fresh 0 0 (xX w)) #[]:=⟨⟨by unfold Rs;exact Nn,rfl⟩,.inl rfl,rfl,λx hx=>(by cases hx),(show 0*5<7*3 by decide),λi e h=>(by simp at h),rfl⟩
variable {K:Type}{is:K->Ac->Prop}{hash:K->Ak}{U:Aa K}
theorem YQ (a:AddS prog w is hash s.heap){l:Af}{items:Aw Ac}{Q:Ac->Ag->Prop}(hh:A.handled=none)(hu:A.units+16<Ee)(hl:s.heap.IsList l items)(key:Ai->K)(hkey:∀ i v,items[i]? = Ab v->is (key i) v)(hU:U.length<=1000)(hUk:∀ i,i<items.size->key i∈U)
  (h:∀ (h':Bs) (tk:Ai),SetK is hash s.heap.objs.size (xX w) items.toList (wX key items.size) h'->(∀ b o,s.heap.get? b=Ab o->h'.get? b=Ab o)->Q (.ref s.heap.objs.size) { s with heap:=h',toks:=tk }) :
  Ap (As prog w) A (call (.type "set") [.ref l]) Q E s:=by
 obtain⟨c,tl,hmro⟩:=Do.mro;have hmade:=Do.made;have hsub:=Do.sub;refine Vx (Pm ?_);show Ap _ _ (callAny (.type "set") _) _ _ _;refine An ⟨Ww _ (by decide +kernel),Jk Sz ?_⟩
 rw[Wx (Uj "set" [.ref l] []) rfl];have h1:=Do.notType;have h2:=Do.canCreate;have hct:=Tu (.ref l)
 repeat (any_goals (first|assumption|wp_step))
 refine Jh (fP (.ref l) (E:=E) (Q₁:=λobj s₁=>obj=.ref s.heap.objs.size/\s₁={ s with heap:=s.heap.push (set0 w) }) ⟨rfl,rfl⟩) λr s₁ hr=>?_
 cases r with
 |error e=>exact hr
 |ok fl =>
  cases fl with
  |ret obj =>
   obtain⟨rfl,rfl⟩:=hr;have hS:(s.heap.push (set0 w)).get? s.heap.objs.size=Ab (set0 w):=AT _ rfl;have hT:Ry { s with heap:=s.heap.push (set0 w) } (.ref s.heap.objs.size) "set":=⟨_,hS,rfl⟩
   have hli:=Do.init.lookup;have hbi:=Do.init.bind (.ref s.heap.objs.size)
   repeat (any_goals (first|assumption|wp_step))
   refine Jh (Vi (R:=wants (λr s₂=>r=.none/\∃ h' tk,s₂={ s with heap:=h',toks:=tk } /\ SetK is hash s.heap.objs.size (xX w) items.toList (wX key items.size) h'/\∀ b o,s.heap.get? b=Ab o->h'.get? b=Ab o) E) Do.init.plain Tv (Ze hT ?_)) λr₂ s₂ hr₂=>?_
   .obtain⟨ol,hol,hcl,nl,hdl⟩:=hl
    obtain⟨ocls,odict,odata,oslots⟩:=ol;simp only at hcl hdl;subst hcl;subst hdl;have hol':(s.heap.push (set0 w)).get? l=Ab { cls:=.type "list",dict:=odict,data:=.seq items nl,slots:=oslots }:=Ah _ hol;have hsls:=PySem.F.sub_list_set;have hslf:=PySem.F.sub_list_frozenset;have hne:(Hr "list" == Hr "dict")=false:=by decide
    have hl1:(s.heap.push (set0 w)).IsList l items:=⟨_,hol',rfl,nl,rfl⟩;unfold Ik.«set.__init__» noKeywords Pz;generalize hPI:Od=PI
    wp_walk
    subst hPI;refine Gc hl1 ?_;refine Ad (Vd ?_);have hlS:l<s.heap.objs.size:=Ay hol;have hneI:l≠(s.heap.push (set0 w)).objs.size:=by
     rw[Dj];exact Ci (Jo hlS)
    have nS:s.heap.get? s.heap.objs.size=none:=Jp (Ax _);have nI:s.heap.get? (s.heap.push (set0 w)).objs.size=none:=Jp (by rw[Dj];exact Oq _)
    refine oF (led:=xX w) (V:=items.toList) a ((Walks.list (A:=A.in1.in1.in1) (by simp[hh]) _ l hneI items).toS) s.heap.objs.size ?_ (by show A.units+3+8<Ee;omega) key (λi v hv=>⟨hkey i v hv,?_⟩) hU hUk nS (λb hb=>?_) (items.size-0) 0 _ (by omega) (Gz _)
     ⟨⟨_,AT _ rfl,rfl,rfl⟩,hl1.push _⟩ (λb o e=>Ah _ (Ah _ e)) ?_ λs' hm hS'=>?_
    .rw[Dj];simp only[Az,Dn,Dq,Hc,Wh]
     exact⟨Ci (Ga _),Fv hlS⟩
    .exact Bu (by rw[Bn];exact hv)
    .rw[Dn.mp hb];exact nI
    .exact⟨#[],0,_,Ah _ hS,Set0.nil,sH w,rfl,λe he=>by simp at he⟩
    .obtain⟨h',g',d',tk',os'⟩:=s'
     have eg:g'=s.gens:=hm.gens;have ed:d'=s.drawn:=hm.drawn;have eo:os'=s.os:=hm.os;subst eg;subst ed;subst eo;refine An (An ⟨rfl,h',tk',rfl,hS',λb o e=>?_⟩);refine hm.heap b o (λhb=>?_) (Ah _ (Ah _ e));rcases Az.mp hb with rfl|hb
     .rw[nS] at e;cases e
     .rw[Dn.mp hb,nI] at e;cases e
   .cases r₂ with
    |error e=>exact hr₂
    |ok fl₂ =>
     cases fl₂ with
     |ret r =>
      obtain⟨rfl,h',tk,rfl,hS',hk'⟩:=hr₂
      repeat (any_goals (first|assumption|wp_step))
      exact h _ _ hS' hk'
     |_=>exact hr₂.elim
  |_=>exact hr.elim
theorem ZY (a:AddS prog w is hash s.heap){l:Af}{items:Aw Ac}{Q:Ac->Ag->Prop}(hh:A.handled=none)(hu:A.units+16<Ee)(hl:s.heap.IsTuple l items)(key:Ai->K)(hkey:∀ i v,items[i]? = Ab v->is (key i) v)(hU:U.length<=1000)(hUk:∀ i,i<items.size->key i∈U)
  (h:∀ (h':Bs) (tk:Ai),SetK is hash s.heap.objs.size (xX w) items.toList (wX key items.size) h'->(∀ b o,s.heap.get? b=Ab o->h'.get? b=Ab o)->Q (.ref s.heap.objs.size) { s with heap:=h',toks:=tk }) :
  Ap (As prog w) A (call (.type "set") [.ref l]) Q E s:=by
 obtain⟨c,tl,hmro⟩:=Do.mro;have hmade:=Do.made;have hsub:=Do.sub;refine Vx (Pm ?_);show Ap _ _ (callAny (.type "set") _) _ _ _;refine An ⟨Ww _ (by decide +kernel),Jk Sz ?_⟩
 rw[Wx (Uj "set" [.ref l] []) rfl];have h1:=Do.notType;have h2:=Do.canCreate;have hct:=Tu (.ref l)
 repeat (any_goals (first|assumption|wp_step))
 refine Jh (fP (.ref l) (E:=E) (Q₁:=λobj s₁=>obj=.ref s.heap.objs.size/\s₁={ s with heap:=s.heap.push (set0 w) }) ⟨rfl,rfl⟩) λr s₁ hr=>?_
 cases r with
 |error e=>exact hr
 |ok fl =>
  cases fl with
  |ret obj =>
   obtain⟨rfl,rfl⟩:=hr;have hS:(s.heap.push (set0 w)).get? s.heap.objs.size=Ab (set0 w):=AT _ rfl;have hT:Ry { s with heap:=s.heap.push (set0 w) } (.ref s.heap.objs.size) "set":=⟨_,hS,rfl⟩
   have hli:=Do.init.lookup;have hbi:=Do.init.bind (.ref s.heap.objs.size)
   repeat (any_goals (first|assumption|wp_step))
   refine Jh (Vi (R:=wants (λr s₂=>r=.none/\∃ h' tk,s₂={ s with heap:=h',toks:=tk } /\ SetK is hash s.heap.objs.size (xX w) items.toList (wX key items.size) h'/\∀ b o,s.heap.get? b=Ab o->h'.get? b=Ab o) E) Do.init.plain Tv (Ze hT ?_)) λr₂ s₂ hr₂=>?_
   .obtain⟨ol,hol,hcl,nl,hdl⟩:=hl
    obtain⟨ocls,odict,odata,oslots⟩:=ol;simp only at hcl hdl;subst hcl;subst hdl;have hol':(s.heap.push (set0 w)).get? l=Ab { cls:=.type "tuple",dict:=odict,data:=.seq items nl,slots:=oslots }:=Ah _ hol;have hsls:=PySem.F.sub_tuple_set;have hslf:=PySem.F.sub_tuple_frozenset;have hne:(Hr "tuple" == Hr "dict")=false:=by decide
    have hl1:(s.heap.push (set0 w)).IsTuple l items:=⟨_,hol',rfl,nl,rfl⟩;unfold Ik.«set.__init__» noKeywords Pz;generalize hPI:Od=PI
    wp_walk
    subst hPI;refine Fx hl1 ?_;refine Ad (Vd ?_);have hlS:l<s.heap.objs.size:=Ay hol;have hneI:l≠(s.heap.push (set0 w)).objs.size:=by
     rw[Dj];exact Ci (Jo hlS)
    have nS:s.heap.get? s.heap.objs.size=none:=Jp (Ax _);have nI:s.heap.get? (s.heap.push (set0 w)).objs.size=none:=Jp (by rw[Dj];exact Oq _)
    refine oF (led:=xX w) (V:=items.toList) a ((Yw (A:=A.in1.in1.in1) (by simp[hh]) _ l hneI items).toS) s.heap.objs.size ?_ (by show A.units+3+8<Ee;omega) key (λi v hv=>⟨hkey i v hv,?_⟩) hU hUk nS (λb hb=>?_) (items.size-0) 0 _ (by omega) (Gz _)
     ⟨⟨_,AT _ rfl,rfl,rfl⟩,hl1.push _⟩ (λb o e=>Ah _ (Ah _ e)) ?_ λs' hm hS'=>?_
    .rw[Dj];simp only[Az,Dn,Dq,Hc,Wh]
     exact⟨Ci (Ga _),Fv hlS⟩
    .exact Bu (by rw[Bn];exact hv)
    .rw[Dn.mp hb];exact nI
    .exact⟨#[],0,_,Ah _ hS,Set0.nil,sH w,rfl,λe he=>by simp at he⟩
    .obtain⟨h',g',d',tk',os'⟩:=s'
     have eg:g'=s.gens:=hm.gens;have ed:d'=s.drawn:=hm.drawn;have eo:os'=s.os:=hm.os;subst eg;subst ed;subst eo;refine An (An ⟨rfl,h',tk',rfl,hS',λb o e=>?_⟩);refine hm.heap b o (λhb=>?_) (Ah _ (Ah _ e));rcases Az.mp hb with rfl|hb
     .rw[nS] at e;cases e
     .rw[Dn.mp hb,nI] at e;cases e
   .cases r₂ with
    |error e=>exact hr₂
    |ok fl₂ =>
     cases fl₂ with
     |ret r =>
      obtain⟨rfl,h',tk,rfl,hS',hk'⟩:=hr₂
      repeat (any_goals (first|assumption|wp_step))
      exact h _ _ hS' hk'
     |_=>exact hr₂.elim
  |_=>exact hr.elim
theorem Q3 (a:AddS prog w is hash s.heap){l:Af}{items:Aw Ac}{Q:Ac->Ag->Prop}(hh:A.handled=none)(hu:A.units+16<Ee)(hl:s.heap.IsList l items\/s.heap.IsTuple l items)(key:Ai->K)(hkey:∀ i v,items[i]? = Ab v->is (key i) v)(hU:U.length<=1000)(hUk:∀ i,i<items.size->key i∈U)
  (h:∀ (h':Bs) (tk:Ai),SetK is hash s.heap.objs.size (xX w) items.toList (wX key items.size) h'->(∀ b o,s.heap.get? b=Ab o->h'.get? b=Ab o)->Q (.ref s.heap.objs.size) { s with heap:=h',toks:=tk }) :
  Ap (As prog w) A (call (.type "set") [.ref l]) Q E s:=by
 rcases hl with hl|hl
 .exact YQ a hh hu hl key hkey hU hUk h
 .exact ZY a hh hu hl key hkey hU hUk h
end
theorem tF {α:Type}:∀ {l:Aa α} {i:Ai} (h:i<l.length),(l[i]::l.eraseIdx i).Perm l
 |a::l,0,h=>by simp
 |a::l,i+1,h=>by
  rw[List.eraseIdx_cons_succ,List.getElem_cons_succ];exact(List.Perm.swap _ _ _).trans ((tF (l:=l) (i:=i) (by simpa using h)).cons a)
theorem s9 {α:Type}(next:Ai->Ai):∀ (fuel k:Ai) (left:Aa α) (out:Aw α),left.length=fuel->(Xh next fuel k left out).toList.Perm (out.toList++left)
 |0,k,left,out,h=>by
  have:left=[]:=Po h;subst this;unfold Xh;simp
 |fuel+1,k,left,out,h=>by
  unfold Xh;have hlt:next k % left.length<left.length:=Py _ (by omega)
  rw[Am hlt];dsimp only;refine(s9 next fuel (k+1) _ _ (by rw[List.length_eraseIdx,Bf hlt];omega)).trans ?_
  rw[El,Cf];refine Jc _ ?_;exact tF hlt
theorem lS {α:Type}(next:Ai->Ai)(xs:Aw α) : (Pp next xs).toList.Perm xs.toList:=by
 have:=s9 next xs.size 0 xs.toList #[] (by simp)
 simpa [Pp] using this
theorem yU:Slot "set_iterator" "__next__" "set_iterator.__next__":=
 .of (owner:="set_iterator") (n:="__next__") (by rw[Zq,Uk];kernel_rfl) (by decide +kernel) (by decide +kernel) (by decide +kernel) (.inl (by decide +kernel)) (by rw[Ve];kernel_rfl)
theorem tE:entryFor table "set_iterator.__next__" = Ab Ik.«set_iterator.__next__»:=entryFor_of_fast (by kernel_rfl)
theorem d8 (a:Ac):Zb "set_iterator.__next__" ⟨[a],[]⟩:=by unfold Zb;kernel_rfl
theorem sE:Slot "set_iterator" "__iter__" "set_iterator.__iter__":=
 .of (owner:="set_iterator") (n:="__iter__") (by rw[Zq,Uk];kernel_rfl) (by decide +kernel) (by decide +kernel) (by decide +kernel) (.inl (by decide +kernel)) (by rw[Ve];kernel_rfl)
theorem QC:entryFor table "set_iterator.__iter__" = Ab Ik.«dict_keyiterator.__iter__»:=entryFor_alias (id':="dict_keyiterator.__iter__") (by kernel_rfl) rfl (by decide +kernel) (by kernel_rfl)
theorem ZS (a:Ac):Zb "set_iterator.__iter__" ⟨[a],[]⟩:=by unfold Zb;kernel_rfl
theorem Q9:entryFor table "set.__iter__" = Ab Ik.«frozenset.__iter__»:=entryFor_alias (id':="frozenset.__iter__") (by kernel_rfl) rfl (by decide +kernel) (by kernel_rfl)
theorem F0 (a:Af)(slot given epochThen:Ai):setNext a slot given epochThen=(do
  let (es,epoch,t) <- Wi a
  if <- f8 then
   if epoch != epochThen then unsupported "set_iterator.__next__:elements-changed"
   return ((<- setWalk a)[given]?).map λe=>(e.2,slot)
  if !t.plain&&es.size>1 then unsupported "set_iterator.__next__:the-table-is-plain-no-more"
  (do if !t.led&&!es.isEmpty then unsupported "set:maker-not-led")
  return match es[Ch t.place slot]?,t.place[Ch t.place slot]? with
   |some (_,x),Ab j=>Ab (x,j+1)
   |_,_=>none):=rfl
theorem MV (a:Af):setWalk a=(do
  let (es,epoch,t) <- Wi a
  if <- f8 then return Pp ((<- ask).params.setOrder a epoch) es
  if !t.plain&&es.size>1 then return (<- drawOrder es.size es.toList).toArray
  (do if !t.led&&es.size>1 then unsupported "set:maker-not-led")
  return es):=rfl
theorem V9 (a:Af):setDrawn a=(do
  let (es,_,t) <- Wi a
  let byText <- f8
  return !byText&&(!t.plain&&es.size>1)):=rfl
structure Still (w:Bx)(S:Af)(es:Aw (Ak × Ac))(ep:Ai)(t:Fm):Prop where
 tab:TabT t es
 led:t.led=xX w
def qQ (w:Bx)(S:Af)(ep:Ai)(es:Aw (Ak × Ac)):Aw (Ak × Ac):=if w.params.followText "set-order" = true then Pp (w.params.setOrder S ep) es else es
theorem tZ (w:Bx)(S:Af)(ep:Ai)(es:Aw (Ak × Ac)):(qQ w S ep es).toList.Perm es.toList:=by
 unfold qQ
 split
 .exact lS _ _
 .exact Lf _
theorem u7 (w:Bx)(S:Af)(ep:Ai)(es:Aw (Ak × Ac)):(qQ w S ep es).size=es.size:=by
 rw[<- Bp,(tZ w S ep es).length_eq,Bp]
def itO (slot i:Ai)(S:Af)(n ep:Ai):Cj:={ cls:=.type "set_iterator",data:=.fields #[.int slot 0,.int i 0,.ref S,.int n 0,.int ep 0] }
def At (w:Bx)(I S:Af)(es:Aw (Ak × Ac))(ep:Ai)(t:Fm)(i:Ai)(h:Bs):Prop:=
 ∃ slot,h.get? I=Ab (itO slot i S es.size ep)/\h.get? S=Ab (setO es ep t)/\(w.params.followText "set-order" = true\/Ch t.place slot=i)
section
variable {prog:Bc}{w:Bx}{A:Bk}{E:Ac->Ag->Prop}{s:Ag}{S I:Af}{es:Aw (Ak × Ac)}{ep:Ai}{t:Fm}
theorem Z8 {slot:Ai}{Q:Al (Ac × Ai)->Ag->Prop}(Z:Still w S es ep t)(ho:s.heap.get? S=Ab (setO es ep t))(hs:w.params.followText "set-order" = true\/Ch t.place slot=i)
  (h1:∀ e slot',(qQ w S ep es)[i]? = Ab e->(w.params.followText "set-order" = true\/Ch t.place slot'=i+1)->Q (Ab (e.2,slot')) s) (h2:(qQ w S ep es)[i]? = none->Q none s):Ap (As prog w) A (setNext S slot i ep) Q E s:=by
 rw[F0];refine Ad (Gf ho rfl Z.tab.fits ?_);dsimp only;refine Ad (Ad (Jz (An ?_)));cases hf:w.params.followText "set-order" with
 |true =>
  show Ap _ _ (if (w.params.followText "set-order")=true then _ else _) _ _ _
  rw[Bf hf];have hb:(ep != ep)=false:=by simp
  rw[hb];simp only[Br,Dw];refine Ad ?_;rw[MV];refine Ad (Gf ho rfl Z.tab.fits ?_);dsimp only;refine Ad (Ad (Jz (An ?_)));show Ap _ _ (if (w.params.followText "set-order")=true then _ else _) _ _ _
  rw[Bf hf];refine Ad (Jz (An (An ?_)));show Q (((Pp (w.params.setOrder S ep) es)[i]?).map λe=>(e.2,slot)) s;have ho':qQ w S ep es=Pp (w.params.setOrder S ep) es:=by unfold qQ;rw[Bf hf]
  rw[ho'] at h1 h2;cases hx:(Pp (w.params.setOrder S ep) es)[i]? with
  |none=>exact h2 hx
  |some e=>exact h1 e slot hx (.inl hf)
 |false =>
  show Ap _ _ (if (w.params.followText "set-order")=true then _ else _) _ _ _
  rw[Bb (by rw[hf];decide),Z.tab.plain,Z.led]
  unfold xX;rw[hf];simp only[Il,Lb,Br,Dw,Vc];have hb:Ch t.place slot=i:=by
   rcases hs with h|h
   .rw[hf] at h;cases h
   .exact h
  rw[hb];have ho':qQ w S ep es=es:=by unfold qQ;rw[Bb (by rw[hf];decide)]
  rw[ho'] at h1 h2;refine An ?_;cases hx:es[i]? with
  |none=>exact h2 hx
  |some e =>
   have hi:i<t.place.size:=by rw[Z.tab.size];exact(Dv.mp hx).1
   have hp:t.place[i]? = Ab t.place[i]:=Dz hi;rw[hp];exact h1 e _ hx (.inr (oZ Z.tab.tb.rs hp))
theorem At.type (h:At w I S es ep t i s.heap):s.TypeIs (.ref I) "set_iterator":=by
 obtain⟨slot,h,_⟩:=h;exact⟨_,h,rfl⟩
theorem dX (Z:Still w S es ep t)(hI:At w I S es ep t i s.heap)
  (h1:∀ e slot' slot,(qQ w S ep es)[i]? = Ab e->s.heap.get? I=Ab (itO slot i S es.size ep)->s.heap.get? S=Ab (setO es ep t)->(w.params.followText "set-order" = true\/Ch t.place slot'=i+1) ->
   Q e.2 { s with heap:=(s.heap.update I (Vz (·.setIfInBounds 0 (Fz slot')))).update I (Vz (·.setIfInBounds 1 (Fz ((i:Ak)+1)))) })
  (h2:(qQ w S ep es)[i]? = none->Ap (As prog w) A (do setField (.ref I) 2 .none;raiseNew (<- newExc (.type "StopIteration") [])) (λ(fin:PySem.Fin) s'=>∃ r,fin=.done (.ret r)/\Q r s') E s) :
  Ap (As prog w) A (Ik.«set_iterator.__next__» ⟨[.ref I],[]⟩) (λfin s'=>∃ r,fin=.done (.ret r)/\Q r s') E s:=by
 obtain⟨slot,hg,hS,hb⟩:=hI;show Ap _ _ (fieldsOf (.ref I) >>= _) _ _ s;refine Ad (wpAny_fieldsOf hg rfl ?_);show Ap _ _ (setEntries S >>= _) _ _ s;refine Ad (Wa hS rfl Z.tab.fits ?_);have hne:(((es.size:Ai):Ak) != ((es.size:Ai):Ak))=false:=by simp
 rw[hne];simp only[Br,Dw];show Ap _ _ (setNext S (slot:Ak).toNat (i:Ak).toNat (ep:Ak).toNat >>= _) _ _ s;rw[Hv,Hv,Hv];refine Ad (Z8 Z hS hb (λe slot' he hb'=>?_) λhe=>?_)
 .dsimp only
  refine Ad (Nj hg rfl (by show 0<5;decide) ?_)
  have hg2:=Fo (Vz (·.setIfInBounds 0 (Fz slot'))) hg rfl
  refine Ad (Nj hg2 rfl (by show 1<5;decide) ?_)
  exact An ⟨_,rfl,h1 e slot' slot he hg hS hb'⟩
 .exact h2 he
theorem MU (hh:A.handled=none)(hne:S≠I)(Z:Still w S es ep t):Walks prog w A I [I,S] [I] es.size (λi v=>∃ e,(qQ w S ep es)[i]? = Ab e/\e.2=v) (λi h=>At w I S es ep t i h) where
 sub:=λb hb=>by simp at hb;simp[hb]
 frame:=λi h h' ⟨slot,h1,h2,h3⟩ hk=>⟨slot,hk I (by simp) _ h1,hk S (by simp) _ h2,h3⟩
 item:=λi s Q E hi st hQ=>by
  unfold Ng;refine Ad (Kn (Ef (name:=Hy "__next__") st.type yU (Ea yU st.type tE (dX Z st (λe slot' slot he hg hS hb=>?_) λhe=>?_) (d8 _))))
  .refine An (hQ e.2 _ s.toks ⟨e,he,rfl⟩ ⟨slot',?_,?_,hb⟩ λb o hb e=>?_)
   .exact Fo _ (Fo _ hg rfl) rfl
   .rw[Di _ _ hne.symm,Di _ _ hne.symm];exact hS
   .have hb:I≠b:=λz=>hb (by simp[z])
    rw[Di _ _ hb,Di _ _ hb];exact e
  .have:=Array.getElem?_eq_none_iff.mp he
   rw[u7] at this;omega
 done:=λs Q E st hQ=>by
  unfold Ng;refine Ad (Kn (Ef (name:=Hy "__next__") st.type yU (Ea yU st.type tE (dX Z st (λe slot' slot he hg hS hb=>?_) λhe=>?_) (d8 _))))
  .have:=(Dv.mp he).1
   rw[u7] at this;omega
  .obtain⟨slot,hg,hS,hb⟩:=st
   refine Ad (Nj hg rfl (by show 2<5;decide) ?_)
   refine Ad ?_;simp only[newExc,newTuple];refine Ad (Ek ?_ (by size_fits))
   refine Ad (m:=Qj _ _) (Yx (a:=Cz) (by first|rfl|(simp only[Qj];rfl)) ?_)
   refine Ek ?_ (by size_fits)
   simp only[raiseNew];refine Ad (wpAny_handled ?_);rw[show A.in1.handled=none from hh]
   refine Ad (An (wpAny_throw ?_));refine Ad (Ln (T:="StopIteration") (b:=true) ⟨_,AT _ rfl,rfl⟩ Uy ?_);refine An (hQ _ s.toks λb o hb e=>?_);exact(((Jy ..).extBut.push _).push _) b o (λz=>hb (by simp[z])) e
 self:=λi s Q E st hQ=>by
  refine Yh st.type sE (Ea sE st.type QC ?_ (ZS _));show Ap _ _ (ret (.ref I)) _ _ s;exact An ⟨_,rfl,"set_iterator",_,st.type,yU.lookup,hQ⟩
theorem U0 (Z:Still w S es ep t)(ho:s.heap.get? S=Ab (setO es ep t))(h:Q (.ref s.heap.objs.size) { s with heap:=s.heap.push (itO 0 0 S es.size ep) }) : Ap (As prog w) A (Od (.ref S)) Q E s:=by
 have hT:s.TypeIs (.ref S) "set":=⟨_,ho,rfl⟩;refine Yh hT Ul (Ea Ul hT Q9 ?_ (PySem.F.args_set_iter_1 _));show Ap _ _ (Si S >>= _) _ _ s;unfold Si;refine Ad (Ad (Wa ho rfl Z.tab.fits (An ?_)));refine Ad ?_;rw[V9];refine Ad (Gf ho rfl Z.tab.fits ?_);dsimp only;refine Ad (Ad (Jz (An (An ?_))));rw[Z.tab.plain];simp only[Il,Lb,Vb,Br,Dw];refine Ad (An ?_);unfold setEpoch;refine Ad (Ad (Gf ho rfl Z.tab.fits (An ?_)));refine Ad (Ek (An ⟨_,rfl,"set_iterator",_,⟨_,AT _ rfl,rfl⟩,yU.lookup,h⟩))
theorem GB (Z:Still w S es ep t)(ho:s.heap.get? S=Ab (setO es ep t)):At w s.heap.objs.size S es ep t 0 (s.heap.push (itO 0 0 S es.size ep)):=
 ⟨0,AT _ rfl,Ah _ ho,.inr (Q0 Z.tab.tb.rs)⟩
end
end _S
namespace _S
open PySem PySem.W PyProof.Rows
variable {vs:Aa Ac}{n lo:Ai}{arr m:Aw Bv}
structure Ord {K:Type}(lt:K->K->Ar):Prop where
 irr:∀ a,lt a a=false
 tr:∀ {a b c},lt a b=true->lt b c=true->lt a c=true
 tri:∀ {a b},lt a b=false->a=b\/lt b a=true
def ltI (a b:Ak):Ar:=decide (a<b)
theorem qAB:Ord ltI:=⟨λa=>by simp[ltI],λ{a b c} h1 h2=>by simp only[ltI,Ce] at *;omega,λ{a b} h=>by simp only[ltI,Ce,Ia] at *;omega⟩
theorem iM:∀ a:Aa Ak,_H.lexLt a a=false
 |[]=>rfl
 |x::xs=>by rw[_H.lexLt_cons,Bf rfl];exact iM xs
theorem W0:∀ {a b c:Aa Ak},_H.lexLt a b=true->_H.lexLt b c=true->_H.lexLt a c=true
 |_,[],[],_,h=>by cases h
 |_,_::_,[],_,h=>by cases h
 |[],_,_::_,_,_=>rfl
 |_::_,[],_::_,h,_=>by cases h
 |x::xs,y::ys,z::zs,h1,h2=>by
  rw[_H.lexLt_cons] at h1 h2 ⊢;by_cases e1:x=y
  .subst e1
   rw[Bf rfl] at h1;by_cases e2:x=z
   .rw[Bf e2] at h2 ⊢;exact W0 h1 h2
   .rw[Bb e2] at h2 ⊢;exact h2
  .rw[Bb e1] at h1
   have h1:=Ca h1;by_cases e2:y=z
   .subst e2;rw[Bb e1];exact Cd h1
   .rw[Bb e2] at h2
    have h2:=Ca h2;rw[Bb (by omega)]
    exact Cd (by omega)
theorem iN:∀ {a b:Aa Ak},_H.lexLt a b=false->a=b\/_H.lexLt b a=true
 |[],[],_=>.inl rfl
 |[],_::_,h=>by cases h
 |_::_,[],_=>.inr rfl
 |x::xs,y::ys,h=>by
  rw[_H.lexLt_cons] at h ⊢;by_cases e:x=y
  .subst e
   rw[Bf rfl] at h ⊢;rcases iN h with h|h
   .exact .inl (by rw[h])
   .exact .inr h
  .rw[Bb e] at h
   have h:=Ms h;rw[Bb (Fy e)];exact .inr (Cd (by omega))
theorem xG:Ord _H.lexLt:=⟨iM,W0,iN⟩
theorem dI {α:Type}{p q:α->Ar}:∀ {l:Aa α},(∀ x∈l,p x=true->q x=true)->(∃ x∈l,q x=true/\p x=false)->l.countP p<l.countP q
 |[],_,⟨x,h,_⟩=>by simp at h
 |a::l,h,⟨x,hx,h1,h2⟩=>by
  have le:l.countP p<=l.countP q:=Um λy hy=>h y (by simp[hy])
  rw[Zf,Zf];rcases Az.mp hx with rfl|hx
  .rw[Bb (by rw[h2];decide),Bf h1];omega
  .have ih:=dI (l:=l) (λy hy=>h y (by simp[hy])) ⟨x,hx,h1,h2⟩
   have:=h a (by simp)
   cases hp:p a with
   |false=>rw[Bb (by decide)];split <;> omega
   |true=>rw[Bf rfl,Bf (this hp)];omega
section
variable {K:Type}{lt':K->K->Ar}
def gU (lt':K->K->Ar)(ks:Aa K)(x:K):Ak:=(ks.countP (λk=>lt' k x):Ai)
theorem cF (O:Ord lt'){ks:Aa K}{x y:K}(hx:x∈ks):lt' x y=decide (gU lt' ks x<gU lt' ks y):=by
 unfold gU;cases h:lt' x y with
 |true =>
  refine(Cd ?_).symm;have:=dI (l:=ks) (p:=λk=>lt' k x) (q:=λk=>lt' k y) (λz _ hz=>O.tr hz h) ⟨x,hx,h,O.irr x⟩;omega
 |false =>
  refine(Cb ?_).symm;have:ks.countP (λk=>lt' k y)<=ks.countP (λk=>lt' k x):=by
   rcases O.tri h with e|h'
   .rw[e];exact Ax _
   .exact Um λz _ hz=>O.tr hz h'
  omega
def fU (lt':K->K->Ar)(ks:Aa K)(d:K)(i j:Ai):Ar:=lt' (ks.getD i d) (ks.getD j d)
def Nf (lt':K->K->Ar)(l:Aa K):Prop:=l.Pairwise λa b=>lt' b a=false
theorem f9 (O:Ord lt'):∀ {a b:Aa K},Nf lt' a->Nf lt' b->a.Perm b->a=b
 |[],b,_,_,p=>(List.nil_perm.mp p).symm
 |x::a,b,ha,hb,p=>by
  cases b with
  |nil=>exact absurd p.symm (by simp)
  |cons y b =>
   unfold Nf at ha hb;rw[Ev] at ha hb;have e:x=y:=by
    rcases Az.mp (p.mem_iff.mp (.head _)) with e|e
    .exact e
    .rcases Az.mp (p.mem_iff.mpr (.head _)) with e'|e'
     .exact e'.symm
     .have h1:=ha.1 y e'
      have h2:=hb.1 x e;rcases O.tri h1 with e|h
      .exact e.symm
      .rw[h2] at h;cases h
   subst e;rw[f9 O ha.2 hb.2 (List.Perm.cons_inv p)]
theorem WD (O:Ord lt'){l:Aa K}(h:Nf lt' l)(nd:l.Nodup):l.Pairwise λa b=>lt' a b=true:=by
 refine List.Pairwise.imp₂ (λ{a b} h1 h2=>?_) h nd;exact(O.tri h1).elim (λe=>absurd e.symm h2) id
def xS (lt':K->K->Ar)(l:Aa K):Aa K:=l.mergeSort λa b=>!lt' b a
theorem w4 (l:Aa K):(xS lt' l).Perm l:=List.mergeSort_perm _ _
theorem fG (O:Ord lt')(l:Aa K):Nf lt' (xS lt' l):=by
 have:=Ta (le:=λa b=>!lt' b a) (λa b c h1 h2=>?_) (λa b=>?_) l
 .exact this.imp λh=>by simpa using h
 .have h1:lt' b a=false:=by simpa using h1
  have h2:lt' c b=false:=by simpa using h2
  cases h3:lt' c a with
  |false=>rfl
  |true =>
   rcases O.tri h1 with e|h
   .rw[<- e] at h3;rw[h3] at h2;cases h2
   .have:=O.tr h3 h;rw[h2] at this;cases this
 .cases h:lt' b a with
  |false=>rfl
  |true =>
   cases h':lt' a b with
   |false=>rfl
   |true=>have:=O.tr h h';rw[O.irr] at this;cases this
def pX (lt':K->K->Ar)(x:K):Aa K->Aa K
 |[]=>[x]
 |y::l=>if lt' x y then x::y::l else if lt' y x then y::pX lt' x l else y::l
def srt (lt':K->K->Ar):Aa K->Aa K
 |[]=>[]
 |x::xs=>pX lt' x (srt lt' xs)
set_option tactic.hygienic true in
theorem mJ (O:Ord lt')(x y:K):∀ l:Aa K,y∈pX lt' x l↔y=x\/y∈l
 |[]=>by simp[pX]
 |z::l=>by
  unfold pX
  split
  .simp
  .rename_i h1
   split
   .rw[Az,mJ O x y l,Az]
    exact⟨λh=>by rcases h with h|h|h <;> simp[h],λh=>by rcases h with h|h|h <;> simp[h]⟩
   .rename_i h2
    have:x=z:=(O.tri (by simpa using h1)).elim id λh=>absurd h h2
    subst this;simp
set_option tactic.hygienic true in
theorem i9 (O:Ord lt')(x:K):∀ l:Aa K,l.Pairwise (λa b=>lt' a b=true)->(pX lt' x l).Pairwise (λa b=>lt' a b=true)
 |[],_=>by simp[pX]
 |z::l,h=>by
  rw[Ev] at h;unfold pX
  split
  .rename_i h1
   refine Ev.mpr ⟨λy hy=>?_,Ev.mpr h⟩;rcases Az.mp hy with rfl|hy
   .exact h1
   .exact O.tr h1 (h.1 y hy)
  .split
   .rename_i h2
    refine Ev.mpr ⟨λy hy=>?_,i9 O x l h.2⟩;rcases (mJ O x y l).mp hy with rfl|hy
    .exact h2
    .exact h.1 y hy
   .exact Ev.mpr h
theorem uC (O:Ord lt')(y:K):∀ l:Aa K,y∈srt lt' l↔y∈l
 |[]=>by simp[srt]
 |x::l=>by rw[srt,mJ O,uC O y l,Az]
theorem bK (O:Ord lt'):∀ l:Aa K,(srt lt' l).Pairwise (λa b=>lt' a b=true)
 |[]=>by simp[srt]
 |x::l=>i9 O x _ (bK O l)
theorem kJ (O:Ord lt'):∀ {a b:Aa K},a.Pairwise (λa b=>lt' a b=true)->b.Pairwise (λa b=>lt' a b=true)->(∀ x,x∈a↔x∈b)->a=b
 |[],[],_,_,_=>rfl
 |[],y::b,_,_,h=>by have:=(h y).mpr (by simp);simp at this
 |x::a,[],_,_,h=>by have:=(h x).mp (by simp);simp at this
 |x::a,y::b,ha,hb,h=>by
  rw[Ev] at ha hb;have asym:∀ {u v},lt' u v=true->lt' v u=true->Fh:=λp q=>by have:=O.tr p q;rw[O.irr] at this;cases this
  have e:x=y:=by
   rcases Az.mp ((h x).mp (by simp)) with e|e
   .exact e
   .rcases Az.mp ((h y).mpr (by simp)) with e'|e'
    .exact e'.symm
    .exact(asym (hb.1 x e) (ha.1 y e')).elim
  subst e;have ne:∀ {z:K} {l:Aa K},(∀ y∈l,lt' x y=true)->z∈l->z≠x:=λh hz e=>by subst e;have:=h _ hz;rw[O.irr] at this;cases this
  rw[kJ O ha.2 hb.2 λz=>⟨λhz=>?_,λhz=>?_⟩]
  .exact(Az.mp ((h z).mp (by simp[hz]))).elim (λe=>absurd e (ne ha.1 hz)) id
  .exact(Az.mp ((h z).mpr (by simp[hz]))).elim (λe=>absurd e (ne hb.1 hz)) id
theorem DX (O:Ord lt'){l xs:Aa K}(h:Nf lt' l)(nd:l.Nodup)(m:∀ x,x∈l↔x∈xs):l=srt lt' xs:=
 kJ O (WD O h nd) (bK O xs) λx=>by rw[m,uC O]
end
theorem BN:Zx (.type "set") "__len__" = pure (Ab (.builtin "set.__len__")):=PySem.F.slot_set_len.lookup
section
variable {prog:Bc}{w:Bx}{A:Bk}{E:Ac->Ag->Prop}{s:Ag}{S:Af}{es:Aw (Ak × Ac)}{ep:Ai}{t:Fm}
theorem VU {r:Af}(hT:s.TypeIs (.ref r) "set"){Q:Ar->Ag->Prop}(h:Q false s):Ap (As prog w) A (Ql (.ref r)) Q E s:=by
 unfold Ql;refine Ad (Kk hT BN ?_);generalize hid:("set.__len__" : Em)=id0
 wp_delta
 rw[show splitId id0=Ab ("set","__len__") from by subst hid;decide +kernel]
 subst hid;refine Ad (Ln (T:="set") (b:=true) hT (by rw[Ve];kernel_rfl) ?_)
 refine Tw (λhab=>absurd hab (by decide)) (λ_=>?_)
 refine Tw (λ_=>?_) (λhab=>absurd (by decide +kernel) hab)
 exact Ad (Mz hT (An h))
theorem cT {Q:Aa Ac->Ag->Prop}(hh:A.handled=none)(Z:Still w S es ep t)(ho:s.heap.get? S=Ab (setO es ep t))(hn:es.size<=1000)
  (h:∀ h' tk,(∀ b o,s.heap.get? b=Ab o->h'.get? b=Ab o)->s.heap.objs.size<h'.objs.size->Q ((qQ w S ep es).toList.map (·.2)) { s with heap:=h',toks:=tk }) : Ap (As prog w) A (collect (.ref S)) Q E s:=by
 have hS:S<s.heap.objs.size:=Ay ho;unfold collect;refine Ad (Vd (Jk PySem.F.entry_proto_collect ?_));rw[Jr PySem.F.plain_proto_collect _];show Ap _ A.in1 (newList [] >>= λl=>again (.builtin "list.__iadd__" ⟨[l,.ref S],[]⟩)) _ _ s;refine Ad (Ek (An ⟨Rx Tc _,Jk PySem.F.entry_list_iadd ?_⟩));rw[Jr Tc _];have hD:(s.heap.push { cls:=.type "list",data:=.seq ([] : Aa Ac).toArray }).get? s.heap.objs.size=Ab { cls:=.type "list",data:=.seq #[] }:=AT _ rfl;have ho1:(s.heap.push { cls:=.type "list",data:=.seq ([] : Aa Ac).toArray }).get? S=Ab (setO es ep t):=Ah _ ho;show Ap _ A.in1 (Qm (.ref s.heap.objs.size) (.ref S) (.ref s.heap.objs.size)) _ _ _;unfold Qm;have hT1:Ry { s with heap:=s.heap.push { cls:=.type "list",data:=.seq ([] : Aa Ac).toArray } } (.ref S) "set":=⟨_,ho1,rfl⟩
 refine Ad (Mz hT1 ?_);have h1:Sj (.ref s.heap.objs.size) (.ref S)=false:=by simp[Sj];exact Fv hS
 rw[Bb (by rw[h1];decide)]
 refine Ad (U0 (s:={ s with heap:=s.heap.push { cls:=.type "list",data:=.seq ([] : Aa Ac).toArray } }) Z ho1 ?_)
 have hD2:=Ah (itO 0 0 S es.size ep) hD;have hT2:Ry { s with heap:=(s.heap.push { cls:=.type "list",data:=.seq ([] : Aa Ac).toArray }).push (itO 0 0 S es.size ep) } (.ref S) "set":=⟨_,Ah _ ho1,rfl⟩
 refine Ad (Fj (VU hT2 ?_));refine Tw (λ_=>?_) (λhab=>absurd (by decide) hab)
 refine Ad (Gs (Ad ?_));show Ap _ _ (updateSeq s.heap.objs.size (·.push .none) >>= λ_=>updateSeq s.heap.objs.size (·.pop)) _ _ _
 refine Ad (Zr hD2 rfl ?_);have hD3:=Fo (Es (·.push Cz)) hD2 rfl
 refine Zr (hz:=by seq_fits) hD3 rfl ?_
 have hD4:=Fo (Es (·.pop)) hD3 rfl
 have sz:(s.heap.push { cls:=.type "list",data:=.seq ([] : Aa Ac).toArray }).objs.size=s.heap.objs.size+1:=Dj ..;have oth:∀ {b:Af} {o:Cj},b≠s.heap.objs.size->((s.heap.push { cls:=.type "list",data:=.seq ([] : Aa Ac).toArray }).push (itO 0 0 S es.size ep)).get? b=Ab o ->
   ((((s.heap.push { cls:=.type "list",data:=.seq ([] : Aa Ac).toArray }).push (itO 0 0 S es.size ep)).update s.heap.objs.size (Es (·.push Cz))).update s.heap.objs.size (Es (·.pop))).get? b=Ab o:=
  λhb e=>(Di _ _ (Fy hb)).trans ((Di _ _ (Fy hb)).trans e)
 have at0:=GB (w:=w) (s:={ s with heap:=s.heap.push { cls:=.type "list",data:=.seq ([] : Aa Ac).toArray } }) Z ho1
 refine An ⟨Rx PySem.F.plain_extend_loop _,?_⟩;refine codeAny_extend_loopS ((MU (prog:=prog) (A:=A.in1) (I:=(s.heap.push { cls:=.type "list",data:=.seq ([] : Aa Ac).toArray }).objs.size) hh (by rw[sz];exact Ci (Jo hS)) Z).toS) (by rw[Fg];lia) s.heap.objs.size ?_ _ es.size 0 _ #[] _ rfl (Gz _) ?_ hD4 (ItemsOf.nil _) λs' acc c hm hS' hacc=>?_
 .rw[sz]
  simp only[Az,Dq,Hc,Wh];exact⟨Ci (Ga _),Fv hS⟩
 .obtain⟨slot,a1,a2,a3⟩:=at0
  exact⟨slot,oth (by rw[sz];exact Fv (Ga _)) a1,oth (Ci hS) a2,a3⟩
 .show Ap _ A (load s.heap.objs.size >>= _) _ _ s'
  refine Ad (wpAny_load hS' ?_);obtain⟨h',g',d',tk',os'⟩:=s';have eg:g'=s.gens:=hm.gens;have ed:d'=s.drawn:=hm.drawn;have eo:os'=s.os:=hm.os;subst eg;subst ed;subst eo;have e:acc.toList=(qQ w S ep es).toList.map (·.2):=by
   refine Yi λi=>?_;rw[Bn,Cg,Bn];by_cases hi:i<es.size
   .have hi':i<acc.size:=by rw[hacc.1];exact hi
    obtain⟨e,he,q⟩:=hacc.2 i acc[i] (Dz hi');rw[Dz hi',he,Tt,q]
   .rw[Tx (by rw[hacc.1];lia),Tx (by rw[u7];lia)]
    rfl
  refine An ?_;show Q acc.toList _;rw[e];refine h h' tk' (λb o q=>?_) (Ay hS');have hb:b<s.heap.objs.size:=Ay q;refine hm.heap b o (λhx=>?_) (oth (Ci hb) (Ah _ (Ah _ q)));simp only[Az,Dq,Hc] at hx;rcases hx with hx|hx
  .exact absurd hb (by rw[hx];exact Du _)
  .exact absurd hb (by rw[hx,sz];exact Nw.mpr (Oq _))
end
def l8:Ar->Bv->Aw Bv->Ai->Ai->Ai->Ot Fp Ke (Al Ai):=sortPriv% PySem.Builtin.gallop
def UF:Aw Bv->Aw Bv->Ot Fp Ke (Aw Bv):=sortPriv% PySem.Builtin.mergeLo
def UE:Aw Bv->Aw Bv->Ot Fp Ke (Aw Bv):=sortPriv% PySem.Builtin.mergeHi
def nv:Bv:=(Cz,Cz)
section
variable {M:Nl}{A:Bk}{E:Ac->Ag->Prop}{s:Ag}{κ : Mf}{U:Bv->Prop}{r:Bv->Ak}
structure Cm (M:Nl)(A:Bk)(s:Ag)(κ : Mf)(U:Bv->Prop)(r:Bv->Ak):Prop where
 lt:∀ {x y:Bv},U x->U y->∀ {E:Ac->Ag->Prop} {Q:Al Ar->Fp->Prop} {st:Fp},kindOf st=κ->Q (Ab (decide (r x<r y))) st->wpS M A E s (lt' x y) Q st
theorem zC {i:Ai}{Q:Bv->Fp->Prop}{st:Fp}(h:i<arr.size)(q:Q (arr.getD i nv) st):wpS M A E s (elem' arr i) Q st:=by
 rw[elem'_eq,getElem?_pos arr i h];have e:arr.getD i nv=arr[i]:=by simp[Ge,h]
 rw[e] at q;exact Bq q
theorem ZP (C:Cm M A s κ U r){left:Ar}{key:Bv}{arr:Aw Bv}{i:Ai}{Q:Al Ar->Fp->Prop}{st:Fp}(hk:kindOf st=κ)(hi:i<arr.size)(hU:U (arr.getD i nv))(hkU:U key)
  (q:Q (Ab (if left then decide (r (arr.getD i nv)<r key) else !decide (r key<r (arr.getD i nv)))) st) :
  wpS M A E s (do let x <- elem' arr i;if left then lt' x key else (do let a <- lt' key x;pure (a.map (λb=>!b)))) Q st:=by
 refine Ba (zC hi ?_);cases left with
 |true=>exact C.lt hU hkU hk q
 |false=>exact Ba (C.lt hkU hU hk (Bq q))
theorem nG (C:Cm M A s κ U r){left:Ar}{key:Bv}{arr:Aw Bv}{base n hint cut:Ai}{Q:Al Ai->Fp->Prop}{st:Fp}(hk:kindOf st=κ)(hh:hint<n)(hb:base+n<=arr.size)(hU:∀ i,i<n->U (arr.getD (base+i) nv))(hkU:U key)(hc:cut<=n)
  (hB:∀ i,i<n->(if left then decide (r (arr.getD (base+i) nv)<r key) else !decide (r key<r (arr.getD (base+i) nv)))=decide (i<cut)) (h:Q (Ab cut) st):wpS M A E s (l8 left key arr base n hint) Q st:=by
 have B:∀ {i:Ai} {E:Ac->Ag->Prop} {Q:Al Ar->Fp->Prop},i<n->Q (Ab (decide (i<cut))) st->wpS M A E s (do let x <- elem' arr (base+i);if left then lt' x key else (do let a <- lt' key x;pure (a.map (λb=>!b)))) Q st:=by
  intro i E Q hi q;exact ZP C hk (by lia) (hU i hi) hkU (by rw[hB i hi];exact q)
 have bin:∀ {lo hi:Ai} {f:Ai->Al (Al Ai) × Ai × Ai->Ot Fp Ke (ForInStep (Al (Al Ai) × Ai × Ai))},lo<=cut->cut<=hi->hi<=n ->
   (∀ x a b,f x (none,a,b)=if a>=b then pure (.done (none,a,b)) else ((do let x <- elem' arr (base+(a+(b-a)/2));if left then lt' x key else (do let a <- lt' key x;pure (a.map (λb=>!b)))) >>= λo=>match o with
    |some more=>if more then pure (.yield (none,a+(b-a)/2+1,b)) else pure (.yield (none,a,a+(b-a)/2))
    |_=>pure (.done (Ab none,a,b))))->wpS M A E s (forIn [0:n] (none,lo,hi) f) (λc st'=>st'=st/\∃ a,c=(none,a,cut)) st:=by
  intro lo hi f h1 h2 h3 hf;refine Fe (I:=λx c st'=>st'=st/\∃ a b,c=(none,a,b)/\a<=cut/\cut<=b/\b<=n/\b-a<=n-x) ?_ ?_ ⟨rfl,lo,hi,rfl,h1,h2,h3,by lia⟩
  .rintro x c st' _ hx ⟨rfl,a,b,rfl,q1,q2,q3,q4⟩
   rw[hf];by_cases g:a>=b
   .rw[Bf g];exact Bq ⟨rfl,a,by rw[show b=cut by lia]⟩
   .rw[Bb g]
    refine Ba (B (by lia) ?_)
    by_cases z:a+(b-a)/2<cut
    .simp only[z,Jb,Dp]
     exact Bq ⟨rfl,_,_,rfl,by lia,q2,q3,by lia⟩
    .simp only[z,Kb,Br,Dw]
     exact Bq ⟨rfl,_,_,rfl,q1,by lia,by lia,by lia⟩
  .rintro c st' ⟨rfl,a,b,rfl,q1,q2,q3,q4⟩
   exact⟨rfl,a,by rw[show b=cut by lia]⟩
 refine Ba (B hh ?_);dsimp only;by_cases hr:hint<cut
 .simp only[hr,Jb,Dp]
  refine Ba (He (Fe (I:=λx c st'=>st'=st/\∃ a b,c=(none,a,b)/\hint+a<cut/\a<b/\x<b)
   (Q:=λc st'=>st'=st/\∃ a b,c=(none,a,b)/\hint+a<cut/\cut<=hint+min b (n-hint)) ?_ ?_ ⟨rfl,0,1,rfl,hr,by lia,by lia⟩) ?_)
  .rintro x c st' _ hx ⟨rfl,a,b,rfl,q1,q2,q3⟩
   dsimp only;by_cases g:b>=n-hint
   .rw[Bf g];exact Bq ⟨rfl,a,b,rfl,q1,by lia⟩
   .rw[Bb g]
    refine Ba (B (by lia) ?_)
    by_cases z:hint+b<cut
    .simp only[z,Jb,Il,Br,Dw]
     exact Bq ⟨rfl,_,_,rfl,z,by lia,by lia⟩
    .simp only[z,Kb,Vc,Dp]
     exact Bq ⟨rfl,a,b,rfl,q1,by lia⟩
  .rintro c st' ⟨rfl,a,b,rfl,q1,q2,q3⟩
   exact⟨rfl,a,b,rfl,q1,by lia⟩
  .rintro c st' ⟨rfl,a,b,rfl,q1,q2⟩
   dsimp only;refine Ba (He (bin (lo:=hint+a+1) (hi:=hint+min b (n-hint)) (by lia) q2 (by lia) λ_ _ _=>rfl) ?_)
   rintro c st' ⟨rfl,a',rfl⟩;exact Bq h
 .simp only[hr,Kb,Br,Dw]
  refine Ba (He (Fe (I:=λx c st'=>st'=st/\∃ a b,c=(none,a,b)/\cut+a<=hint/\a<b/\x<b)
   (Q:=λc st'=>st'=st/\∃ a b,c=(none,a,b)/\cut+a<=hint/\hint+1<=cut+min b (hint+1)) ?_ ?_ ⟨rfl,0,1,rfl,by lia,by lia,by lia⟩) ?_)
  .rintro x c st' _ hx ⟨rfl,a,b,rfl,q1,q2,q3⟩
   dsimp only;by_cases g:b>=hint+1
   .rw[Bf g];exact Bq ⟨rfl,a,b,rfl,q1,by lia⟩
   .rw[Bb g]
    refine Ba (B (by lia) ?_)
    by_cases z:hint-b<cut
    .simp only[z,Jb,Dp]
     exact Bq ⟨rfl,a,b,rfl,q1,by lia⟩
    .simp only[z,Kb,Br,Dw]
     exact Bq ⟨rfl,_,_,rfl,by lia,by lia,by lia⟩
  .rintro c st' ⟨rfl,a,b,rfl,q1,q2,q3⟩
   exact⟨rfl,a,b,rfl,q1,by lia⟩
  .rintro c st' ⟨rfl,a,b,rfl,q1,q2⟩
   dsimp only;refine Ba (He (bin (lo:=hint+1-min b (hint+1)) (hi:=hint-a) (by lia) (by lia) (by lia) λ_ _ _=>rfl) ?_)
   rintro c st' ⟨rfl,a',rfl⟩;exact Bq h
end
def Le (r:Bv->Ak)(x y:Bv):Prop:=r x<=r y
structure Mg (r:Bv->Ak)(o A B T:Aa Bv):Prop where
 p1:(o++A).Pairwise (Le r)
 p2:(o++B).Pairwise (Le r)
 pm:(o++A++B).Perm T
structure Mh (r:Bv->Ak)(A B o T:Aa Bv):Prop where
 p1:(A++o).Pairwise (Le r)
 p2:(B++o).Pairwise (Le r)
 pm:(A++B++o).Perm T
section
variable {r:Bv->Ak}{o A B A1 A2 B1 B2 T:Aa Bv}
theorem Mg.b (h:Mg r o A (B1++B2) T)(l:∀ x∈B1,∀ y∈A,Le r x y):Mg r (o++B1) A B2 T:=by
 obtain⟨p1,p2,pm⟩:=h;refine⟨?_,by rw[Cf];exact p2,?_⟩
 .rw[Cf]
  rw[Dl] at p1 p2 ⊢;refine⟨p1.1,?_,λx hx y hy=>?_⟩
  .rw[Dl]
   exact⟨(Dl.mp p2.2.1).1,p1.2.1,l⟩
  .rcases Cn.mp hy with hy|hy
   .exact p2.2.2 x hx y (Dk _ hy)
   .exact p1.2.2 x hx y hy
 .refine Pq ?_ pm
  simp only[Cf];refine Jc _ ?_;simp only[<- Cf];exact Iq _ Jd
theorem Mg.a (h:Mg r o (A1++A2) B T)(l:∀ x∈A1,∀ y∈B,Le r x y):Mg r (o++A1) A2 B T:=by
 obtain⟨p1,p2,pm⟩:=h;refine⟨by rw[Cf];exact p1,?_,by simpa only [Cf] using pm⟩
 rw[Cf];rw[Dl] at p1 p2 ⊢;refine⟨p2.1,?_,λx hx y hy=>?_⟩
 .rw[Dl]
  exact⟨(Dl.mp p1.2.1).1,p2.2.1,l⟩
 .rcases Cn.mp hy with hy|hy
  .exact p1.2.2 x hx y (Dk _ hy)
  .exact p2.2.2 x hx y hy
theorem Mh.a (h:Mh r (A1++A2) B o T)(l:∀ x∈B,∀ y∈A2,Le r x y):Mh r A1 B (A2++o) T:=by
 obtain⟨p1,p2,pm⟩:=h;refine⟨by rw[<- Cf];exact p1,?_,?_⟩
 .rw[Cf] at p1
  rw[Dl] at p1 p2 ⊢;refine⟨p2.1,p1.2.1,λx hx y hy=>?_⟩;rcases Cn.mp hy with hy|hy
  .exact l x hx y hy
  .exact p2.2.2 x hx y hy
 .refine Pq ?_ pm
  simp only[Cf];refine Jc _ ?_;simp only[<- Cf];exact Iq _ Jd
theorem Mh.b (h:Mh r A (B1++B2) o T)(l:∀ x∈A,∀ y∈B2,Le r x y):Mh r A B1 (B2++o) T:=by
 obtain⟨p1,p2,pm⟩:=h;refine⟨?_,by rw[<- Cf];exact p2,by simpa only [Cf] using pm⟩
 rw[Cf] at p2;rw[Dl] at p1 p2 ⊢;refine⟨p1.1,p2.2.1,λx hx y hy=>?_⟩;rcases Cn.mp hy with hy|hy
 .exact l x hx y hy
 .exact p1.2.2 x hx y hy
end
structure Mo (r:Bv->Ak)(T:Aa Bv)(m:Aw Bv):Prop where
 pm:m.toList.Perm T
 up:m.toList.Pairwise (Le r)
abbrev v9 (st:Fp)(g:Ai):Fp:=Dh (kindOf st) (arrOf st) (pendingOf st) g (failedOf st)
theorem nV {a:Aw Bv}{i:Ai}(h:i<a.size):a.toList.drop i=a.getD i nv::a.toList.drop (i+1):=by
 rw[Fk (by simpa using h)]
 congr 1
 simp[Ge,h]
theorem zL {a:Aw Bv}{i:Ai}(h:i<a.size):a.getD i nv∈a.toList:=by
 have e:a.getD i nv=a[i]:=by simp[Ge,h]
 rw[e];exact Array.getElem_mem_toList h
theorem wR {r:Bv->Ak}{a:Aw Bv}(s:a.toList.Pairwise (Le r)){i j:Ai}(h:i<=j)(hj:j<a.size):r (a.getD i nv)<=r (a.getD j nv):=by
 rcases Nat.lt_or_ge i j with l|l
 .have e:=Jn.mp s i j (by simpa using Hz l hj) (by simpa using hj) l
  have hi:i<a.size:=Hz l hj;simpa [Ge,hi,hj,Le] using e
 .rw[Tz h l];exact Ky _
theorem gJ {a:Aw Bv}{i:Ai}{x:Bv}(h:x∈a.toList.drop i):∃ j,i<=j/\j<a.size/\x=a.getD j nv:=by
 obtain⟨k,hk,e⟩:=Cc.mp h;rw[Ru] at e;have hk':k<a.size-i:=by simpa using hk
 refine⟨i+k,by lia,by lia,?_⟩
 have:i+k<a.size:=by lia
 simp[Ge,this,<- e]
theorem gL {a:Aw Bv}{x:Bv}(h:x∈a.toList.take n):∃ j,j<n/\j<a.size/\x=a.getD j nv:=by
 obtain⟨k,hk,e⟩:=Cc.mp h;rw[Rr] at e;have hk':k<n/\k<a.size:=by rw[Fn,Bp] at hk;lia
 refine⟨k,hk'.1,hk'.2,?_⟩;simp[Ge,hk'.2,<- e]
theorem mC {a:Aw Bv}{i k:Ai}:(a.extract i (i+k)).toList++a.toList.drop (i+k)=a.toList.drop i:=by
 rw[Js,Hm,Kc,<- List.drop_drop];exact Ou _ _
theorem bQ {a:Aw Bv}{i:Ai}:(a.extract i a.size).toList=a.toList.drop i:=by
 rw[Js,Hm];exact Ir (by simp)
theorem lK {a:Aw Bv}{i k:Ai}{x:Bv}(h:x∈(a.extract i (i+k)).toList):∃ j,i<=j/\j<i+k/\j<a.size/\x=a.getD j nv:=by
 rw[Js,Hm,Kc] at h;obtain⟨m,hm,e⟩:=Cc.mp h;rw[Rr,Ru] at e;have hm':m<k/\i+m<a.size:=by rw[Fn,Lj,Bp] at hm;lia
 refine⟨i+m,by lia,by lia,hm'.2,?_⟩
 simp[Ge,hm'.2,<- e]
def GL (r:Bv->Ak)(a b o:Aw Bv)(i j:Ai):Prop:=Mg r o.toList (a.toList.drop i) (b.toList.drop j) (a.toList++b.toList)
section
variable {r:Bv->Ak}{a b o:Aw Bv}{i j k:Ai}
theorem GL.pb (sa:a.toList.Pairwise (Le r))(h:GL r a b o i j)(hj:j<b.size)(l:i<a.size->r (b.getD j nv)<=r (a.getD i nv)):GL r a b (o.push (b.getD j nv)) i (j+1):=by
 have h':Mg r o.toList (a.toList.drop i) ([b.getD j nv]++b.toList.drop (j+1)) (a.toList++b.toList):=by rw[Uo,<- nV hj];exact h
 have:=h'.b λx hx y hy=>by
  cases Dn.mp hx;obtain⟨m,h1,h2,rfl⟩:=gJ hy;exact Dt (l (by lia)) (wR sa h1 h2)
 unfold GL;rw[El];exact this
theorem GL.pa (sb:b.toList.Pairwise (Le r))(h:GL r a b o i j)(hi:i<a.size)(l:j<b.size->r (a.getD i nv)<=r (b.getD j nv)):GL r a b (o.push (a.getD i nv)) (i+1) j:=by
 have h':Mg r o.toList ([a.getD i nv]++a.toList.drop (i+1)) (b.toList.drop j) (a.toList++b.toList):=by rw[Uo,<- nV hi];exact h
 have:=h'.a λx hx y hy=>by
  cases Dn.mp hx;obtain⟨m,h1,h2,rfl⟩:=gJ hy;exact Dt (l (by lia)) (wR sb h1 h2)
 unfold GL;rw[El];exact this
theorem GL.ea (sb:b.toList.Pairwise (Le r))(h:GL r a b o i j)(hj:j<b.size)(l:∀ m,m<k->r (a.getD (i+m) nv)<=r (b.getD j nv)):GL r a b (o++a.extract i (i+k)) (i+k) j:=by
 have h':Mg r o.toList ((a.extract i (i+k)).toList++a.toList.drop (i+k)) (b.toList.drop j) (a.toList++b.toList):=by rw[mC];exact h
 have:=h'.a λx hx y hy=>by
  obtain⟨m,h1,h2,h3,rfl⟩:=lK hx;obtain⟨m',h4,h5,rfl⟩:=gJ hy;have:=l (m-i) (by lia)
  rw[show i+(m-i)=m by lia] at this
  exact Dt this (wR sb h4 h5)
 unfold GL;rw[Dr];exact this
theorem GL.eb (sa:a.toList.Pairwise (Le r))(h:GL r a b o i j)(hi:i<a.size)(l:∀ m,m<k->r (b.getD (j+m) nv)<=r (a.getD i nv)):GL r a b (o++b.extract j (j+k)) i (j+k):=by
 have h':Mg r o.toList (a.toList.drop i) ((b.extract j (j+k)).toList++b.toList.drop (j+k)) (a.toList++b.toList):=by rw[mC];exact h
 have:=h'.b λx hx y hy=>by
  obtain⟨m,h1,h2,h3,rfl⟩:=lK hx;obtain⟨m',h4,h5,rfl⟩:=gJ hy;have:=l (m-j) (by lia)
  rw[show j+(m-j)=m by lia] at this
  exact Dt this (wR sa h4 h5)
 unfold GL;rw[Dr];exact this
theorem GL.fin (h:GL r a b o i j)(e:i=a.size\/j=b.size):Mo r (a.toList++b.toList) (o++a.extract i a.size++b.extract j b.size):=by
 refine⟨?_,?_⟩ <;> rw[Dr,Dr,bQ,bQ]
 .exact h.pm
 .rcases e with rfl|rfl
  .rw[NE (by simp),Fw];exact h.p2
  .rw[NE (l:=b.toList) (by simp),Fw];exact h.p1
theorem GL.last (h:GL r a b o i j)(e:i+1=a.size)(l:∀ x∈b.toList,Le r x (a.getD (a.size-1) nv)):Mo r (a.toList++b.toList) (o++b.extract j b.size++a.extract i a.size):=by
 have hi:i<a.size:=by lia
 have hd:a.toList.drop i=[a.getD i nv]:=by rw[nV hi,NE (by simp;lia)]
 refine⟨?_,?_⟩ <;> rw[Dr,Dr,bQ,bQ]
 .refine Pq ?_ h.pm
  rw[Cf,Cf];exact Jc _ Jd
 .have p1:=h.p1
  rw[hd] at p1 ⊢;rw[Dl] at p1 ⊢;refine⟨h.p2,Td _ _,λx hx y hy=>?_⟩;rcases Cn.mp hx with hx|hx
  .exact p1.2.2 x hx y hy
  .cases Dn.mp hy
   have:=l x (Pd hx);rw[show a.size-1=i by lia] at this
   exact this
end
theorem rV {p:Ai->Ar}:∀ (n:Ai),(∀ i j,i<=j->j<n->p j=true->p i=true)->∃ c,c<=n/\∀ i,i<n->p i=decide (i<c)
 |0,_=>⟨0,Ax _,λi h=>by lia⟩
 |n+1,h=>by
  obtain⟨c,hc,e⟩:=rV n λi j a b=>h i j a (by lia)
  by_cases q:p n=true
  .refine⟨n+1,Ax _,λi hi=>?_⟩
   rw[h i n (by lia) (by lia) q]
   simp[hi]
  .refine⟨c,by lia,λi hi=>?_⟩
   rcases Nat.lt_or_ge i n with l|l
   .exact e i l
   .have:i=n:=by lia
    subst this;have:¬ i<c:=by lia
    simp[this,q]
section
variable {M:Nl}{A:Bk}{E:Ac->Ag->Prop}{s:Ag}{κ : Mf}{U:Bv->Prop}{r:Bv->Ak}
theorem qN {σ α:Type}{c:Prop}[Jl c]{x y:Ot σ Ke α}{Q:α->σ->Prop}{st:σ}(h1:c->wpS M A E s x Q st)(h2:¬ c->wpS M A E s y Q st):wpS M A E s (if c then x else y) Q st:=by
 by_cases h:c
 .rw[Bf h];exact h1 h
 .rw[Bb h];exact h2 h
theorem VQ (C:Cm M A s κ U r){key:Bv}{arr:Aw Bv}{base n hint:Ai}{Q:Al Ai->Fp->Prop}{st:Fp}(hk:kindOf st=κ)(hh:hint<n)(hb:base+n<=arr.size)(hU:∀ i,i<n->U (arr.getD (base+i) nv))(hkU:U key)
  (sa:∀ i j,i<=j->j<n->r (arr.getD (base+i) nv)<=r (arr.getD (base+j) nv)) (h:∀ c,c<=n->(∀ i,i<c->r (arr.getD (base+i) nv)<=r key)->(∀ i,c<=i->i<n->r key<r (arr.getD (base+i) nv))->Q (Ab c) st):wpS M A E s (l8 false key arr base n hint) Q st:=by
 obtain⟨c,hc,e⟩:=rV (p:=λi=>!decide (r key<r (arr.getD (base+i) nv))) n λi j a b q=>by
  have:=sa i j a b;simp only[Ku,Ia] at q ⊢
  lia
 refine nG C hk hh hb hU hkU hc (λi hi=>by simpa using e i hi) (h c hc (λi hi=>?_) λi hi hn=>?_)
 .have:=e i (by lia)
  simp only[hi,Jb,Ku,Ia] at this
  lia
 .have:=e i hn
  simp only[show ¬ i<c by lia,Kb,Bool.not_eq_false',Ce] at this
  exact this
theorem VR (C:Cm M A s κ U r){key:Bv}{arr:Aw Bv}{base n hint:Ai}{Q:Al Ai->Fp->Prop}{st:Fp}(hk:kindOf st=κ)(hh:hint<n)(hb:base+n<=arr.size)(hU:∀ i,i<n->U (arr.getD (base+i) nv))(hkU:U key)
  (sa:∀ i j,i<=j->j<n->r (arr.getD (base+i) nv)<=r (arr.getD (base+j) nv)) (h:∀ c,c<=n->(∀ i,i<c->r (arr.getD (base+i) nv)<r key)->(∀ i,c<=i->i<n->r key<=r (arr.getD (base+i) nv))->Q (Ab c) st):wpS M A E s (l8 true key arr base n hint) Q st:=by
 obtain⟨c,hc,e⟩:=rV (p:=λi=>decide (r (arr.getD (base+i) nv)<r key)) n λi j a b q=>by
  have:=sa i j a b;simp only[Ce] at q ⊢
  lia
 refine nG C hk hh hb hU hkU hc (λi hi=>by simpa using e i hi) (h c hc (λi hi=>?_) λi hi hn=>?_)
 .have:=e i (by lia)
  simp only[hi,Jb,Ce] at this;exact this
 .have:=e i hn
  simp only[show ¬ i<c by lia,Kb,Ia] at this
  lia
end
section
variable {M:Nl}{A:Bk}{E:Ac->Ag->Prop}{s:Ag}{σ α γ δ:Type}{Q:α->σ->Prop}{st:σ}{c c' c2:Prop}[Jl c][Jl c'][Jl c2]
theorem oK {K:γ->Ot σ Ke α}{x y:γ}(h:∀ z,wpS M A E s (K z) Q st):wpS M A E s (if c then K x else K y) Q st:=qN (λ_=>h x) λ_=>h y
theorem YD {K:γ->δ->Ot σ Ke α}{u:Ot σ Ke α}{x y:γ}{w v:δ}(P:γ->δ->Prop)(hK:∀ z w,P z w->wpS M A E s (K z w) Q st)(h1:c->c'->wpS M A E s u Q st)(h2:c->¬ c'->P x w)(h3:¬ c->P y v):wpS M A E s (if c then (if c' then u else K x w) else K y v) Q st:=qN (λe=>qN (h1 e) λe'=>hK _ _ (h2 e e')) λe=>hK _ _ (h3 e)
theorem YE {K:γ->δ->Ot σ Ke α}{u u':Ot σ Ke α}{x y:γ}{w v:δ}(P:γ->δ->Prop)(hK:∀ z w,P z w->wpS M A E s (K z w) Q st)(h1:c->c'->wpS M A E s u Q st)(h1':c->¬ c'->c2->wpS M A E s u' Q st)(h2:c->¬ c'->¬ c2->P x w)(h3:¬ c->P y v):wpS M A E s (if c then (if c' then u else if c2 then u' else K x w) else K y v) Q st:=qN (λe=>qN (h1 e) λe'=>qN (h1' e e') λe2=>hK _ _ (h2 e e' e2)) λe=>hK _ _ (h3 e)
end
section
variable {prog:Bc}{w:Bx}{A:Bk}{E:Ac->Ag->Prop}{s:Ag}{κ : Mf}{U:Bv->Prop}{r:Bv->Ak}
theorem aF (C:Cm (As prog w) A s κ U r){a b:Aw Bv}{Q:Aw Bv->Fp->Prop}{st:Fp}(hk:kindOf st=κ)(ua:∀ x∈a.toList,U x)(ub:∀ x∈b.toList,U x)(sa:a.toList.Pairwise (Le r))(sb:b.toList.Pairwise (Le r))
  (h:∀ m g,Mo r (a.toList++b.toList) m->Q m (v9 st g)) (ha:0<a.size) (hb:0<b.size) (h0:r (b.getD 0 nv)<=r (a.getD 0 nv)) (h1:∀ x∈b.toList,Le r x (a.getD (a.size-1) nv)):wpS (As prog w) A E s (UF a b) Q st:=by
 have G0:GL r a b #[] 0 0:=⟨by simpa using sa,by simpa using sb,by simp⟩
 have G1:=G0.pb sa hb λ_=>h0;refine Ba (Rc (Gs ⟨rfl,?_⟩));refine Ba (zC hb ?_);dsimp only;refine qN (λe=>Bq (h _ (T0 st) (G1.fin (.inr (by simpa using e))))) λe1=>?_
 refine qN (λe=>Bq (h _ (T0 st) (G1.last (by simpa using e) h1))) λe2=>?_
 have e1:1<b.size:=by
  have:¬ 1=b.size:=by simpa using e1
  lia
 have e2:0+1<a.size:=by
  have:¬ 0+1=a.size:=by simpa using e2
  lia
 refine Ba (Nc ?_);refine Ba (He (Fe (I:=λx c st'=>(∃ g,st'=v9 st g)/\∃ o i j g,c=(none,o,i,j,g)/\GL r a b o i j/\i+1<a.size/\j<b.size/\x<i+j)
  (Q:=λc st'=>(∃ g,st'=v9 st g)/\∃ m,c.1=Ab m/\Mo r (a.toList++b.toList) m) ?_ ?_ ⟨⟨T0 st,rfl⟩,_,0,1,_,rfl,G1,e2,e1,by lia⟩) ?_)
 .rintro x c st' _ hx ⟨⟨g,rfl⟩,o,i,j,mg,rfl,G,hi,hj,hp⟩
  dsimp only;refine Ba (He (Fe (I:=λy c st'=>(∃ g,st'=v9 st g)/\∃ o i' j' p q,c=(none,o,i',j',p,q)/\GL r a b o i' j'/\i'+1<a.size/\j'<b.size/\i+j+y<=i'+j')
   (Q:=λc st'=>(∃ g,st'=v9 st g)/\((∃ m,c.1=Ab m/\Mo r (a.toList++b.toList) m)\/∃ o i' j' p q,c=(none,o,i',j',p,q)/\GL r a b o i' j'/\i'+1<a.size/\j'<b.size/\x+1<i'+j')) ?_ ?_ ⟨⟨g,rfl⟩,o,i,j,0,0,rfl,G,hi,hj,by lia⟩) ?_)
  .rintro y c st' _ hy ⟨⟨g,rfl⟩,o,i',j',p,q,rfl,G,hi,hj,hq⟩
   dsimp only;refine Ba (zC hj (Ba (zC (i:=i') (by lia) (Ba (C.lt (ub _ (zL hj)) (ua _ (zL (i:=i') (by lia))) hk ?_)))))
   dsimp only;refine qN (λl=>?_) λl=>?_
   .have l:r (b.getD j' nv)<r (a.getD i' nv):=by simpa using l
    have G2:=G.pb sa hj λ_=>Hi l;refine Ba (zC hj ?_);refine qN (λe=>?_) λe=>?_
    .exact Bq ⟨⟨g,rfl⟩,.inl ⟨_,rfl,G2.fin (.inr (by simpa using e))⟩⟩
    .have e:¬ j'+1=b.size:=by simpa using e
     refine qN (λ_=>?_) λ_=>?_
     .exact Bq ⟨⟨g,rfl⟩,.inr ⟨_,_,_,_,_,rfl,G2,hi,by lia,by lia⟩⟩
     .exact Bq ⟨⟨g,rfl⟩,_,_,_,_,_,rfl,G2,hi,by lia,by lia⟩
   .have l:¬ r (b.getD j' nv)<r (a.getD i' nv):=by simpa using l
    have G2:=G.pa sb (by lia) λ_=>Oa.mp l
    refine Ba (zC (i:=i') (by lia) ?_)
    refine qN (λe=>?_) λe=>?_
    .exact Bq ⟨⟨g,rfl⟩,.inl ⟨_,rfl,G2.last (by simpa using e) h1⟩⟩
    .have e:¬ i'+1+1=a.size:=by simpa using e
     refine qN (λ_=>?_) λ_=>?_
     .exact Bq ⟨⟨g,rfl⟩,.inr ⟨_,_,_,_,_,rfl,G2,by lia,hj,by lia⟩⟩
     .exact Bq ⟨⟨g,rfl⟩,_,_,_,_,_,rfl,G2,by lia,hj,by lia⟩
  .rintro c st' ⟨z,o,i',j',p,q,rfl,G,hi,hj,hq⟩
   exact⟨z,.inr ⟨_,_,_,_,_,rfl,G,hi,hj,by lia⟩⟩
  .rintro c st' ⟨⟨g,rfl⟩,⟨m,hc,hm⟩|⟨o,i',j',p,q,rfl,G,hi,hj,hq⟩⟩
   .obtain⟨c0,c1⟩:=c
    cases hc;exact Bq ⟨⟨g,rfl⟩,m,rfl,hm⟩
   dsimp only;refine Ba (Rc (Gs ⟨rfl,?_⟩));refine Ba (He (Fe (I:=λy c st'=>(∃ g,st'=v9 st g)/\∃ o i' j' p q t,c=(none,o,i',j',p,q,t)/\GL r a b o i' j'/\i'+1<a.size/\j'<b.size/\x+1<i'+j')
    (Q:=λc st'=>(∃ g,st'=v9 st g)/\((∃ m,c.1=Ab m/\Mo r (a.toList++b.toList) m)\/∃ o i' j' p q t,c=(none,o,i',j',p,q,t)/\GL r a b o i' j'/\i'+1<a.size/\j'<b.size/\x+1<i'+j')) ?_ ?_ ⟨⟨g,rfl⟩,o,i',j',_,_,_,rfl,G,hi,hj,hq⟩) ?_)
   .rintro y c st' _ hy ⟨⟨g,rfl⟩,o,i,j,p,q,t,rfl,G,hi,hj,hq⟩
    dsimp only;generalize p-1=p1;apply oK (x:=p1) (y:=p);intro mg;have hi0:i<a.size:=Rz hi;refine Ba (Ji ?_);refine Ba (zC hj ?_);refine Ba (VQ C hk (Sa hi0) (Xi (Wb (Et hi0))) (λi' hi'=>ua _ (zL (Kz hi'))) (ub _ (zL hj)) (λi' j' h1 h2=>wR sa (Im h1 _) (Kz h2)) λk k1 k2 k3=>?_);dsimp only;have G2:=G.ea sb hj k2;have k4:i+k<=a.size:=Uq (Et hi0) k1;have k5:i+k<a.size->r (b.getD j nv)<r (a.getD (i+k) nv):=λh=>k3 k (Ax _) (Vj (by rw[Xg];exact h))
    have k6:x+1<i+k+j:=Bh hq (Vk (On _ _) _);have k7:k=0->i=i+k:=λh=>by rw[h];rfl
    generalize i+k=i1 at G2 k4 k5 k6 k7 ⊢;generalize o++a.extract i i1=o1 at G2 ⊢;apply YE (x:=o1) (w:=i1) (y:=o) (v:=i) (P:=λout ia=>GL r a b out ia j/\ia+1<a.size/\x+1<ia+j/\r (b.getD j nv)<r (a.getD ia nv))
    case h1=>exact λ_ e=>Bq ⟨⟨_,rfl⟩,.inl ⟨_,rfl,G2.last (by simpa using e) h1⟩⟩
    case h1'=>exact λ_ _ e=>Bq ⟨⟨_,rfl⟩,.inl ⟨_,rfl,G2.fin (.inl (by simpa using e))⟩⟩
    case h2 =>
     intro _ e3 e4;have e3:¬ i1+1=a.size:=by simpa using e3
     have e4:¬ i1=a.size:=by simpa using e4
     have e5:i1<a.size:=Hq k4 e4;exact⟨G2,Hq e5 e3,k6,k5 e5⟩
    case h3 =>
     intro e;have e:=k7 (Kr e);exact⟨G,hi,hq,by rw[e];exact k5 (by rw[<- e];exact hi0)⟩
    case hK =>
     rintro out ia ⟨G2,hl,hq,hc⟩;have ha0:ia<a.size:=Rz hl;refine Ba (zC hj ?_);have G3:=G2.pb sa hj λ_=>Hi hc;refine qN (λe=>Bq ⟨⟨_,rfl⟩,.inl ⟨_,rfl,G3.fin (.inr (by simpa using e))⟩⟩) λe5=>?_
     have e5:¬ j+1=b.size:=by simpa using e5
     have hj1:j+1<b.size:=Hq hj e5;refine Ba (zC ha0 ?_);refine Ba (VR C hk (Sa hj1) (Xi (Wb hj)) (λi hi=>ub _ (zL (Kz hi))) (ua _ (zL ha0)) (λi j h1 h2=>wR sb (Im h1 _) (Kz h2)) λm m1 m2 m3=>?_);dsimp only;have G4:=G3.eb sa ha0 λi hi=>Hi (m2 i hi);have m4:j+1+m<=b.size:=Uq hj m1;have m5:j+1+m<b.size->r (a.getD ia nv)<=r (b.getD (j+1+m) nv):=λh=>m3 m (Ax _) (Vj (by rw[Xg];exact h))
     have m6:j+1<=j+1+m:=On _ _;have m7:m=0->j+1=j+1+m:=λh=>by rw[h]
     generalize j+1+m=j1 at G4 m4 m5 m6 m7 ⊢;generalize out.push (b.getD j nv)++b.extract (j+1) j1=o2 at G4 ⊢;apply YD (x:=o2) (w:=j1) (y:=out.push (b.getD j nv)) (v:=j+1) (P:=λout ib=>GL r a b out ia ib/\ib<b.size/\j+1<=ib/\r (a.getD ia nv)<=r (b.getD ib nv))
     case h1=>exact λ_ e=>Bq ⟨⟨_,rfl⟩,.inl ⟨_,rfl,G4.fin (.inr (by simpa using e))⟩⟩
     case h2 =>
      intro _ e6;have e6:¬ j1=b.size:=by simpa using e6
      have e7:=Hq m4 e6;exact⟨G4,e7,m6,m5 e7⟩
     case h3 =>
      intro e;have e:=m7 (Kr e);exact⟨G3,hj1,Ax _,by rw[e];exact m5 (by rw[<- e];exact hj1)⟩
     case hK =>
      rintro out ib ⟨G4,hb1,hb2,hc4⟩;refine Ba (zC ha0 ?_);have G5:=G4.pa sb ha0 λ_=>hc4;refine qN (λe=>Bq ⟨⟨_,rfl⟩,.inl ⟨_,rfl,G5.last (by simpa using e) h1⟩⟩) λe7=>?_
      have e7:¬ ia+1+1=a.size:=by simpa using e7
      have e8:ia+1+1<a.size:=Hq hl e7;have e9:x+1<ia+1+ib:=Bh hq (v4 (Oq _) (Nat.le_of_succ_le hb2));exact qN (λ_=>Bq ⟨⟨_,rfl⟩,.inr ⟨_,_,_,_,_,_,rfl,G5,e8,hb1,e9⟩⟩) λ_=>Bq ⟨⟨_,rfl⟩,_,_,_,_,_,_,rfl,G5,e8,hb1,e9⟩
   .rintro c st' ⟨z,o,i',j',p,q,t,rfl,G,hi,hj,hq⟩
    exact⟨z,.inr ⟨_,_,_,_,_,_,rfl,G,hi,hj,by lia⟩⟩
   .rintro c st' ⟨⟨g,rfl⟩,⟨m,hc,hm⟩|⟨o,i',j',p,q,t,rfl,G,hi,hj,hq⟩⟩
    .obtain⟨c0,c1⟩:=c
     cases hc;exact Bq ⟨⟨g,rfl⟩,m,rfl,hm⟩
    dsimp only;refine Ba (Ji ?_);exact Bq ⟨⟨_,rfl⟩,_,_,_,_,rfl,G,hi,hj,by lia⟩
 .rintro c st' ⟨z,o,i',j',p,rfl,G,hi,hj,hq⟩
  exfalso
  lia
 .rintro c st' ⟨⟨g,rfl⟩,m,hc,hm⟩
  obtain⟨c0,c1⟩:=c;cases hc;exact Bq (h m g hm)
end
theorem lZ {a:Aw Bv}(h:0<n)(hn:n<=a.size):a.toList.take n=a.toList.take (n-1)++[a.getD (n-1) nv]:=by
 obtain⟨m,rfl⟩:∃ m,n=m+1:=⟨n-1,by lia⟩
 rw[Qr,List.take_add_one];have hm:m<a.size:=by lia
 simp[Ge,hm]
theorem eE {a:Aw Bv}{i:Ai}(h:i<=n):a.toList.take i++(a.extract i n).toList=a.toList.take n:=by
 rw[Js,Hm]
 conv=>rhs;rw[show n=i+(n-i) by lia,List.take_add]
theorem gA {a:Aw Bv}:(a.extract 0 n).toList=a.toList.take n:=by
 rw[Js,Hm];simp
theorem gK {a:Aw Bv}{i:Ai}{x:Bv}(hn:i<=n)(h:x∈(a.extract i n).toList):∃ j,i<=j/\j<n/\j<a.size/\x=a.getD j nv:=by
 obtain⟨k,rfl⟩:∃ k,n=i+k:=⟨n-i,by lia⟩
 exact lK h
def GH (r:Bv->Ak)(a b o:Aw Bv)(i j:Ai):Prop:=Mh r (a.toList.take i) (b.toList.take j) o.toList.reverse (a.toList++b.toList)
section
variable {r:Bv->Ak}{a b o:Aw Bv}{i j k:Ai}
theorem GH.pa (sb:b.toList.Pairwise (Le r))(h:GH r a b o i j)(h1:0<i)(h2:i<=a.size)(hj:j<=b.size)(l:0<j->r (b.getD (j-1) nv)<=r (a.getD (i-1) nv)):GH r a b (o.push (a.getD (i-1) nv)) (i-1) j:=by
 have h':Mh r (a.toList.take (i-1)++[a.getD (i-1) nv]) (b.toList.take j) o.toList.reverse (a.toList++b.toList):=by rw[<- lZ h1 h2];exact h
 have:=h'.a λx hx y hy=>by
  cases Dn.mp hy;obtain⟨m,q1,q2,rfl⟩:=gL hx;exact Dt (wR sb (by lia) (by lia)) (l (by lia))
 unfold GH;rw[El,Lx];exact this
theorem GH.pb (sa:a.toList.Pairwise (Le r))(h:GH r a b o i j)(h1:0<j)(h2:j<=b.size)(hi:i<=a.size)(l:0<i->r (a.getD (i-1) nv)<=r (b.getD (j-1) nv)):GH r a b (o.push (b.getD (j-1) nv)) i (j-1):=by
 have h':Mh r (a.toList.take i) (b.toList.take (j-1)++[b.getD (j-1) nv]) o.toList.reverse (a.toList++b.toList):=by rw[<- lZ h1 h2];exact h
 have:=h'.b λx hx y hy=>by
  cases Dn.mp hy;obtain⟨m,q1,q2,rfl⟩:=gL hx;exact Dt (wR sa (by lia) (by lia)) (l (by lia))
 unfold GH;rw[El,Lx];exact this
theorem GH.ea (sb:b.toList.Pairwise (Le r))(h:GH r a b o i j)(hk:k<=i)(hj:j<=b.size)(l:0<j->∀ m,k<=m->m<i->m<a.size->r (b.getD (j-1) nv)<=r (a.getD m nv)):GH r a b (o++(a.extract k i).reverse) k j:=by
 have h':Mh r (a.toList.take k++(a.extract k i).toList) (b.toList.take j) o.toList.reverse (a.toList++b.toList):=by rw[eE hk];exact h
 have:=h'.a λx hx y hy=>by
  obtain⟨m,q1,q2,rfl⟩:=gL hx;obtain⟨m',q3,q4,q5,rfl⟩:=gK hk hy;exact Dt (wR sb (by lia) (by lia)) (l (by lia) m' q3 q4 q5)
 unfold GH;rw[Dr,Li,Lx,Vl];exact this
theorem GH.eb (sa:a.toList.Pairwise (Le r))(h:GH r a b o i j)(hk:k<=j)(hi:i<=a.size)(l:0<i->∀ m,k<=m->m<j->m<b.size->r (a.getD (i-1) nv)<=r (b.getD m nv)):GH r a b (o++(b.extract k j).reverse) i k:=by
 have h':Mh r (a.toList.take i) (b.toList.take k++(b.extract k j).toList) o.toList.reverse (a.toList++b.toList):=by rw[eE hk];exact h
 have:=h'.b λx hx y hy=>by
  obtain⟨m,q1,q2,rfl⟩:=gL hx;obtain⟨m',q3,q4,q5,rfl⟩:=gK hk hy;exact Dt (wR sa (by lia) (by lia)) (l (by lia) m' q3 q4 q5)
 unfold GH;rw[Dr,Li,Lx,Vl];exact this
theorem GH.fin (h:GH r a b o i j)(e:i=0\/j=0):Mo r (a.toList++b.toList) (a.extract 0 i++b.extract 0 j++o.reverse):=by
 refine⟨?_,?_⟩ <;> rw[Dr,Dr,gA,gA,Li]
 .exact h.pm
 .rcases e with rfl|rfl
  .rw[v6,Hw];exact h.p2
  .rw[v6,Fw];exact h.p1
theorem GH.first (h:GH r a b o i j)(e:j=1)(hb:0<b.size)(l:∀ x∈a.toList,Le r (b.getD 0 nv) x):Mo r (a.toList++b.toList) (b.extract 0 j++a.extract 0 i++o.reverse):=by
 subst e;have hd:b.toList.take 1=[b.getD 0 nv]:=by rw[lZ (by lia) (by lia)];rfl
 refine⟨?_,?_⟩ <;> rw[Dr,Dr,gA,gA,Li]
 .refine Pq ?_ h.pm
  exact Iq _ Jd
 .have p2:=h.p2
  rw[hd] at p2 ⊢;rw[Cf];rw[Dl] at p2 ⊢;refine⟨p2.1,h.p1,λx hx y hy=>?_⟩;rcases Cn.mp hy with hy|hy
  .cases Dn.mp hx
   exact l y (Pe hy)
  .exact p2.2.2 x hx y hy
end
section
variable {prog:Bc}{w:Bx}{A:Bk}{E:Ac->Ag->Prop}{s:Ag}{κ : Mf}{U:Bv->Prop}{r:Bv->Ak}
theorem aE (C:Cm (As prog w) A s κ U r){a b:Aw Bv}{Q:Aw Bv->Fp->Prop}{st:Fp}(hk:kindOf st=κ)(ua:∀ x∈a.toList,U x)(ub:∀ x∈b.toList,U x)(sa:a.toList.Pairwise (Le r))(sb:b.toList.Pairwise (Le r))
  (h:∀ m g,Mo r (a.toList++b.toList) m->Q m (v9 st g)) (ha:0<a.size) (hb:0<b.size) (h0:∀ x∈a.toList,Le r (b.getD 0 nv) x) (h1:r (b.getD (b.size-1) nv)<=r (a.getD (a.size-1) nv)):wpS (As prog w) A E s (UE a b) Q st:=by
 have G0:GH r a b #[] a.size b.size:=by
  unfold GH;rw[Ir (by simp),Ir (by simp)]
  exact⟨by simpa using sa,by simpa using sb,by simp⟩
 have G1:=G0.pa sb ha (Ax _) (Ax _) λ_=>h1;refine Ba (Rc (Gs ⟨rfl,?_⟩));refine Ba (zC (i:=a.size-1) (by lia) ?_)
 dsimp only;refine qN (λe=>Bq (h _ (T0 st) (G1.fin (.inl (by simpa using e))))) λe1=>?_
 refine qN (λe=>Bq (h _ (T0 st) (G1.first (by simpa using e) hb h0))) λe2=>?_
 have e1:¬ a.size-1=0:=by simpa using e1
 have e2:¬ b.size=1:=by simpa using e2
 refine Ba (Nc ?_);refine Ba (He (Fe (I:=λx c st'=>(∃ g,st'=v9 st g)/\∃ o i j g,c=(none,i,j,o,g)/\GH r a b o i j/\0<i/\i<=a.size/\1<j/\j<=b.size/\x+i+j<a.size+b.size)
  (Q:=λc st'=>(∃ g,st'=v9 st g)/\∃ m,c.1=Ab m/\Mo r (a.toList++b.toList) m) ?_ ?_ ⟨⟨T0 st,rfl⟩,_,a.size-1,b.size,_,rfl,G1,by lia,by lia,by lia,by lia,by lia⟩) ?_)
 .rintro x c st' _ hx ⟨⟨g,rfl⟩,o,i,j,mg,rfl,G,hi,hi2,hj,hj2,hp⟩
  dsimp only;refine Ba (He (Fe (I:=λy c st'=>(∃ g,st'=v9 st g)/\∃ o i' j' p q,c=(none,i',j',o,p,q)/\GH r a b o i' j'/\0<i'/\i'<=a.size/\1<j'/\j'<=b.size/\i'+j'+y<=i+j)
   (Q:=λc st'=>(∃ g,st'=v9 st g)/\((∃ m,c.1=Ab m/\Mo r (a.toList++b.toList) m)\/∃ o i' j' p q,c=(none,i',j',o,p,q)/\GH r a b o i' j'/\0<i'/\i'<=a.size/\1<j'/\j'<=b.size/\x+1+i'+j'<a.size+b.size)) ?_ ?_ ⟨⟨g,rfl⟩,o,i,j,0,0,rfl,G,hi,hi2,hj,hj2,by lia⟩) ?_)
  .rintro y c st' _ hy ⟨⟨g,rfl⟩,o,i',j',p,q,rfl,G,hi,hi2,hj,hj2,hq⟩
   dsimp only;refine Ba (zC (i:=j'-1) (by lia) (Ba (zC (i:=i'-1) (by lia) (Ba (C.lt (ub _ (zL (i:=j'-1) (by lia))) (ua _ (zL (i:=i'-1) (by lia))) hk ?_)))))
   dsimp only;refine qN (λl=>?_) λl=>?_
   .have l:r (b.getD (j'-1) nv)<r (a.getD (i'-1) nv):=by simpa using l
    have G2:=G.pa sb hi hi2 hj2 λ_=>Hi l;refine Ba (zC (i:=i'-1) (by lia) ?_)
    refine qN (λe=>Bq ⟨⟨g,rfl⟩,.inl ⟨_,rfl,G2.fin (.inl (by simpa using e))⟩⟩) λe=>?_
    have e:¬ i'-1=0:=by simpa using e
    exact qN (λ_=>Bq ⟨⟨g,rfl⟩,.inr ⟨_,_,_,_,_,rfl,G2,by lia,by lia,hj,hj2,by lia⟩⟩) λ_=>Bq ⟨⟨g,rfl⟩,_,_,_,_,_,rfl,G2,by lia,by lia,hj,hj2,by lia⟩
   .have l:¬ r (b.getD (j'-1) nv)<r (a.getD (i'-1) nv):=by simpa using l
    have G2:=G.pb sa (by lia) hj2 hi2 λ_=>Oa.mp l
    refine Ba (zC (i:=j'-1) (by lia) ?_)
    refine qN (λe=>Bq ⟨⟨g,rfl⟩,.inl ⟨_,rfl,G2.first (by simpa using e) hb h0⟩⟩) λe=>?_
    have e:¬ j'-1=1:=by simpa using e
    exact qN (λ_=>Bq ⟨⟨g,rfl⟩,.inr ⟨_,_,_,_,_,rfl,G2,hi,hi2,by lia,by lia,by lia⟩⟩) λ_=>Bq ⟨⟨g,rfl⟩,_,_,_,_,_,rfl,G2,hi,hi2,by lia,by lia,by lia⟩
  .rintro c st' ⟨z,o,i',j',p,q,rfl,G,hi,hi2,hj,hj2,hq⟩
   exact⟨z,.inr ⟨_,_,_,_,_,rfl,G,hi,hi2,hj,hj2,by lia⟩⟩
  .rintro c st' ⟨⟨g,rfl⟩,⟨m,hc,hm⟩|⟨o,i',j',p,q,rfl,G,hi,hi2,hj,hj2,hq⟩⟩
   .obtain⟨c0,c1⟩:=c
    cases hc;exact Bq ⟨⟨g,rfl⟩,m,rfl,hm⟩
   dsimp only;refine Ba (Rc (Gs ⟨rfl,?_⟩));refine Ba (He (Fe (I:=λy c st'=>(∃ g,st'=v9 st g)/\∃ o i' j' p q t,c=(none,i',j',o,p,q,t)/\GH r a b o i' j'/\0<i'/\i'<=a.size/\1<j'/\j'<=b.size/\x+1+i'+j'<a.size+b.size)
    (Q:=λc st'=>(∃ g,st'=v9 st g)/\((∃ m,c.1=Ab m/\Mo r (a.toList++b.toList) m)\/∃ o i' j' p q t,c=(none,i',j',o,p,q,t)/\GH r a b o i' j'/\0<i'/\i'<=a.size/\1<j'/\j'<=b.size/\x+1+i'+j'<a.size+b.size)) ?_ ?_ ⟨⟨g,rfl⟩,o,i',j',_,_,_,rfl,G,hi,hi2,hj,hj2,hq⟩) ?_)
   .rintro y c st' _ hy ⟨⟨g,rfl⟩,o,i,j,p,q,t,rfl,G,hi,hi2,hj,hj2,hq⟩
    dsimp only;generalize p-1=p1;apply oK (x:=p1) (y:=p);intro mg;refine Ba (Ji ?_);have j0:0<j:=Rz hj;have jb:j-1<b.size:=Bh (Ly j0 La) hj2;refine Ba (zC jb ?_);refine Ba (VQ C hk (Ly hi La) (by rw[Gy];exact hi2) (λi' hi'=>ua _ (zL (by rw[Gy];exact Bh hi' hi2))) (ub _ (zL jb)) (λi' j' h1 h2=>wR sa (Im h1 0) (by rw[Gy];exact Bh h2 hi2)) λk k1 k2 k3=>?_)
    simp only[Gy] at k2 k3;dsimp only;have G2:=G.ea sb k1 hj2 λ_ m q1 q2 _=>Hi (k3 m q1 q2);have kc:i-k=0->k=i:=λh=>Tz k1 (Ur h);generalize i-k=ac at kc ⊢;generalize o++(a.extract k i).reverse=o1 at G2 ⊢;apply YD (x:=k) (w:=o1) (y:=i) (v:=o) (P:=λna out=>GH r a b out na j/\0<na/\na<=a.size/\x+1+na+j<a.size+b.size/\r (a.getD (na-1) nv)<=r (b.getD (j-1) nv))
    case h1=>exact λ_ e=>Bq ⟨⟨_,rfl⟩,.inl ⟨_,rfl,G2.fin (.inl (by simpa using e))⟩⟩
    case hK =>
     rintro na out ⟨G2,hl,hl2,hq,hc⟩;have na1:na-1<a.size:=Bh (Ly hl La) hl2;refine Ba (zC jb ?_);have G3:=G2.pb sa j0 hj2 hl2 λ_=>hc;refine qN (λe=>Bq ⟨⟨_,rfl⟩,.inl ⟨_,rfl,G3.first (by simpa using e) hb h0⟩⟩) λe5=>?_
     have e5:¬ j-1=1:=by simpa using e5
     have j1:0<j-1:=Sa hj;refine Ba (zC na1 ?_);refine Ba (VR C hk (Ly j1 La) (by rw[Gy];exact Et jb) (λi hi=>ub _ (zL (by rw[Gy];exact Hz hi jb))) (ua _ (zL na1)) (λi j h1 h2=>wR sb (Im h1 0) (by rw[Gy];exact Hz h2 jb)) λm m1 m2 m3=>?_)
     simp only[Gy] at m2 m3;dsimp only;have G4:=G3.eb sa m1 hl2 λ_ m q1 q2 _=>m3 m q1 q2;have mc:j-1-m=0->m=j-1:=λh=>Tz m1 (Ur h);generalize j-1-m=bc at mc ⊢;generalize out.push (b.getD (j-1) nv)++(b.extract m (j-1)).reverse=o2 at G4 ⊢;apply YE (x:=m) (w:=o2) (y:=j-1) (v:=out.push (b.getD (j-1) nv)) (P:=λnb out=>GH r a b out na nb/\1<nb/\nb<=j-1/\r (b.getD (nb-1) nv)<=r (a.getD (na-1) nv))
     case h1=>exact λ_ e=>Bq ⟨⟨_,rfl⟩,.inl ⟨_,rfl,G4.first (by simpa using e) hb h0⟩⟩
     case h1'=>exact λ_ _ e=>Bq ⟨⟨_,rfl⟩,.inl ⟨_,rfl,G4.fin (.inr (by simpa using e))⟩⟩
     case hK =>
      rintro nb out ⟨G4,h4,h5,hc4⟩;have h6:nb<=b.size:=Dm h5 (Et jb);have hq2:x+1+(na-1)+nb<a.size+b.size:=Mr (v4 (Im (Nat.sub_le _ _) _) (Dm h5 (Nat.sub_le _ _))) hq;refine Ba (zC na1 ?_);have G5:=G4.pa sb hl hl2 h6 λ_=>hc4;refine qN (λe=>Bq ⟨⟨_,rfl⟩,.inl ⟨_,rfl,G5.fin (.inl (by simpa using e))⟩⟩) λe7=>?_
      have e7:0<na-1:=Mt (by simpa using e7)
      exact qN (λ_=>Bq ⟨⟨_,rfl⟩,.inr ⟨_,_,_,_,_,_,rfl,G5,e7,Et na1,h4,h6,hq2⟩⟩) λ_=>Bq ⟨⟨_,rfl⟩,_,_,_,_,_,_,rfl,G5,e7,Et na1,h4,h6,hq2⟩
     case h2 =>
      intro _ e6 e7;have e6:¬ m=1:=by simpa using e6
      have e7:¬ m=0:=by simpa using e7
      exact⟨G4,Hq (Mt e7) (Fy e6),m1,Hi (m2 (m-1) (Ly (Mt e7) La))⟩
     case h3 =>
      intro e;cases mc (Kr e);exact⟨G3,Hq j1 (Fy e5),Ax _,Hi (m2 (j-1-1) (Ly j1 La))⟩
    case h2 =>
     intro _ e;have e3:0<k:=Mt (by simpa using e)
     exact⟨G2,e3,Dm k1 hi2,Mr (Vk (Im k1 _) _) hq,k2 (k-1) (Ly e3 La)⟩
    case h3 =>
     intro e;have e:=kc (Kr e);exact⟨G,hi,hi2,hq,k2 (i-1) (by rw[e];exact Ly hi La)⟩
   .rintro c st' ⟨z,o,i',j',p,q,t,rfl,G,hi,hi2,hj,hj2,hq⟩
    exact⟨z,.inr ⟨_,_,_,_,_,_,rfl,G,hi,hi2,hj,hj2,by lia⟩⟩
   .rintro c st' ⟨⟨g,rfl⟩,⟨m,hc,hm⟩|⟨o,i',j',p,q,t,rfl,G,hi,hi2,hj,hj2,hq⟩⟩
    .obtain⟨c0,c1⟩:=c
     cases hc;exact Bq ⟨⟨g,rfl⟩,m,rfl,hm⟩
    dsimp only;refine Ba (Ji ?_);exact Bq ⟨⟨_,rfl⟩,_,_,_,_,rfl,G,hi,hi2,hj,hj2,by lia⟩
 .rintro c st' ⟨z,o,i',j',p,rfl,G,hi,hi2,hj,hj2,hq⟩
  exfalso
  lia
 .rintro c st' ⟨⟨g,rfl⟩,m,hc,hm⟩
  obtain⟨c0,c1⟩:=c;cases hc;exact Bq (h m g hm)
end
theorem ZO:∀ (l:Aa Bv) (arr:Aw Bv) (o d:Ai),o+d+l.length<=arr.size->∀ k,((l.zipIdx d).foldl (λa p=>a.setIfInBounds (o+p.2) p.1) arr)[k]? = if o+d<=k/\k<o+d+l.length then l[k-(o+d)]? else arr[k]?
 |[],arr,o,d,h,k=>by
  rw[Bb (by simp only[Ec];lia)];rfl
 |x::l,arr,o,d,h,k=>by
  rw[By] at h;rw[Sr,Hd,ZO l _ o (d+1) (by rw[Array.size_setIfInBounds];lia) k,By]
  by_cases h1:k=o+d
  .subst h1
   rw[Bb (by lia),Bf (by lia),Xj,Array.getElem?_setIfInBounds_self_of_lt (by lia)]
   rfl
  .by_cases h2:o+(d+1)<=k/\k<o+(d+1)+l.length
   .rw[Bf h2,Bf (by lia),show k-(o+d)=(k-(o+(d+1)))+1 by lia,Nb]
   .rw[Bb h2,Bb (by lia),Array.getElem?_setIfInBounds_ne (by lia)]
def wb (arr:Aw Bv)(o:Ai)(m:Aw Bv):Aw Bv:=m.toList.zipIdx.foldl (λa p=>a.setIfInBounds (o+p.2) p.1) arr
theorem MX {o:Ai}(h:o+m.size<=arr.size)(k:Ai):(wb arr o m).getD k nv=if o<=k/\k<o+m.size then m.getD (k-o) nv else arr.getD k nv:=by
 have e:=ZO m.toList arr o 0 (by simpa using h) k
 simp only[Xk,Bp,Bn] at e;rw[EQ,EQ,EQ];unfold wb;rw[e]
 split <;> rfl
theorem MY {o:Ai}(h:o+m.size<=arr.size):(wb arr o m).toList=arr.toList.take o++(m.toList++arr.toList.drop (o+m.size)):=by
 apply Yi;intro k;have e:=ZO m.toList arr o 0 (by simpa using h) k
 simp only[Xk,Bp,Bn] at e;unfold wb;rw[Bn,e];have lt:(arr.toList.take o).length=o:=by rw[Fn,Bp];lia
 by_cases h1:k<o
 .rw[Bb (by lia),Be (by lia),Mk h1,Bn]
 .rw[Cp (by lia),lt]
  by_cases h2:k<o+m.size
  .rw[Bf (by lia),Be (by rw[Bp];lia),Bn]
  .rw[Bb (by lia),Cp (by rw[Bp];lia),Wv,Bp,Bn]
   congr 1
   lia
theorem MZ {o:Ai}(h:o+n<=arr.size)(p:m.toList.Perm (arr.extract o (o+n)).toList):(wb arr o m).toList.Perm arr.toList:=by
 have hm:m.size=n:=by
  have:=p.length_eq;rw[Bp,Bp,Ix] at this
  lia
 rw[MY (by lia),hm]
 have e:arr.toList=arr.toList.take o++((arr.extract o (o+n)).toList++arr.toList.drop (o+n)):=by rw[mC,Ou]
 conv=>rhs;rw[e]
 exact Jc _ (Iq _ p)
def Seg (r:Bv->Ak)(a:Aw Bv)(lo n:Ai):Prop:=∀ i j,lo<=i->i<=j->j<lo+n->r (a.getD i nv)<=r (a.getD j nv)
theorem oD {r:Bv->Ak}{a:Aw Bv}(h:Seg r a lo n){i k:Ai}(h1:lo<=i)(h2:i+k<=lo+n)(h3:i+k<=a.size):(a.extract i (i+k)).toList.Pairwise (Le r):=by
 rw[Jn];intro x y hx hy l;have hx':x<k:=by rw[Bp,Ix] at hx;lia
 have hy':y<k:=by rw[Bp,Ix] at hy;lia
 have e:=h (i+x) (i+y) (by lia) (by lia) (by lia)
 have q1:i+x<a.size:=by lia
 have q2:i+y<a.size:=by lia
 simpa [Ge,q1,q2,Le] using e
theorem eD {a:Aw Bv}{i k m:Ai}(h:m<k)(h3:i+k<=a.size):(a.extract i (i+k)).getD m nv=a.getD (i+m) nv:=by
 have q1:i+m<a.size:=by lia
 have q2:m<(a.extract i (i+k)).size:=by rw[Ix];lia
 have q3:m<min (i+k) a.size-i:=by lia
 simp[Ge,q1,q3]
theorem VM {a:Aw Bv}{i j k:Ai}(h1:i<=j)(h2:j<=k):(a.extract i j).toList++(a.extract j k).toList=(a.extract i k).toList:=by
 rw[<- Dr,Array.extract_append_extract]
 congr 2 <;> lia
section
variable {prog:Bc}{w:Bx}{A:Bk}{E:Ac->Ag->Prop}{s:Ag}{κ : Mf}{U:Bv->Prop}{r:Bv->Ak}
theorem T3 {M:Nl}{σ:Type}{Q:PUnit->σ->Prop}{st st':σ}(h:Q ⟨⟩ st'):wpS M A E s (set st':Ot σ Ke PUnit) Q st:=by
 unfold wpS;rw[StateT.run_set];exact An ⟨rfl,h⟩
theorem aD (C:Cm (As prog w) A s κ U r){i sa na pw nb pz:Ai}{Q:Ar->Fp->Prop}{arr:Aw Bv}{pd:Aw (Ai × Ai × Ai)}{g:Ai}(ua:∀ x∈arr.toList,U x)(e1:pd[i]? = Ab (sa,na,pw))(e2:pd[i+1]? = Ab (sa+na,nb,pz))(p1:0<na)(p2:0<nb)(hz:sa+na+nb<=arr.size)
  (s1:Seg r arr sa na) (s2:Seg r arr (sa+na) nb)
  (h:∀ arr' g,arr'.toList.Perm arr.toList->(∀ k,k<sa\/sa+na+nb<=k->arr'.getD k nv=arr.getD k nv)->Seg r arr' sa (na+nb)->Q true (Dh κ arr' ((pd.setIfInBounds i (sa,na+nb,pw)).eraseIdxIfInBounds (i+1)) g none)) :
  wpS (As prog w) A E s (mergeAt' i) Q (Dh κ arr pd g none):=by
 refine Ba (Nc ?_);dsimp only;rw[e1,e2];dsimp only;refine Ba (T3 ?_);refine Ba (zC (i:=sa+na) (by omega) ?_)
 refine Ba (VQ C rfl (by omega) (by omega) (λi hi=>ua _ (zL (by omega))) (ua _ (zL (by omega))) (λi j a b=>s1 _ _ (by omega) (by omega) (by omega)) λk k1 k2 k3=>?_)
 dsimp only;refine qN (λe=>Bq (h arr g (Lf _) (λ_ _=>rfl) λi j a b c=>?_)) λe=>?_
 .have e:na-k=0:=by simpa using e
  by_cases q1:j<sa+na
  .exact s1 i j a b q1
  .by_cases q2:sa+na<=i
   .exact s2 i j q2 b (by omega)
   .have:=k2 (i-sa) (by omega)
    rw[show sa+(i-sa)=i by omega] at this
    exact Dt this (s2 _ _ (Ax _) (by omega) (by omega))
 have e:¬ na-k=0:=by simpa using e
 refine Ba (zC (i:=sa+k+(na-k)-1) (by omega) ?_)
 refine Ba (VR C rfl (by omega) (by omega) (λi hi=>ua _ (zL (by omega))) (ua _ (zL (by omega))) (λi j a b=>s2 _ _ (by omega) (by omega) (by omega)) λm m1 m2 m3=>?_)
 dsimp only;rw[show sa+k+(na-k)-1=sa+na-1 by omega] at m2 m3
 have hk3:=k3 k (Ax _) (by omega)
 refine qN (λe=>?_) λe'=>?_
 .exfalso
  have e:m=0:=by simpa using e
  subst e;have q1:=m3 0 (Ax _) p2;have q2:=s1 (sa+k) (sa+na-1) (by omega) (by omega) (by omega)
  rw[Xk] at q1;omega
 have e':¬ m=0:=by simpa using e'
 have ex:arr.extract (sa+k) (sa+na)=arr.extract (sa+k) (sa+k+(na-k)):=by rw[show sa+k+(na-k)=sa+na by omega]
 have zx:(arr.extract (sa+k) (sa+na)).size=na-k:=by rw[Ix];omega
 have zy:(arr.extract (sa+na) (sa+na+m)).size=m:=by rw[Ix];omega
 have gx:∀ i,i<na-k->(arr.extract (sa+k) (sa+na)).getD i nv=arr.getD (sa+k+i) nv:=λi hi=>by rw[ex];exact eD hi (by omega)
 have gy:∀ i,i<m->(arr.extract (sa+na) (sa+na+m)).getD i nv=arr.getD (sa+na+i) nv:=λi hi=>eD hi (by omega)
 have px:(arr.extract (sa+k) (sa+na)).toList.Pairwise (Le r):=by rw[ex];exact oD s1 (by omega) (by omega) (by omega)
 have py:(arr.extract (sa+na) (sa+na+m)).toList.Pairwise (Le r):=oD s2 (by omega) (by omega) (by omega)
 have mx:∀ x∈(arr.extract (sa+k) (sa+na)).toList,∃ j,sa+k<=j/\j<sa+na/\x=arr.getD j nv:=λx hx=>by
  obtain⟨j,q1,q2,q3,q4⟩:=gK (by omega) hx
  exact⟨j,q1,q2,q4⟩
 have my:∀ x∈(arr.extract (sa+na) (sa+na+m)).toList,∃ j,sa+na<=j/\j<sa+na+m/\x=arr.getD j nv:=λx hx=>by
  obtain⟨j,q1,q2,q3,q4⟩:=gK (by omega) hx
  exact⟨j,q1,q2,q4⟩
 have lox:∀ x∈(arr.extract (sa+k) (sa+na)).toList,r (arr.getD (sa+na) nv)<=r x/\r x<=r (arr.getD (sa+na-1) nv):=λx hx=>by
  obtain⟨j,q1,q2,rfl⟩:=mx x hx;have:=s1 (sa+k) j (by omega) q1 q2
  exact⟨by omega,s1 j _ (by omega) (by omega) (by omega)⟩
 have loy:∀ x∈(arr.extract (sa+na) (sa+na+m)).toList,r (arr.getD (sa+na) nv)<=r x/\r x<=r (arr.getD (sa+na-1) nv):=λx hx=>by
  obtain⟨j,q1,q2,rfl⟩:=my x hx;have:=m2 (j-(sa+na)) (by omega)
  rw[show sa+na+(j-(sa+na))=j by omega] at this
  exact⟨s2 _ _ (Ax _) q1 (by omega),by omega⟩
 have fin:∀ mg g',Mo r ((arr.extract (sa+k) (sa+na)).toList++(arr.extract (sa+na) (sa+na+m)).toList) mg->Q true (Dh κ (wb arr (sa+k) mg) ((pd.setIfInBounds i (sa,na+nb,pw)).eraseIdxIfInBounds (i+1)) g' none):=by
  intro mg g' M;have ej:(arr.extract (sa+k) (sa+na)).toList++(arr.extract (sa+na) (sa+na+m)).toList=(arr.extract (sa+k) (sa+k+(na-k+m))).toList:=by
   rw[VM (by omega) (by omega),show sa+k+(na-k+m)=sa+na+m by omega]
  have hm:mg.size=na-k+m:=by
   have:=M.pm.length_eq;rw[De,Bp,Bp,Bp,zx,zy] at this;exact this
  have gd:=λj=>MX (arr:=arr) (m:=mg) (o:=sa+k) (by omega) j
  refine h _ g' (MZ (n:=na-k+m) (by omega) (ej▸M.pm)) (λj hj=>?_) λi j a b c=>?_
  .rw[gd,Bb (by omega)]
  .have bd:∀ j,sa+k<=j->j<sa+na+m->r (arr.getD (sa+na) nv)<=r (mg.getD (j-(sa+k)) nv)/\r (mg.getD (j-(sa+k)) nv)<=r (arr.getD (sa+na-1) nv):=λj h1 h2=>by
    have:=M.pm.mem_iff.mp (zL (a:=mg) (i:=j-(sa+k)) (by omega))
    rcases Cn.mp this with q|q
    .exact lox _ q
    .exact loy _ q
   rw[gd,gd,hm];by_cases i1:i<sa+k
   .rw[Bb (by omega)]
    have u:=k2 (i-sa) (by omega)
    rw[show sa+(i-sa)=i by omega] at u
    by_cases j1:j<sa+k
    .rw[Bb (by omega)];exact s1 i j a b (by omega)
    .by_cases j2:j<sa+na+m
     .rw[Bf (by omega)];exact Dt u (bd j (by omega) j2).1
     .rw[Bb (by omega)];exact Dt u (s2 _ _ (Ax _) (by omega) (by omega))
   .by_cases i2:i<sa+na+m
    .rw[Bf (by omega)]
     by_cases j2:j<sa+na+m
     .rw[Bf (by omega)];exact wR M.up (by omega) (by omega)
     .rw[Bb (by omega)]
      have v:=m3 (j-(sa+na)) (by omega) (by omega)
      rw[show sa+na+(j-(sa+na))=j by omega] at v
      exact Dt (bd i (by omega) i2).2 v
    .rw[Bb (by omega),Bb (by omega)]
     exact s2 i j (by omega) b (by omega)
 have ux:∀ x∈(arr.extract (sa+k) (sa+na)).toList,U x:=λx hx=>by obtain⟨j,q1,q2,rfl⟩:=mx x hx;exact ua _ (zL (by omega))
 have uy:∀ x∈(arr.extract (sa+na) (sa+na+m)).toList,U x:=λx hx=>by obtain⟨j,q1,q2,rfl⟩:=my x hx;exact ua _ (zL (by omega))
 have y0:(arr.extract (sa+na) (sa+na+m)).getD 0 nv=arr.getD (sa+na) nv:=gy 0 (by omega)
 have xl:(arr.extract (sa+k) (sa+na)).getD ((arr.extract (sa+k) (sa+na)).size-1) nv=arr.getD (sa+na-1) nv:=by rw[zx,gx _ (by omega)];congr 1;omega
 refine qN (λ_=>?_) λ_=>?_
 .refine Ba (aF C rfl ux uy px py (λmg g' M=>?_) (by rw[zx];omega) (by rw[zy];omega) ?_ λx hx=>?_)
  .refine Ba (Ji (Ba (Nc (Bq ?_))))
   exact fin mg g' M
  .rw[y0];exact(lox _ (zL (by rw[zx];omega))).1
  .rw[xl];exact(loy x hx).2
 .refine Ba (aE C rfl ux uy px py (λmg g' M=>?_) (by rw[zx];omega) (by rw[zy];omega) (λx hx=>?_) ?_)
  .refine Ba (Ji (Ba (Nc (Bq ?_))))
   exact fin mg g' M
  .rw[y0];exact(lox x hx).1
  .rw[xl];exact(loy _ (zL (by rw[zy];omega))).2
end
def mir (a:Aw Bv)(i j:Ai):Aw Bv:=mirror a i j ((j-i)/2)
theorem wN {a:Aw Bv}{i j:Ai}(hj:j<=a.size)(k:Ai):(mir a i j).getD k nv=if i<=k/\k<j then a.getD (i+j-1-k) nv else a.getD k nv:=by
 rw[EQ,EQ,EQ];unfold mir;rw[getElem?_mirror_all hj]
 split <;> rfl
structure Cr (a b:Aw Bv)(lo n:Ai):Prop where
 pm:b.toList.Perm a.toList
 out:∀ k,k<lo\/lo+n<=k->b.getD k nv=a.getD k nv
theorem Cr.z {a b:Aw Bv}(h:Cr a b lo n):b.size=a.size:=by
 have:=h.pm.length_eq;simpa using this
theorem Cr.rfl' {a:Aw Bv}:Cr a a lo n:=⟨Lf _,λ_ _=>rfl⟩
theorem Cr.mir {a b:Aw Bv}{i j:Ai}(h:Cr a b lo n)(h1:lo<=i)(h2:j<=lo+n)(h3:j<=a.size):Cr a (mir b i j) lo n:=
 ⟨(Rb.mp (mirror_perm _ _ _ _)).trans h.pm,λk hk=>by rw[wN (by rw[h.z];exact h3),Bb (by lia)];exact h.out k hk⟩
def Dsg (r:Bv->Ak)(a:Aw Bv)(lo n:Ai):Prop:=∀ i j,lo<=i->i<=j->j<lo+n->r (a.getD j nv)<=r (a.getD i nv)
theorem JF {r:Bv->Ak}{a:Aw Bv}(h:Seg r a lo n)(h1:1<=n)(l:r (a.getD (lo+n-1) nv)<=r (a.getD (lo+n) nv)):Seg r a lo (n+1):=λi j h2 h3 h4=>by
 by_cases q:j<lo+n
 .exact h i j h2 h3 q
 .have:j=lo+n:=by lia
  subst this;by_cases q2:i=lo+n
  .subst q2;exact Ky _
  .exact Dt (h i (lo+n-1) h2 (by lia) (by lia)) l
theorem uJ {r:Bv->Ak}{a:Aw Bv}(h:Dsg r a lo n)(h1:1<=n)(l:r (a.getD (lo+n) nv)<=r (a.getD (lo+n-1) nv)):Dsg r a lo (n+1):=λi j h2 h3 h4=>by
 by_cases q:j<lo+n
 .exact h i j h2 h3 q
 .have:j=lo+n:=by lia
  subst this;by_cases q2:i=lo+n
  .subst q2;exact Ky _
  .exact Dt l (h i (lo+n-1) h2 (by lia) (by lia))
theorem oE {r:Bv->Ak}{a:Aw Bv}:Seg r a lo 1:=λi j h2 h3 h4=>by
 have:i=j:=by lia
 subst this;exact Ky _
theorem PH {r:Bv->Ak}{a:Aw Bv}:Dsg r a lo 1:=λi j h2 h3 h4=>by
 have:i=j:=by lia
 subst this;exact Ky _
def YI (r:Bv->Ak)(a:Aw Bv)(lo n q:Ai):Prop:=q+1<=n/\∀ k,lo+n-(q+1)<=k->k<lo+n->r (a.getD k nv)=r (a.getD (lo+n-1) nv)
set_option tactic.hygienic true in
theorem g9 {r:Bv->Ak}{a:Aw Bv}{q:Ai}(hn:lo+n<=a.size)(h:YI r a lo n q)(k:Ai):r ((mir a (lo+n-(q+1)) (lo+n)).getD k nv)=r (a.getD k nv):=by
 rw[wN hn];have:=h.1
 split
 .rename_i c
  rw[h.2 k (by lia) c.2,h.2 _ (by lia) (by lia)]
 .rfl
theorem PF {r:Bv->Ak}{a:Aw Bv}(hn:lo+n<=a.size)(h:Dsg r a lo n):Seg r (mir a lo (lo+n)) lo n:=λi j h2 h3 h4=>by
 rw[wN hn,wN hn,Bf (by lia),Bf (by lia)]
 exact h _ _ (by lia) (by lia) (by lia)
section
variable {prog:Bc}{w:Bx}{A:Bk}{E:Ac->Ag->Prop}{s:Ag}{κ : Mf}{U:Bv->Prop}{r:Bv->Ak}
theorem kL (C:Cm (As prog w) A s κ U r){i j:Ai}{arr:Aw Bv}{pd:Aw (Ai × Ai × Ai)}{g:Ai}{Q:Al Ar->Fp->Prop}(ua:∀ x∈arr.toList,U x)(hi:i<arr.size)(hj:j<arr.size)
  (q:Q (Ab (decide (r (arr.getD i nv)<r (arr.getD j nv)))) (Dh κ arr pd g none)):wpS (As prog w) A E s (ltAt' i j) Q (Dh κ arr pd g none):=by
 refine Ba (Nc ?_);exact Ba (zC hi (Ba (zC hj (C.lt (ua _ (zL hi)) (ua _ (zL hj)) rfl q))))
theorem fH {i j:Ai}{pd:Aw (Ai × Ai × Ai)}{g:Ai}{Q:PUnit->Fp->Prop}(q:Q ⟨⟩ (Dh κ (mir arr i j) pd g none)):wpS (As prog w) A E s (reverseSlice' i j) Q (Dh κ arr pd g none):=Ji q
theorem sO (C:Cm (As prog w) A s κ U r){lo N:Ai}{arr:Aw Bv}{pd:Aw (Ai × Ai × Ai)}{g:Ai}{Q:Al Ai->Fp->Prop}(ua:∀ x∈arr.toList,U x)(h1:1<=N)(hz:lo+N<=arr.size)
  (h:∀ n b,1<=n->n<=N->Cr arr b lo N->Seg r b lo n->Q (Ab n) (Dh κ b pd g none)):wpS (As prog w) A E s (countRun' lo N) Q (Dh κ arr pd g none):=by
 have uc:∀ {b:Aw Bv},Cr arr b lo N->∀ x∈b.toList,U x:=λh x hx=>ua x (h.pm.mem_iff.mp hx);have asc:∀ {b:Aw Bv} {n:Ai} {f:Ai->Al (Al Ai) × Ai->Ot Fp Ke (ForInStep (Al (Al Ai) × Ai))},Cr arr b lo N->1<=n->n<=N->Seg r b lo n ->
   (∀ x m,f x (none,m)=(ltAt' (lo+m) (lo+m-1) >>= λo=>match o with
    |some z=>if z then pure (.done (none,m)) else pure (.yield (none,m+1))
    |_=>pure (.done (Ab none,m))))->wpS (As prog w) A E s (forIn [n:N] (none,n) f) (λc st'=>st'=Dh κ b pd g none/\∃ m,c=(none,m)/\n<=m/\m<=N/\Seg r b lo m/\(m=N\/r (b.getD (lo+m) nv)<r (b.getD (lo+m-1) nv))) (Dh κ b pd g none):=by
  intro b n f cr hn hN sg hf;have zb:=cr.z;refine Fe (I:=λx c st'=>st'=Dh κ b pd g none/\c=(none,x)/\n<=x/\Seg r b lo x) ?_ ?_ ⟨rfl,rfl,Ax _,sg⟩
  .rintro x c st' hx1 hx ⟨rfl,rfl,hx3,sg⟩
   rw[hf];refine Ba (kL C (uc cr) (by lia) (by lia) ?_)
   by_cases l:r (b.getD (lo+x) nv)<r (b.getD (lo+x-1) nv)
   .simp only[l,Jb,Dp]
    exact Bq ⟨rfl,x,rfl,hx1,by lia,sg,.inr l⟩
   .simp only[l,Kb,Br,Dw]
    exact Bq ⟨rfl,rfl,by lia,JF sg (by lia) (by lia)⟩
  .rintro c st' ⟨rfl,rfl,hx3,sg⟩
   rw[show max n N=N by lia] at sg ⊢
   exact⟨rfl,N,rfl,hN,Ax _,sg,.inl rfl⟩
 refine Ba (He (asc Cr.rfl' (Ax 1) h1 oE λ_ _=>rfl) ?_);rintro c st' ⟨rfl,n,rfl,n1,n2,sg,nd⟩;dsimp only;refine qN (λe=>Bq (h n arr n1 n2 Cr.rfl' sg)) λe=>?_;have e:¬ n=N:=by simpa using e
 have nd:r (arr.getD (lo+n) nv)<r (arr.getD (lo+n-1) nv):=by lia
 apply qN
 case' h1 =>
  intro np;refine Ba (kL C ua (by lia) (by lia) ?_)
  dsimp only;refine qN (λe=>Bq (h n arr n1 n2 Cr.rfl' sg)) λl=>?_;have l:¬ r (arr.getD lo nv)<r (arr.getD (lo+n-1) nv):=by simpa using l
  refine Ba (fH ?_);have cr:Cr arr (mir arr lo (lo+n)) lo N:=Cr.rfl'.mir (Ax _) (by lia) (by lia)
  have ds:Dsg r (mir arr lo (lo+n)) lo (n+1):=by
   refine uJ (λi j a b c=>?_) n1 ?_
   .rw[wN (by lia),wN (by lia),Bf (by lia),Bf (by lia)]
    exact sg _ _ (by lia) (by lia) (by lia)
   .rw[wN (by lia),wN (by lia),Bb (by lia),Bf (by lia),show lo+(lo+n)-1-(lo+n-1)=lo by lia]
    lia
 case' h2 =>
  intro np;have cr:Cr arr arr lo N:=Cr.rfl';have ds:Dsg r arr lo (n+1):=by
   have:n=1:=by lia
   subst this;exact uJ PH (Ax _) (Hi nd)
 all_goals
  refine Ba (Rc (Gs ⟨rfl,?_⟩));refine Ba (He (Fe (I:=λx c st'=>∃ b q,st'=Dh κ b pd g none/\c=(none,x,q)/\Cr arr b lo N/\Dsg r b lo x/\YI r b lo x q)
   (Q:=λc st'=>∃ b m q,st'=Dh κ b pd g none/\c=(none,m,q)/\1<=m/\m<=N/\Cr arr b lo N/\Dsg r b lo m/\YI r b lo m q) ?_ ?_ ⟨_,0,rfl,rfl,cr,ds,by lia,λk a b=>by rw[show k=lo+(n+1)-1 by lia]⟩) ?_)
  .rintro x c st' hx1 hx ⟨b,q,rfl,rfl,cr,ds,eq⟩
   dsimp only;have zb:=cr.z;refine Ba (kL C (uc cr) (by lia) (by lia) ?_)
   dsimp only;refine qN (λl=>?_) λl=>?_
   .have l:r (b.getD (lo+x) nv)<r (b.getD (lo+x-1) nv):=by simpa using l
    refine qN (λqp=>Ba (fH (Bq ⟨_,0,rfl,rfl,cr.mir (by have:=eq.1;lia) (by lia) (by lia),λi j a c d=>?_,by lia,λk a b=>by rw[show k=lo+(x+1)-1 by lia]⟩))) λqp=>Bq ⟨_,0,rfl,rfl,cr,uJ ds (by lia) (Hi l),by lia,λk a b=>by rw[show k=lo+(x+1)-1 by lia]⟩
    rw[g9 (by lia) eq,g9 (by lia) eq]
    exact uJ ds (by lia) (Hi l) i j a c d
   .have l:¬ r (b.getD (lo+x) nv)<r (b.getD (lo+x-1) nv):=by simpa using l
    refine Ba (kL C (uc cr) (by lia) (by lia) ?_)
    dsimp only;refine qN (λl2=>Bq ⟨b,x,q,rfl,rfl,by lia,by lia,cr,ds,eq⟩) λl2=>?_
    have l2:¬ r (b.getD (lo+x-1) nv)<r (b.getD (lo+x) nv):=by simpa using l2
    have ee:r (b.getD (lo+x) nv)=r (b.getD (lo+x-1) nv):=by lia
    refine Bq ⟨b,q+1,rfl,rfl,cr,uJ ds (by lia) (by lia),by have:=eq.1;lia,λk a c=>?_⟩
    rw[show lo+(x+1)-1=lo+x by lia]
    by_cases kx:k=lo+x
    .rw[kx]
    .rw[ee];exact eq.2 k (by lia) (by lia)
  .rintro c st' ⟨b,q,rfl,rfl,cr,ds,eq⟩
   rw[show max (n+1) N=N by lia] at ds eq ⊢
   exact⟨b,N,q,rfl,rfl,h1,Ax _,cr,ds,eq⟩
  .rintro c st' ⟨b,m,q,rfl,rfl,m1,m2,cr,ds,eq⟩
   dsimp only;have zb:=cr.z;apply qN
   case' h1 =>
    intro qp;refine Ba (fH ?_);have cr2:=cr.mir (i:=lo+m-(q+1)) (j:=lo+m) (by have:=eq.1;lia) (by lia) (by lia)
    have ds2:Dsg r (mir b (lo+m-(q+1)) (lo+m)) lo m:=λi j a c d=>by
     rw[g9 (by lia) eq,g9 (by lia) eq]
     exact ds i j a c d
   case' h2 =>
    intro qp;have cr2:=cr;have ds2:=ds
   all_goals
    have z2:=cr2.z;refine Ba (fH ?_);refine Ba (He (asc (cr2.mir (Ax _) (by lia) (by lia)) m1 m2 (PF (by lia) ds2) λ_ _=>rfl) ?_)
    rintro c st' ⟨rfl,n',rfl,q1,q2,q3,_⟩;exact Bq (h n' _ (by lia) q2 (cr2.mir (Ax _) (by lia) (by lia)) q3)
end
theorem rL {a:Aw Bv}{src d:Ai}(hs:src<a.size)(hd:d<=src)(k:Ai):(bubble a src d).getD k nv=if k=src-d then a.getD src nv else if src-d<k/\k<=src then a.getD (k-1) nv else a.getD k nv:=by
 simp only[EQ];rw[getElem?_bubble hs d hd]
 repeat' split
 all_goals rfl
section
variable {prog:Bc}{w:Bx}{A:Bk}{E:Ac->Ag->Prop}{s:Ag}{κ : Mf}{U:Bv->Prop}{r:Bv->Ak}
theorem cS (C:Cm (As prog w) A s κ U r){lo n ok:Ai}{arr:Aw Bv}{pd:Aw (Ai × Ai × Ai)}{g:Ai}{Q:Ar->Fp->Prop}(ua:∀ x∈arr.toList,U x)(h1:ok<=n)(hz:lo+n<=arr.size)(sg:Seg r arr lo ok)
  (h:∀ b,Cr arr b lo n->Seg r b lo n->Q true (Dh κ b pd g none)):wpS (As prog w) A E s (binarySort' lo n ok) Q (Dh κ arr pd g none):=by
 have uc:∀ {b:Aw Bv},Cr arr b lo n->∀ x∈b.toList,U x:=λh x hx=>ua x (h.pm.mem_iff.mp hx);have sg1:Seg r arr lo (max ok 1):=by
  by_cases q:ok=0
  .rw[q];exact oE
  .rw[show max ok 1=ok by lia];exact sg
 refine Ba (He (Fe (I:=λk c st'=>c=(none,())/\∃ b,st'=Dh κ b pd g none/\Cr arr b lo n/\Seg r b lo (min k (max ok (max n 1))))
  (Q:=λc st'=>c=(none,())/\∃ b,st'=Dh κ b pd g none/\Cr arr b lo n/\Seg r b lo n) ?_ ?_ ⟨rfl,arr,rfl,Cr.rfl',?_⟩) ?_)
 .rintro k c st' hk hkn ⟨rfl,b,rfl,cr,sg⟩
  have zb:=cr.z;rw[show min k (max ok (max n 1))=k by lia] at sg
  dsimp only;refine Ba (He (Fe (I:=λx c st'=>st'=Dh κ b pd g none/\∃ l u,c=(none,l,u)/\l<=u/\u<=k/\u-l<=k-x/\(∀ i,i<l->r (b.getD (lo+i) nv)<=r (b.getD (lo+k) nv))/\∀ i,u<=i->i<k->r (b.getD (lo+k) nv)<r (b.getD (lo+i) nv))
   (Q:=λc st'=>st'=Dh κ b pd g none/\∃ l u,c=(none,l,u)/\l<=k/\(∀ i,i<l->r (b.getD (lo+i) nv)<=r (b.getD (lo+k) nv))/\∀ i,l<=i->i<k->r (b.getD (lo+k) nv)<r (b.getD (lo+i) nv)) ?_ ?_
   ⟨rfl,0,k,rfl,by lia,by lia,by lia,λi hi=>by lia,λi a b=>by lia⟩) ?_)
  .rintro x c st' _ hx ⟨rfl,l,u,rfl,q1,q2,q3,q4,q5⟩
   dsimp only;refine qN (λe=>Bq ⟨rfl,l,u,rfl,by lia,q4,λi a b=>q5 i (by lia) b⟩) λe=>?_
   refine Ba (kL C (uc cr) (by lia) (by lia) ?_)
   dsimp only;refine qN (λz=>?_) λz=>?_
   .have z:r (b.getD (lo+k) nv)<r (b.getD (lo+(l+u)/2) nv):=by simpa using z
    exact Bq ⟨rfl,_,_,rfl,by lia,by lia,by lia,q4,λi a c=>Int.lt_of_lt_of_le z (sg _ _ (by lia) (by lia) (by lia))⟩
   .have z:¬ r (b.getD (lo+k) nv)<r (b.getD (lo+(l+u)/2) nv):=by simpa using z
    exact Bq ⟨rfl,_,_,rfl,by lia,by lia,by lia,λi a=>Dt (sg _ _ (by lia) (by lia) (by lia)) (Oa.mp z),q5⟩
  .rintro c st' ⟨rfl,l,u,rfl,q1,q2,q3,q4,q5⟩
   exact⟨rfl,l,u,rfl,by lia,q4,λi a b=>q5 i (by lia) b⟩
  .rintro c st' ⟨rfl,l,u,rfl,q1,q4,q5⟩
   dsimp only;refine Ba (Ji (Bq ⟨rfl,_,rfl,⟨(Rb.mp (bubble_perm _ _ _)).trans cr.pm,λj hj=>?_⟩,?_⟩))
   .show (bubble b (lo+k) (lo+k-(lo+l))).getD j nv=_
    rw[rL (by lia) (by lia),Bb (by lia),Bb (by lia)]
    exact cr.out j hj
   .rw[show min (k+1) (max ok (max n 1))=k+1 by lia]
    have e:∀ j,(bubble b (lo+k) (lo+k-(lo+l))).getD j nv=if j=lo+l then b.getD (lo+k) nv else if lo+l<j/\j<=lo+k then b.getD (j-1) nv else b.getD j nv:=λj=>by
     rw[rL (by lia) (by lia),show lo+k-(lo+k-(lo+l))=lo+l by lia]
    intro i j a c d;show r ((bubble b (lo+k) (lo+k-(lo+l))).getD i nv)<=r ((bubble b (lo+k) (lo+k-(lo+l))).getD j nv);rw[e,e];by_cases i1:i<lo+l
    .rw[Bb (by lia),Bb (by lia)]
     have u1:=q4 (i-lo) (by lia)
     rw[show lo+(i-lo)=i by lia] at u1
     by_cases j1:j<lo+l
     .rw[Bb (by lia),Bb (by lia)];exact sg i j a c (by lia)
     .by_cases j2:j=lo+l
      .rw[Bf j2];exact u1
      .rw[Bb j2,Bf (by lia)];exact sg _ _ a (by lia) (by lia)
    .by_cases i2:i=lo+l
     .rw[Bf i2]
      by_cases j2:j=lo+l
      .rw[Bf j2];exact Ky _
      .rw[Bb j2,Bf (by lia)]
       have:=q5 (j-1-lo) (by lia) (by lia)
       rw[show lo+(j-1-lo)=j-1 by lia] at this
       exact Hi this
     .rw[Bb i2,Bf (by lia),Bb (by lia),Bf (by lia)]
      exact sg _ _ (by lia) (by lia) (by lia)
 .rintro c st' ⟨rfl,b,rfl,cr,sg⟩
  refine⟨rfl,b,rfl,cr,?_⟩;intro i j a c d;exact sg i j a c (by lia)
 .rw[show min (max ok 1) (max ok (max n 1))=max ok 1 by lia];exact sg1
 .rintro c st' ⟨rfl,b,rfl,cr,sg⟩
  exact Bq (h b cr sg)
end
def Rn (r:Bv->Ak)(a:Aw Bv):Aa (Ai × Ai × Ai)->Ai->Ai->Prop
 |[],x,y=>x=y
 |(s,n,_)::t,x,y=>s=x/\0<n/\Seg r a s n/\Rn r a t (x+n) y
section
variable {r:Bv->Ak}{a b:Aw Bv}
theorem Rn.app:∀ {L1 L2:Aa (Ai × Ai × Ai)} {x y:Ai},Rn r a (L1++L2) x y↔∃ m,Rn r a L1 x m/\Rn r a L2 m y
 |[],L2,x,y=>⟨λh=>⟨x,rfl,h⟩,λ⟨m,h1,h2⟩=>by cases h1;exact h2⟩
 |(s,n,p)::t,L2,x,y=>by
  show s=x/\0<n/\Seg r a s n/\Rn r a (t++L2) (x+n) y↔∃ m,(s=x/\0<n/\Seg r a s n/\Rn r a t (x+n) m)/\Rn r a L2 m y;rw[Rn.app];exact⟨λ⟨h1,h2,h3,m,h4,h5⟩=>⟨m,⟨h1,h2,h3,h4⟩,h5⟩,λ⟨m,⟨h1,h2,h3,h4⟩,h5⟩=>⟨h1,h2,h3,m,h4,h5⟩⟩
theorem Rn.le:∀ {L:Aa (Ai × Ai × Ai)} {x y:Ai},Rn r a L x y->x+L.length<=y
 |[],x,y,h=>by cases h;simp
 |(s,n,p)::t,x,y,h=>by have:=Rn.le h.2.2.2;have:=h.2.1;simp only[By];lia
theorem Rn.congr:∀ {L:Aa (Ai × Ai × Ai)} {x y:Ai},Rn r a L x y->(∀ k,x<=k->k<y->b.getD k nv=a.getD k nv)->Rn r b L x y
 |[],x,y,h,_=>h
 |(s,n,p)::t,x,y,h,e=>by
  obtain⟨rfl,h2,h3,h4⟩:=h;have l:=Rn.le h4;refine⟨rfl,h2,λi j a c d=>?_,Rn.congr h4 λk h1 h2=>e k (by lia) h2⟩
  rw[e i (by lia) (by lia),e j (by lia) (by lia)]
  exact h3 i j a c d
theorem Rn.mod {f:Ai × Ai × Ai->Ai × Ai × Ai}(hf:∀ u v p,∃ p',f (u,v,p)=(u,v,p')):∀ {L:Aa (Ai × Ai × Ai)} {i x y:Ai},Rn r a L x y->Rn r a (L.modify i f) x y
 |[],i,x,y,h=>by simpa using h
 |(s,n,p)::t,0,x,y,h=>by
  obtain⟨p',e⟩:=hf s n p;rw[List.modify_zero_cons,e];exact h
 |(s,n,p)::t,i+1,x,y,h=>by
  rw[List.modify_succ_cons];exact⟨h.1,h.2.1,h.2.2.1,Rn.mod hf h.2.2.2⟩
end
theorem EU {α:Type}{l:Aa α}{i:Ai}(h:i+1<l.length):∃ L1 x y L2,l=L1++x::y::L2/\L1.length=i:=by
 refine⟨l.take i,l[i],l[i+1],l.drop (i+2),?_,by rw[Fn];lia⟩
 rw[<- Fk h,<- Fk (by lia),Ou]
section
variable {prog:Bc}{w:Bx}{A:Bk}{E:Ac->Ag->Prop}{s:Ag}{κ : Mf}{U:Bv->Prop}{r:Bv->Ak}
theorem tQ (C:Cm (As prog w) A s κ U r){i e:Ai}{Q:Ar->Fp->Prop}{arr:Aw Bv}{pd:Aw (Ai × Ai × Ai)}{g:Ai}(ua:∀ x∈arr.toList,U x)(hi:i+1<pd.size)(R:Rn r arr pd.toList 0 e)(he:e<=arr.size)
  (h:∀ b pd' g,b.toList.Perm arr.toList->(∀ k,e<=k->b.getD k nv=arr.getD k nv)->Rn r b pd'.toList 0 e->pd'.size+1=pd.size->Q true (Dh κ b pd' g none)):wpS (As prog w) A E s (mergeAt' i) Q (Dh κ arr pd g none):=by
 obtain⟨L1,⟨sa,na,pa⟩,⟨sb,nb,pb⟩,L2,el,hl⟩:=EU (l:=pd.toList) (i:=i) (by simpa using hi)
 rw[el] at R;obtain⟨m,R1,rfl,p1,s1,rfl,p2,s2,R2⟩:=Rn.app.mp R;have l2:=Rn.le R2;have e1:pd[i]? = Ab (sa,na,pa):=by
  rw[<- Bn,el,<- hl,Cp (Ax _),Xj];rfl
 have e2:pd[i+1]? = Ab (sa+na,nb,pb):=by
  rw[<- Bn,el,<- hl,Cp (by lia),Kc];rfl
 refine aD C ua e1 e2 p1 p2 (by lia) s1 s2 λb g pm out sg=>?_
 have ep:((pd.setIfInBounds i (sa,na+nb,pa)).eraseIdxIfInBounds (i+1)).toList=L1++(sa,na+nb,pa)::L2:=by
  rw[Array.toList_eraseIdxIfInBounds,Array.toList_setIfInBounds,el,<- hl,List.set_append_right _ _ (Ax _),Xj,Qs,List.eraseIdx_append_of_length_le (by lia),Kc]
  rfl
 refine h b _ g pm (λk hk=>out k (by lia)) ?_ ?_
 .rw[ep]
  refine Rn.app.mpr ⟨sa,R1.congr λk _ hk=>out k (by lia),rfl,by lia,sg,?_⟩
  rw[<- Nat.add_assoc];exact R2.congr λk hk _=>out k (by lia)
 .have:=congrArg Iy ep
  have q:=congrArg Iy el;simp only[Bp,De,By] at this q
  lia
theorem sQ (C:Cm (As prog w) A s κ U r){Q:Uv->Fp->Prop}{arr:Aw Bv}{g:Ai}(ua:∀ x∈arr.toList,U x)(h2:0<arr.size)
  (h:∀ b pd g,b.toList.Perm arr.toList->b.toList.Pairwise (Le r)->Q () (Dh κ b pd g none)):wpS (As prog w) A E s sortRuns' Q (Dh κ arr #[] g none):=by
 have uc:∀ {b:Aw Bv},b.toList.Perm arr.toList->∀ x∈b.toList,U x:=λh x hx=>ua x (h.mem_iff.mp hx);have zc:∀ {b:Aw Bv},b.toList.Perm arr.toList->b.size=arr.size:=λh=>by simpa using h.length_eq
 refine Ba (Nc ?_);dsimp only;refine Ba (He (Fe (I:=λx c st'=>∃ b pd g lo,st'=Dh κ b pd g none/\c=(none,lo)/\b.toList.Perm arr.toList/\lo<=arr.size/\min x arr.size<=lo/\Rn r b pd.toList 0 lo)
  (Q:=λc st'=>∃ b pd g,st'=Dh κ b pd g none/\c=(none,arr.size)/\b.toList.Perm arr.toList/\Rn r b pd.toList 0 arr.size) ?_ ?_ ⟨arr,#[],g,0,rfl,rfl,Lf _,by lia,by lia,rfl⟩) ?_)
 .rintro x c st' _ hx ⟨b,pd,g,lo,rfl,rfl,pm,lo1,lo2,R⟩
  have zb:=zc pm;dsimp only;refine qN (λe=>Bq ⟨b,pd,g,rfl,by rw[show lo=arr.size by lia],pm,by rw[show arr.size=lo by lia];exact R⟩) λe=>?_
  refine Ba (sO C (uc pm) (by lia) (by lia) λn b2 n1 n2 cr sg=>?_)
  have R2:Rn r b2 pd.toList 0 lo:=R.congr λk _ hk=>cr.out k (.inl hk);have pm2:=cr.pm.trans pm;have z2:=zc pm2;dsimp only;apply qN
  case' h1 =>
   intro lt;refine Ba (Rc (Gs ⟨rfl,?_⟩));refine Ba (cS C (uc pm2) (by lia) (by lia) sg λb3 cr3 sg3=>?_)
   have R3:Rn r b3 pd.toList 0 lo:=R2.congr λk _ hk=>cr3.out k (.inl hk);have pm3:=cr3.pm.trans pm2;refine qN (λe=>by simp at e) λ_=>?_
   have n3:lo+min (arr.size-lo) ((sortPriv% PySem.Builtin.minRun) arr.size arr.size 0)<=arr.size:=by lia
   have n4:0<min (arr.size-lo) ((sortPriv% PySem.Builtin.minRun) arr.size arr.size 0):=by lia
  case' h2 =>
   intro lt;have R3:=R2;have pm3:=pm2;have sg3:=sg;have n3:lo+n<=arr.size:=by lia
   have n4:0<n:=n1
  all_goals
   refine Ba (Nc ?_);dsimp only;rcases hb:pd.back? with _|⟨s1,l1,p1⟩
   .dsimp only
    refine Ba (Ji (Bq ⟨_,_,_,_,rfl,rfl,pm3,n3,by lia,?_⟩))
    show Rn r _ (pd.push _).toList 0 _;rw[El];exact Rn.app.mpr ⟨lo,R3,rfl,n4,sg3,rfl⟩
   .dsimp only
    refine Ba (He (Fe (I:=λ_ c st'=>c=(none,())/\∃ b pd g,st'=Dh κ b pd g none/\b.toList.Perm arr.toList/\Rn r b pd.toList 0 lo/\Seg r b lo _)
     (Q:=λc st'=>c=(none,())/\∃ b pd g,st'=Dh κ b pd g none/\b.toList.Perm arr.toList/\Rn r b pd.toList 0 lo/\Seg r b lo _) ?_ (λ_ _ z=>z) ⟨rfl,_,pd,g,rfl,pm3,R3,sg3⟩) ?_)
    .rintro y c st' _ hy ⟨rfl,b,pd,g,rfl,pm,R,sg⟩
     have zb:=zc pm;refine Ba (Nc ?_);dsimp only;by_cases hp:pd.size>1
     .rw[Bf hp]
      rcases hq:pd[pd.size-2]? with _|⟨u,v,old⟩
      .exact Bq ⟨rfl,b,pd,g,rfl,pm,R,sg⟩
      .dsimp only
       refine qN (λ_=>Bq ⟨rfl,b,pd,g,rfl,pm,R,sg⟩) λ_=>?_;refine Ba (tQ C (uc pm) (by lia) R (by lia) λb' pd' g' p' out R' _=>?_)
       refine qN (λe=>by simp at e) λ_=>Bq ⟨rfl,b',pd',g',rfl,p'.trans pm,R',λi j a c d=>?_⟩
       rw[out i a,out j (by lia)]
       exact sg i j a c d
     .rw[Bb hp]
      exact Bq ⟨rfl,b,pd,g,rfl,pm,R,sg⟩
    .rintro c st' ⟨rfl,b,pd,g,rfl,pm,R,sg⟩
     dsimp only;refine Ba (Ji (Ba (Ji (Bq ⟨_,_,_,_,rfl,rfl,pm,n3,by lia,?_⟩))))
     show Rn r b ((pd.modify (pd.size-1) _).push _).toList 0 _;rw[El,Array.toList_modify];exact Rn.app.mpr ⟨lo,Rn.mod (λ_ _ _=>⟨_,rfl⟩) R,rfl,n4,sg,rfl⟩
 .rintro c st' ⟨b,pd,g,lo,rfl,rfl,pm,lo1,lo2,R⟩
  have:lo=arr.size:=by lia
  subst this;exact⟨b,pd,g,rfl,rfl,pm,R⟩
 .rintro c st' ⟨b,pd,g,rfl,rfl,pm,R⟩
  dsimp only;have hl:=R.le;rw[Bp] at hl;refine Ba (He (Fe (I:=λx c st'=>c=(none,())/\∃ b pd g,st'=Dh κ b pd g none/\b.toList.Perm arr.toList/\Rn r b pd.toList 0 arr.size/\(pd.size<=1\/pd.size+x<=arr.size))
   (Q:=λc st'=>c=(none,())/\∃ b pd g,st'=Dh κ b pd g none/\b.toList.Perm arr.toList/\Rn r b pd.toList 0 arr.size/\pd.size<=1) ?_ ?_ ⟨rfl,b,pd,g,rfl,pm,R,by lia⟩) ?_)
  .rintro x c st' _ hx ⟨rfl,b,pd,g,rfl,pm,R,hs⟩
   have zb:=zc pm;refine Ba (Nc ?_);dsimp only;refine qN (λe=>Bq ⟨rfl,b,pd,g,rfl,pm,R,e⟩) λe=>?_;refine Ba (tQ C (uc pm) ?_ R (by lia) λb' pd' g' p' out R' z'=>?_)
   .have e:¬ pd.size<=1:=e
    have q:∀ (c:Prop) [Jl c],(if c then pd.size-2-1 else pd.size-2)+1<pd.size:=λc _=>by split <;> lia
    exact q _
   exact qN (λe=>by simp at e) λ_=>Bq ⟨rfl,b',pd',g',rfl,p'.trans pm,R',by lia⟩
  .rintro c st' ⟨rfl,b,pd,g,rfl,pm,R,hs⟩
   exact⟨rfl,b,pd,g,rfl,pm,R,by lia⟩
  .rintro c st' ⟨rfl,b,pd,g,rfl,pm,R,hs⟩
   have zb:=zc pm;refine Bq (h b pd g pm ?_);have hs:pd.toList.length<=1:=by simpa using hs
   revert R hs
   cases pd.toList with
   |nil=>intro R;have:0=arr.size:=R;lia
   |cons q t =>
    obtain⟨s0,n0,p0⟩:=q;intro R hs;have:t=[]:=by cases t with|nil=>rfl|cons _ _=>simp at hs
    subst this;obtain⟨rfl,_,sg,e⟩:=R;have e:n0=arr.size:=by have:0+n0=arr.size:=e;lia
    subst e;rw[Jn];intro i j hi hj l;have hi':i<b.size:=by simpa using hi
    have hj':j<b.size:=by simpa using hj
    have:=sg i j (by lia) (by lia) (by lia)
    simpa [Ge,hi',hj',Le] using this
end
structure Cmps (prog:Bc)(w:Bx)(h0:Bs)(vs:Aa Ac)(f:Ai->Ai->Ar):Prop where
 ex:∃ κ,∀ (A:Bk),A.units+8<Ee->∀ (s:Ag),Sup h0 s.heap->(∀ (Q:Mf->Ag->Prop) (E:Ac->Ag->Prop),Q κ s->Ap (As prog w) A (keyKind' vs.toArray) Q E s)/\∀ i j (C:Ar->Ag->Prop),i<vs.length->j<vs.length->C (f i j) s->kas_ask prog w A κ vs i j C s
open Classical in
def kV {K:Type}(is:K->Ac->Prop)(d:K)(v:Ac):K:=if h:∃ k,is k v then choose h else d
open Classical in
theorem bX {K:Type}{is:K->Ac->Prop}{d:K}{v:Ac}(h:∃ k,is k v):is (kV is d v) v:=by
 unfold kV;rw[dif_pos h];exact choose_spec h
section
variable {prog:Bc}{w:Bx}{A:Bk}{E:Ac->Ag->Prop}{s:Ag}
theorem KE {K:Type}{is:K->Ac->Prop}{lt':K->K->Ar}{d:K}(O:Ord lt')(inj:∀ {k k':K} {v:Ac},is k v->is k' v->k=k'){a:Af}{vs:Aa Ac}{ks:Aa K}{n:Ai}{h0:Bs}{P:PySem.Fin->Ag->Prop}(hlen:vs.length=ks.length)(hks:∀ i v,vs[i]? = Ab v->is (ks.getD i d) v)(ho:s.heap.get? a=Ab (En "list" vs.toArray n))(hu:A.units+8<Ee)(hz:vs.length<=100000)(c:2<=vs.length->Cmps prog w h0 vs (fU lt' ks d))(hS:Sup h0 s.heap)(ha:h0.get? a=none)
  (h:∀ ps:Aa (K × Ac),ps.Perm (ks.zip vs)->Nf lt' (ps.map (·.1))->P (.done (.ret .none)) { s with heap:=sortedHeap s.heap a vs (ps.map (·.2)).toArray }) : Ap (As prog w) A (Ik.«list.sort» ⟨[.ref a],[]⟩) P E s:=by
 rw[list_sort_plain];have hb:a<s.heap.objs.size:=Ay ho;have hsz:vs.toArray.size=vs.length:=by simp
 refine Ad (listItems_at ho rfl (Ad (listUpdate_at ho rfl ?_ (by rw[hsz,Fg];lia) (Gz _))))
 obtain⟨e1,ho1⟩:∃ e1,(s.heap.update a (Es λ_=>#[])).get? a=Ab (En "list" #[] e1):=⟨_,Mi ho (λ_=>#[])⟩;refine Ad (seqEpoch_at ho1 rfl (Ad (Ux (Ad (Wc (Fj ?_) (Gz _))) (by show vs.length<=_;rw[Fg];lia))))
 have ho6:(((s.heap.update a (Es λ_=>#[])).push (En "tuple" vs.toArray 0)).push (En "list" #[] 0)).get? a=Ab (En "list" #[] e1):=
  Ah _ (Ah _ ho1)
 have S6:Sup h0 (((s.heap.update a (Es λ_=>#[])).push (En "tuple" vs.toArray 0)).push (En "list" #[] 0)):=λb o e =>
  Ah _ (Ah _ ((Di _ _ (λz:a=b=>by rw[<- z,ha] at e;cases e)).trans (hS b o e)))
 show Ap (As prog w) A _ P E { s with heap:=((s.heap.update a (Es λ_=>#[])).push (En "tuple" vs.toArray 0)).push (En "list" #[] 0) }
 dsimp only;have fin:∀ (st':Fp) (ps:Aa (K × Ac)),(arrOf st').map (·.2)=(ps.map (·.2)).toArray->failedOf st'=none->ps.Perm (ks.zip vs)->Nf lt' (ps.map (·.1))->Ap (As prog w) A (do
   let touched:=(<- seqEpoch a) != e1
   Builtin.List.listUpdate (.ref a) λ_=>(arrOf st').map (·.2)
   if let Ab e:=failedOf st' then rule "list.sort.comparison-raised";throw e
   if touched then rule "list.sort.modified";raiseError "ValueError" "list modified during sort"
   ret .none) P E { s with heap:=((s.heap.update a (Es λ_=>#[])).push (En "tuple" vs.toArray 0)).push (En "list" #[] 0) }:=by
  intro st' ps h1 h2 h3 h4;have hl:(ps.map (·.2)).length=vs.length:=by rw[Au,h3.length_eq,TD,hlen,Sx]
  refine Ad (seqEpoch_at ho6 rfl ?_);rw[h1];refine Ad (listUpdate_at ho6 rfl ?_ (Gz _) (by show (ps.map (·.2)).toArray.size<=_;rw[Bz,hl,Fg];lia))
  rw[h2];simp only[bne_self_eq_false,Br,Dw];exact An (h ps h3 h4)
 by_cases h2:vs.toArray.size<2
 .rw[Bf h2,Bf h2]
  refine Ad (An ?_);rw[StateT.run_pure];refine Ad (An ?_);refine fin (Dh general' (vs.toArray.zip vs.toArray) #[] 7 none) (ks.zip vs) ?_ rfl (Lf _) ?_
  .show (vs.toArray.zip vs.toArray).map (·.2)=_
   apply Zg.mp;simp[List.map_snd_zip,hlen]
  .rw[Su (by lia)]
   match ks,hlen with
   |[],_=>exact Nn
   |[_],_=>exact Td _ _
   |_::_::_,e=>simp at e h2;lia
 .rw[Bb h2,Bb h2]
  have h2':2<=vs.length:=by lia
  obtain⟨κ,C⟩:=c h2';obtain⟨k1,k2⟩:=C A hu { s with heap:=((s.heap.update a (Es λ_=>#[])).push (En "tuple" vs.toArray 0)).push (En "list" #[] 0) } S6
  have kv:∀ i,i<vs.length->kV is d (vs.getD i Cz)=ks.getD i d:=λi hi=>by
   have q:=hks i (vs.getD i Cz) (by rw[Eb,Am hi];rfl)
   exact inj (bX ⟨_,q⟩) q
  have km:∀ i,i<vs.length->ks.getD i d∈ks:=λi hi=>by
   have:i<ks.length:=by lia
   simp[Hb,this]
  have cm:Cm (As prog w) A { s with heap:=((s.heap.update a (Es λ_=>#[])).push (En "tuple" vs.toArray 0)).push (En "list" #[] 0) } κ (λx=>∃ i,i<vs.length/\x=(vs.getD i Cz,vs.getD i Cz)) (λx=>gU lt' ks (kV is d x.1)):=by
   refine⟨?_⟩;rintro x y ⟨i,hi,rfl⟩ ⟨j,hj,rfl⟩ E Q st hk q;rw[lt'_eq];refine Ba (Nc ?_);rw[hk];rw[kv i hi,kv j hj,<- cF O (km i hi)] at q;refine Ba (Rc (Kn (Gq (k2 i j (λb s'=>s'=_/\b=fU lt' ks d i j) hi hj ⟨rfl,rfl⟩) ?_ λ_ _ e=>e.elim)));rintro b s' ⟨rfl,rfl⟩;exact⟨rfl,Bq q⟩
  have pl:(vs.toArray.zip vs.toArray).toList=(Dd vs.length).map λi=>(vs.getD i Cz,vs.getD i Cz):=by
   apply Os
   .simp
   .intro i h1 h2
    have:i<vs.length:=by simpa using h2
    simp[this]
  refine Ad (k1 _ _ ?_);refine Ad (Gq (sQ (E:=E) (Q:=λ_ st'=>∃ b pd g,st'=Dh κ b pd g none/\b.toList.Perm (vs.toArray.zip vs.toArray).toList/\b.toList.Pairwise (Le λx=>gU lt' ks (kV is d x.1))) cm (arr:=vs.toArray.zip vs.toArray) (g:=7) ?_ ?_ λb pd g p q=>⟨b,pd,g,rfl,p,q⟩) ?_ λ_ _ e=>e)
  .intro x hx
   rw[pl] at hx;obtain⟨i,hi,rfl⟩:=Bj.mp hx;exact⟨i,Ed.mp hi,rfl⟩
  .simp;lia
  .rintro⟨⟨⟩,st'⟩ s' ⟨rfl,b,pd,g,rfl,pm,up⟩
   refine fin _ (b.toList.map λx=>(kV is d x.1,x.2)) ?_ rfl ?_ ?_
   .show b.map (·.2)=_
    apply Zg.mp;simp
   .refine(pm.map _).trans ?_
    rw[pl,Eh];have:ks.zip vs=(Dd vs.length).map λi=>(ks.getD i d,vs.getD i Cz):=by
     apply Os
     .simp[hlen]
     .intro i h1 h2
      have h3:i<vs.length:=by simpa using h2
      have h4:i<ks.length:=by lia
      simp[h3,h4]
    rw[this];refine List.Perm.of_eq (Gg λi hi=>?_);show (kV is d (vs.getD i Cz),_)=_;rw[kv i (Ed.mp hi)]
   .unfold Nf
    rw[Eh,Df];refine up.imp_of_mem λ{x y} hx hy h=>?_;have hx:=pm.mem_iff.mp hx;have hy:=pm.mem_iff.mp hy;rw[pl] at hx hy;obtain⟨i,hi,rfl⟩:=Bj.mp hx;obtain⟨j,hj,rfl⟩:=Bj.mp hy;have h:gU lt' ks (kV is d (vs.getD i Cz))<=gU lt' ks (kV is d (vs.getD j Cz)):=h;show lt' (kV is d (vs.getD j Cz)) (kV is d (vs.getD i Cz))=false;have hj:=Ed.mp hj;rw[cF O (ks:=ks) (by rw[kv j hj];exact km j hj)]
    exact Cb (by lia)
end
section
variable {prog:Bc}{w:Bx}{h0:Bs}
theorem BO {A:Bk}{s:Ag}{b:Ar}{Q:Ar->Ag->Prop}:∀ {xs ys:Aa Ak} {us vs:Aa Ac} {i:Ai} {N M:Ai},ItemsAre (Is prog w) xs us->ItemsAre (Is prog w) ys vs->N+ys.length=M+xs.length->Q (_H.lexLt xs ys) s->KatLex prog w A b (decide (N<M)) Q (us.zip vs) i s:=by
 intro xs ys us vs i N M hx
 induction hx generalizing ys vs i with
 |nil =>
  intro hy hl h;cases hy with
  |nil =>
   have:decide (N<M)=false:=Cb (by simp at hl;lia)
   rw[this];exact h
  |@cons k v ys vs q r =>
   have:decide (N<M)=true:=Cd (by simp at hl;lia)
   rw[this];exact h
 |@cons x u xs us qx rx ih =>
  intro hy hl h;cases hy with
  |nil =>
   have:decide (N<M)=false:=Cb (by simp at hl;lia)
   rw[this];exact h
  |@cons y v ys vs qy ry =>
   obtain⟨t,rfl⟩:=uB (prog:=prog) (w:=w) qx;obtain⟨t',rfl⟩:=uB (prog:=prog) (w:=w) qy;rw[Gp];refine kat_cons (Yn ?_);rw[_H.lexLt_cons] at h;refine kat_go (λe=>kat_yes ?_) λe=>kat_no ?_
   .rw[Bf (by simpa using e)] at h
    exact ih ry (by simp at hl;lia) h
   .rw[Bb (by simpa using e)] at h
    cases b&&i == 0 with
    |true=>exact oneLt_int h
    |false=>exact kat_one _ _ (Pv h)
theorem oJ {h:Bs}:∀ {vs:Aa Ac} {ks:Aa (Aa Ak)},vs.length=ks.length->(∀ i v,vs[i]? = Ab v->isT prog w h (ks.getD i []) v)->(∀ k∈ks,k≠[])->∃ fs,KatTups h vs fs/\fs.length=vs.length/\∀ f∈fs,∃ n t,f=Pg n t
 |[],[],_,_,_=>⟨[],trivial,rfl,λf hf=>by simp at hf⟩
 |v::vs,k::ks,hl,hv,hne=>by
  obtain⟨fs,a1,a2,a3⟩:=oJ (vs:=vs) (ks:=ks) (by simpa using hl) (λi u hu=>by simpa using hv (i+1) u (by simpa using hu)) λk hk=>hne k (by simp[hk])
  obtain⟨a,rfl,o,items,n,ho,hc,hd,hi⟩:=hv 0 v rfl;have hk:k≠[]:=hne k (by simp)
  have hi':ItemsAre (Is prog w) k items.toList:=hi;cases hz:items.toList with
  |nil=>rw[hz] at hi';cases hi';exact absurd rfl hk
  |cons f rest =>
   rw[hz] at hi';cases hi' with
   |cons q _ =>
    obtain⟨t,rfl⟩:=uB (prog:=prog) (w:=w) q;refine⟨_::fs,AaE ho hc hd (by rw[<- Bn,hz];rfl) a1,by simp[a2],λf hf=>?_⟩
    rcases Az.mp hf with rfl|hf
    .exact⟨_,_,rfl⟩
    .exact a3 f hf
theorem N9 {ks:Aa (Aa Ak)}(hl:vs.length=ks.length)(hv:∀ i v,vs[i]? = Ab v->isT prog w h0 (ks.getD i []) v)(hne:∀ k∈ks,k≠[])(h2:2<=vs.length):Cmps prog w h0 vs (fU _H.lexLt ks []):=by
 refine⟨tuples' (Hr "int" != Hr "tuple"),λA hu s hS=>⟨λQ E h=>?_,λi j C hi hj h=>?_⟩⟩
 .obtain⟨fs,a1,a2,a3⟩:=oJ (h:=s.heap) hl (λi v hv'=>by obtain⟨a,e,q⟩:=hv i v hv';exact⟨a,e,Y5 hS q⟩) hne
  refine kat_kind a1 (by lia) (λv hv'=>?_) (by decide) h
  obtain⟨n,t,rfl⟩:=a3 v hv';exact Aa8 rfl
 .have g:∀ k (hk:k<vs.length),∃ a,vs.getD k Cz=.ref a/\Ss (Is prog w) s.heap (ks.getD k []) a:=λk hk=>by
   obtain⟨a,e,q⟩:=hv k vs[k] (Am hk);exact⟨a,by rw[<- e];simp[Hb,hk],Y5 hS q⟩
  obtain⟨a,ea,oa,ia,na,ha,_,da,qa⟩:=g i hi;obtain⟨b,eb,ob,ib,nb,hb,_,db,qb⟩:=g j hj;unfold kas_ask;rw[ea,eb];refine kat_lt ha da hb db (BO qa qb ?_ h);have la:=qa.length;have lb:=qb.length;simp only[Bp] at la lb
  lia
theorem N8 {ks:Aa Ak}(hl:vs.length=ks.length)(hv:∀ i v,vs[i]? = Ab v->isI prog w (ks.getD i 0) v)(h2:2<=vs.length):Cmps prog w h0 vs (fU ltI ks 0):=by
 have hi:∀ v∈vs,∃ n t,v=Pg n t:=λv hm=>by
  obtain⟨i,hi,e⟩:=Cc.mp hm;obtain⟨t,q⟩:=uB (hv i v (by rw[Am hi,e]))
  exact⟨_,t,q⟩
 refine⟨oneType',λA hu s hS=>⟨λQ E h=>?_,λi j C hi hj h=>?_⟩⟩
 .obtain⟨v₁,v₂,rest,rfl⟩:∃ v₁ v₂ rest,vs=v₁::v₂::rest:=by
   match vs,h2 with
   |v₁::v₂::rest,_=>exact⟨v₁,v₂,rest,rfl⟩
  rw[keyKind_ints (intsAre_map _ hi)];exact An h
 .have g:∀ k (hk:k<vs.length),∃ t,vs.getD k Cz=.int (ks.getD k 0) t:=λk hk=>by
   obtain⟨t,q⟩:=uB (hv k vs[k] (Am hk));exact⟨t,by rw[<- q];simp[Hb,hk]⟩
  obtain⟨t,et⟩:=g i hi;obtain⟨u,eu⟩:=g j hj;unfold kas_ask;rw[et,eu];exact kat_lt_int h
end
section
variable {K:Type}{lt':K->K->Ar}
theorem YF {α:Type}{ks:Aa K}{vs:Aa α}{d:K}(hl:vs.length=ks.length){p:K × α}(h:p∈ks.zip vs):∃ i,vs[i]? = Ab p.2/\ks.getD i d=p.1:=by
 obtain⟨i,hi,e⟩:=Cc.mp h;have h1:i<ks.length:=by rw[TD] at hi;lia
 have h2:i<vs.length:=by lia
 rw[List.getElem_zip] at e;subst e;exact⟨i,Am h2,by simp[h1]⟩
end
structure Kind (prog:Bc)(w:Bx){K:Type}(is:K->Ac->Prop)(hash:K->Ak)(lt':K->K->Ar)(d:K)(Fit:K->Prop)(h0:Bs):Prop where
 ord:Ord lt'
 inj:∀ {k k':K} {v:Ac},is k v->is k' v->k=k'
 cmps:∀ {vs:Aa Ac} {ks:Aa K},vs.length=ks.length->(∀ i v,vs[i]? = Ab v->is (ks.getD i d) v)->(∀ k∈ks,Fit k)->2<=vs.length->Cmps prog w h0 vs (fU lt' ks d)
theorem CG (prog:Bc)(w:Bx)(h0:Bs):Kind prog w (isT prog w h0) (tupleKeyHash (Is prog w)) _H.lexLt [] (·≠[]) h0:=⟨xG,isT.inj,λh1 h2 h3 h4=>N9 h1 h2 h3 h4⟩
theorem CC (prog:Bc)(w:Bx)(h0:Bs):Kind prog w (isI prog w) (Is prog w).hash ltI 0 (λ_=>Ps) h0:=⟨qAB,λa b=>(Is prog w).inj _ _ _ a b,λh1 h2 _ h4=>N8 h1 h2 h4⟩
section
variable {prog:Bc}{w:Bx}{A:Bk}{E:Ac->Ag->Prop}{s:Ag}{K:Type}{is:K->Ac->Prop}{hash:K->Ak}{lt':K->K->Ar}{d:K}{Fit:K->Prop}{h0:Bs}{S:Af}{V:Aa Ac}{seen:Aa K}
open Classical in
def kOf (is:K->Ac->Prop)(d:K)(e:Ak × Ac):K:=if h:∃ k,is k e.2 then choose h else d
open Classical in
theorem D0 {e:Ak × Ac}(h:∃ k,is k e.2):is (kOf is d e) e.2:=by
 unfold kOf;rw[dif_pos h];exact choose_spec h
theorem ZE {Q:Ac->Ag->Prop}(kd:Kind prog w is hash lt' d Fit h0)(hh:A.handled=none)(hu:A.units+16<Ee)(hS:Sup h0 s.heap)(Z:SetK is hash S (xX w) V seen s.heap)(hf:∀ k∈seen,Fit k){U:Aa K}(hU:U.length<=1000)(hU1:∀ k∈seen,k∈U)
  (h:∀ h' tk D c (ps:Aa (K × Ac)),(∀ b o,s.heap.get? b=Ab o->h'.get? b=Ab o)->s.heap.objs.size<=D->h'.get? D=Ab (En "list" (ps.map (·.2)).toArray c)->ps.map (·.1)=srt lt' seen->(∀ p∈ps,is p.1 p.2/\p.2∈V)->ps.length<=1000->Q (.ref D) { s with heap:=h',toks:=tk }) :
  Ap (As prog w) A (call (.builtin "sorted") [.ref S]) Q E s:=by
 obtain⟨es,ep,t,ho,Z0,T,hl,hV⟩:=Z;have st:Still w S es ep t:=⟨T,hl⟩;have hn:es.size<=1000:=by
  have:=mQ es.toList U Z0.nd λe he=>by
   obtain⟨k',_,q⟩:=Z0.good e he;exact⟨k',hU1 k' ((Z0.mem k').mpr ⟨e,he,q⟩),q⟩
  rw[Bp] at this
  lia
 have op:=tZ w S ep es;have osz:=u7 w S ep es;have good:∀ e∈(qQ w S ep es).toList,is (kOf is d e) e.2/\e.2∈V:=λe he=>by
  have he':=op.mem_iff.mp he;obtain⟨k,_,q⟩:=Z0.good e he';exact⟨D0 ⟨k,q⟩,hV e he'⟩
 have nd0:(qQ w S ep es).toList.Pairwise λa b=>∀ k,is k a.2->¬ is k b.2:=(op.pairwise_iff λ{x y} h k hy hx=>h k hx hy).mpr Z0.nd;generalize hoe:(qQ w S ep es).toList=oe at *;have hoel:oe.length<=1000:=by rw[op.length_eq,Bp];exact hn
 have hks:∀ i v,(oe.map (·.2))[i]? = Ab v->is ((oe.map (kOf is d)).getD i d) v/\v∈V:=λi v hv=>by
  rw[Cg] at hv;cases hi:oe[i]? with
  |none=>rw[hi] at hv;cases hv
  |some e =>
   rw[hi] at hv;cases hv;have g:=good e (Bu hi);have:(oe.map (kOf is d)).getD i d=kOf is d e:=by rw[Eb,Cg,hi];rfl
   rw[this];exact g
 have nd:(oe.map (kOf is d)).Nodup:=by
  unfold ZB;rw[Df];refine Mn (λ{a b} ha hb h e=>?_) nd0;exact h _ (good a ha).1 (e▸(good b hb).1)
 have mem:∀ x,x∈oe.map (kOf is d)↔x∈seen:=λx=>by
  rw[Z0.mem,Bj];constructor
  .rintro⟨e,he,rfl⟩
   exact⟨e,op.mem_iff.mp he,(good e he).1⟩
  .rintro⟨e,he,q⟩
   exact⟨e,op.mem_iff.mpr he,kd.inj (good e (op.mem_iff.mpr he)).1 q⟩
 have hlen:(oe.map (·.2)).length=(oe.map (kOf is d)).length:=by simp
 refine Sb kind_sorted plain_sorted entry_sorted (args_sorted1 _) ?_;unfold Ik.«sorted»;refine Ad (m:=checkCount "sorted" 1 1 _) (An ?_);refine Ad (cT hh st ho (by lia) λh1 tk1 kp1 hlt=>?_)
 rw[hoe];refine Ad (Wc ?_ (by rw[Fg,Au];lia))
 have hD:(h1.push (En "list" (oe.map (·.2)).toArray 0)).get? h1.objs.size=Ab (En "list" (oe.map (·.2)).toArray 0):=AT _ rfl
 have n0:h0.get? h1.objs.size=none:=by
  cases q:h0.get? h1.objs.size with
  |none=>rfl
  |some o=>exact absurd (Ay (hS _ _ q)) (Nw.mpr (Et hlt))
 show Ap _ _ _ _ _ { s with heap:=h1.push (En "list" (oe.map (·.2)).toArray 0),toks:=tk1 }
 refine Ad (Fj (Ea slot_list_sort ⟨_,hD,rfl⟩ Zs (KE (h0:=h0) (is:=is) kd.ord kd.inj (d:=d) (vs:=oe.map (·.2)) hlen (λi v hv=>(hks i v hv).1) hD (by show A.units+2+8<Ee;lia) (by rw[Au];lia) (λh2=>kd.cmps hlen (λi v hv=>(hks i v hv).1) (λk hk=>hf k ((mem k).mp hk)) h2) (λb o e=>Ah _ (kp1 b o (hS b o e))) n0 λps pm nf=>⟨_,rfl,?_⟩) (args_list_sort _)))
 refine An ⟨_,rfl,?_⟩;have hz:(h1.push (En "list" (oe.map (·.2)).toArray 0)).objs.size=h1.objs.size+1:=size_push' ..
 have old:∀ b o,b≠h1.objs.size->(h1.push (En "list" (oe.map (·.2)).toArray 0)).get? b=Ab o->((((h1.push (En "list" (oe.map (·.2)).toArray 0)).update h1.objs.size (Es λ_=>#[])).push (En "tuple" (oe.map (·.2)).toArray 0)).push (En "list" #[] 0)).get? b=Ab o:=λb o hb e =>
  Ah _ (Ah _ ((Di _ _ (Fy hb)).trans e))
 obtain⟨e1,he1⟩:∃ e1,((h1.push (En "list" (oe.map (·.2)).toArray 0)).update h1.objs.size (Es λ_=>#[])).get? h1.objs.size=Ab (En "list" #[] e1):=⟨_,Mi hD (λ_=>#[])⟩
 have he6:=Mi (Ah (En "list" #[] 0) (Ah (En "tuple" (oe.map (·.2)).toArray 0) he1)) (λ_=>(ps.map (·.2)).toArray)
 have pk:(ps.map (·.1)).Perm (oe.map (kOf is d)):=by
  have:=pm.map (·.1)
  rwa [Su (by lia)] at this
 refine h _ tk1 h1.objs.size _ ps (λb o e=>?_) (Et hlt) he6 (DX kd.ord nf (pk.nodup_iff.mpr nd) λx=>by rw[pk.mem_iff,mem]) (λp hp=>?_) (by have:=pk.length_eq;rw[Au,Au] at this;lia)
 .have hb:b≠h1.objs.size:=λz=>by
   subst z;exact absurd (Ay e) (Nw.mpr (Et hlt))
  exact(Di _ _ (Fy hb)).trans (old b o hb (Ah _ (kp1 b o e)))
 .obtain⟨i,e1,e2⟩:=YF (d:=d) hlen (pm.mem_iff.mp hp)
  exact e2▸hks i _ e1
end
end _S
namespace _D
open PySem PySem.Spec PyProof.Rows _L
def yB:Aa D->Al (Aa (Aa Ak))
 |[]=>Ab []
 |.tup ys::r=>(xI ys).bind λk=>(yB r).map (k::·)
 |_::_=>none
def tpD (k:Aa Ak):D:=.tup (k.map D.int)
theorem cO:∀ {ds:Aa D} {ks:Aa (Aa Ak)},yB ds=Ab ks->ds=ks.map tpD
 |[],ks,h=>by cases h;rfl
 |d::r,ks,h=>by
  cases d with
  |tup ys =>
   obtain⟨k,h1,h2⟩:=Eg.mp (show (xI ys).bind (λk=>(yB r).map (k::·))=Ab ks from h)
   obtain⟨m,h3,rfl⟩:=Co.mp h2;rw[cO h3,uO h1];rfl
  |_=>cases h
theorem jK (ks:Aa (Aa Ak)):yB (ks.map tpD)=Ab ks:=by
 induction ks with
 |nil=>rfl
 |cons k ks ih =>
  show (xI (k.map D.int)).bind (λk=>(yB (ks.map tpD)).map (k::·))=_
  rw[dP,ih];rfl
def cI:D->Al (Aa D)
 |.lst xs=>Ab xs
 |.tup xs=>Ab xs
 |_=>none
theorem JL {K:Type}{lt':K->K->Ar}(O:_S.Ord lt')(ks:Aa K)(d:K):_S.srt lt' (_S.wX (λi=>ks.getD i d) ks.length)=_S.srt lt' ks:=
 _S.kJ O (_S.bK O _) (_S.bK O _) λx=>by
  rw[_S.uC O,_S.uC O,_S.jG];constructor
  .rintro⟨i,hi,rfl⟩
   simp[Hb,hi]
  .intro hx
   obtain⟨i,hi,e⟩:=Cc.mp hx;exact⟨i,hi,by simp[Hb,hi,e]⟩
section
variable {X:Cx}{e:Bw}{fa:DE}{p1 p2 pos1 pos2:Ey}
theorem ZW:Fu "sorted" = Ab (.builtin "sorted"):=by decide +kernel
theorem iF {prog:Bc}{w:Bx}:∀ {k:Aa Ak} {us:Aa Ac},qL (k.map V.int) us->ItemsAre (Is prog w) k us
 |[],us,h=>by cases h;exact .nil
 |i::k,us,h=>by
  cases h with
  |cons q t =>
   obtain⟨tk,rfl⟩:=q;exact .cons (dL _ _ _ _) (iF t)
theorem nD {pins:Aa (Af × Cj)}{σ : _L.St}{H P:Hp}{α : Aa Af}{S:Sto}{s:Ag}{d:D}{xs:Aa D}{v:V}{vv:Ac}(I:Inv X pins σ H s)(r:Rel X.K H P α S)(p:Rep X.K P α d v)(q:qJ v vv)(h:cI d=Ab xs) :
  ∃ a vs its,vv=.ref a/\qC X.K P α xs vs/\qL vs its/\(s.heap.IsList a its.toArray\/s.heap.IsTuple a its.toArray)/\xs.length=its.length:=by
 cases d with
 |lst ys =>
  cases h;obtain⟨a,vs,its,n,rfl,_,t,rv,e,l,_⟩:=tP I r p;exact⟨a,vs,its,q,t,rv,.inl ⟨_,e,rfl,n,rfl⟩,l⟩
 |tup ys =>
  cases h;obtain⟨a,vs,its,rfl,_,t,rv,⟨o,e,hc,n,hd⟩,l,_⟩:=vQ I r p;exact⟨a,vs,its,q,t,rv,.inr ⟨o,e,hc,n,hd⟩,l⟩
 |_=>cases h
end
end _D
section
namespace _D
open PySem PySem.Spec PyProof.Rows _L
mutual
def pyD:D->Al PyData
 |.non=>Ab .none
 |.bl b=>Ab (.bool b)
 |.int i=>Ab (.int i)
 |.str x=>Ab (.str x)
 |.tup xs=>(mS xs).map .tuple
 |.lst xs=>(mS xs).map .list
 |.dct0=>Ab (.dict [])
 |_=>none
def mS:Aa D->Al (Aa PyData)
 |[]=>Ab []
 |d::ds=>(pyD d).bind λx=>(mS ds).map (x::·)
end
end _D
end
namespace _S
open PySem PySem.W PyProof.Rows
section
variable {prog:Bc}{w:Bx}{A:Bk}{E:Ac->Ag->Prop}{s:Ag}{K:Type}{is:K->Ac->Prop}{hash:K->Ak}{lt':K->K->Ar}{d:K}{Fit:K->Prop}{h0:Bs}
theorem ZD {Q:Ac->Ag->Prop}(kd:Kind prog w is hash lt' d Fit h0)(hu:A.units+16<Ee)(hS:Sup h0 s.heap){l:Af}{vs:Aa Ac}(hl:s.heap.IsList l vs.toArray\/s.heap.IsTuple l vs.toArray)(ks:Aa K)(hlen:vs.length=ks.length)(hks:∀ i v,vs[i]? = Ab v->is (ks.getD i d) v)(hf:∀ k∈ks,Fit k)(hoel:vs.length<=100000)
  (h:∀ (h1 h':Bs) (tk:Ai) (D:Af) (c:Ai) (ps:Aa (K × Ac)),(∀ b o,s.heap.get? b=Ab o->h1.get? b=Ab o)->(∀ b o,h1.get? b=Ab o->h'.get? b=Ab o)->h1.objs.size<=D->h'.get? D=Ab (En "list" (ps.map (·.2)).toArray c)->ps.map (·.1)=xS lt' ks->(∀ p∈ps,is p.1 p.2/\p.2∈vs)->ps.length=ks.length->Q (.ref D) { s with heap:=h',toks:=tk }) :
  Ap (As prog w) A (call (.builtin "sorted") [.ref l]) Q E s:=by
 refine Sb kind_sorted plain_sorted entry_sorted (args_sorted1 _) ?_;unfold Ik.«sorted»;refine Ad (m:=checkCount "sorted" 1 1 _) (An ?_);have hcol:∀ {R:Aa Ac->Ag->Prop},(∀ h1:Bs,(∀ b o,s.heap.get? b=Ab o->h1.get? b=Ab o)->R vs { s with heap:=h1 }) -> Ap (As prog w) A.in1 (collect (.ref l)) R E s:=λ{R} hR=>by
  have e:vs.toArray.toList=vs:=by simp
  rcases hl with⟨o,ho,hc,n,hd⟩|⟨o,ho,hc,n,hd⟩
  .exact Yj l (.inl rfl) ho hc hd (λh' hk=>by rw[e];exact hR h' hk) (by rw[Bz,Fg];lia)
  .exact Yj l (.inr rfl) ho hc hd (λh' hk=>by rw[e];exact hR h' hk) (by rw[Bz,Fg];lia)
 refine Ad (hcol λh1 kp1=>?_);refine Ad (Wc ?_ (by rw[Fg];lia))
 have hD:(h1.push (En "list" vs.toArray 0)).get? h1.objs.size=Ab (En "list" vs.toArray 0):=AT _ rfl;have n0:h0.get? h1.objs.size=none:=by
  cases q:h0.get? h1.objs.size with
  |none=>rfl
  |some o=>exact absurd (Ay (kp1 _ _ (hS _ _ q))) (Du _)
 show Ap _ _ _ _ _ { s with heap:=h1.push (En "list" vs.toArray 0),toks:=s.toks }
 refine Ad (Fj (Ea slot_list_sort ⟨_,hD,rfl⟩ Zs (KE (h0:=h0) (is:=is) kd.ord kd.inj (d:=d) (vs:=vs) hlen hks hD (by show A.units+2+8<Ee;lia) hoel (λh2=>kd.cmps hlen hks hf h2) (λb o e=>Ah _ (kp1 b o (hS b o e))) n0 λps pm nf=>⟨_,rfl,?_⟩) (args_list_sort _)))
 refine An ⟨_,rfl,?_⟩;have hz:(h1.push (En "list" vs.toArray 0)).objs.size=h1.objs.size+1:=size_push' ..;have old:∀ b o,b≠h1.objs.size->(h1.push (En "list" vs.toArray 0)).get? b=Ab o->((((h1.push (En "list" vs.toArray 0)).update h1.objs.size (Es λ_=>#[])).push (En "tuple" vs.toArray 0)).push (En "list" #[] 0)).get? b=Ab o:=λb o hb e =>
  Ah _ (Ah _ ((Di _ _ (Fy hb)).trans e))
 obtain⟨e1,he1⟩:∃ e1,((h1.push (En "list" vs.toArray 0)).update h1.objs.size (Es λ_=>#[])).get? h1.objs.size=Ab (En "list" #[] e1):=⟨_,Mi hD (λ_=>#[])⟩;have he6:=Mi (Ah (En "list" #[] 0) (Ah (En "tuple" vs.toArray 0) he1)) (λ_=>(ps.map (·.2)).toArray)
 have pk:(ps.map (·.1)).Perm ks:=by
  have:=pm.map (·.1)
  rwa [Su (by lia)] at this
 refine h h1 _ s.toks h1.objs.size _ ps kp1 (λb o e=>?_) (Ax _) he6 (f9 kd.ord nf (fG kd.ord ks) (pk.trans (w4 ks).symm)) (λp hp=>?_) (by have:=pk.length_eq;rwa [Au] at this)
 .have hb:b≠h1.objs.size:=λz=>by
   subst z;exact absurd (Ay e) (Du _)
  exact(Di _ _ (Fy hb)).trans (old b o hb (Ah _ e))
 .obtain⟨i,e1,e2⟩:=YF (d:=d) hlen (pm.mem_iff.mp hp)
  exact⟨e2▸hks i _ e1,Bu e1⟩
end
end _S
namespace _D
open PySem PySem.Spec PyProof.Rows _L
def vL (xs:Aa D):Al (Aa D):=match xI xs with
 |some ns=>if ns.length<=100000 then Ab ((_S.xS _S.ltI ns).map D.int) else none
 |none=>match yB xs with
  |some ks=>if (decide (ks.length<=100000)&&ks.all λk=>!k.isEmpty) then Ab ((_S.xS _H.lexLt ks).map tpD) else none
  |none=>none
def JK (R:Aa D->Sto->Res D):DF:=λds S=>match ds with
 |[d]=>match (cI d).bind vL with
  |some ys=>R ys S
  |none=>.bad
 |_=>.bad
def u9:DF:=JK λys S=>.ok (.lst ys) S
section
variable {X:Cx}{pins:Aa (Af × Cj)}{σ : _L.St}{H P:Hp}{α : Aa Af}{S:Sto}{s:Ag}
inductive NewR (X:Cx)(pins:Aa (Af × Cj))(σ : _L.St)(H P:Hp)(α : Aa Af)(ys:Aa D)(u:Ac)(s':Ag):Prop
 |mk (D:Af) (vs:Aa V) (e:u=.ref D) (hn:H D=none) (I:Inv X pins σ (upd H D (.lst vs)) s') (rp:qC X.K P α ys vs):NewR X pins σ H P α ys u s'
theorem bG {K:Type}{is:K->Ac->Prop}{hash:K->Ak}{lt':K->K->Ar}{d:K}{Fit:K->Prop}(kd:_S.Kind X.prog X.w is hash lt' d Fit s.heap)(hu:X.A.units+64<Ee)(I:Inv X pins σ H s)(r:Rel X.K H P α S){a:Af}{its:Aa Ac}
  (ha:s.heap.IsList a its.toArray\/s.heap.IsTuple a its.toArray) (ks:Aa K) (hl:ks.length=its.length) (hk:∀ i v,its[i]? = Ab v->is (ks.getD i d) v) (hn:ks.length<=100000) (hf:∀ k∈ks,Fit k) (enc:K->D)
  (back:∀ k v,is k v->v∈its->∃ vv,qJ vv v/\Rep X.K P α (enc k) vv) {E:Ac->Ag->Prop} :
  Ap (As X.prog X.w) X.A (call (.builtin "sorted") [.ref a]) (NewR X pins σ H P α ((_S.xS lt' ks).map enc)) E s:=by
 refine _S.ZD kd li (λ_ _ e=>e) ha ks hl.symm hk hf li λh1 h2 tk2 D c ps kp1 kp2 hD hob hps hp hpl=>?_;have I1:Inv X pins σ H { s with heap:=h1,toks:=s.toks }:=I.kept kp1
 have vv:∀ (ps:Aa (K × Ac)),(∀ p∈ps,is p.1 p.2/\p.2∈its)->∃ vs,qL vs (ps.map (·.2))/\qC X.K P α ((ps.map (·.1)).map enc) vs:=by
  intro ps
  induction ps with
  |nil=>exact λ_=>⟨[],.nil,.nil⟩
  |cons p ps ih =>
   intro h;obtain⟨vs,a1,a2⟩:=ih λq hq=>h q (by simp[hq])
   obtain⟨v,b1,b2⟩:=back p.1 p.2 (h p (by simp)).1 (h p (by simp)).2
   exact⟨v::vs,.cons b1 a1,.cons b2 a2⟩
 obtain⟨vs,a1,a2⟩:=vv ps hp;rw[hps] at a2;have nd:([(D,HO.lst vs)].map (·.1)).Nodup:=by simp
 have I2:Inv X pins σ (jQ H [(D,HO.lst vs)]) { s with heap:=h2,toks:=tk2 }:=Inv.laidL (s:={ s with heap:=h1,toks:=s.toks }) (L:=[(D,HO.lst vs)]) (t':=tk2) I1 kp2 (λp hpm=>by
  have:p=(D,HO.lst vs):=by simpa using hpm
  subst this;exact hD) λp hpm=>by
  have:p=(D,HO.lst vs):=by simpa using hpm
  subst this;refine⟨?_,ps.map (·.2),c,a1,hob⟩
  have:=a1.length;rw[Au] at this;rw[this,Fg]
  lia
 exact⟨D,vs,rfl,I1.hok.fresh hD,I2,a2⟩
set_option tactic.hygienic true in
theorem ZC {E:Ac->Ag->Prop}(hu:X.A.units+64<Ee)(I:Inv X pins σ H s)(r:Rel X.K H P α S){a:Af}{xs ys:Aa D}{vs:Aa V}{its:Aa Ac}(t1:qC X.K P α xs vs)(rv1:qL vs its)(e1:s.heap.IsList a its.toArray\/s.heap.IsTuple a its.toArray)(l1:xs.length=its.length)(hs:vL xs=Ab ys) :
  Ap (As X.prog X.w) X.A (call (.builtin "sorted") [.ref a]) (NewR X pins σ H P α ys) E s:=by
 unfold vL at hs;cases hi:xI xs with
 |some ns =>
  rw[hi] at hs;dsimp only at hs
  split at hs
  .rename_i hlt
   cases hs;have:=uO hi;subst this;have:=vN t1;subst this;refine bG (d:=0) (_S.CC X.prog X.w s.heap) hu I r e1 ns (by simpa using l1) (λi u hu'=>?_) hlt (λ_ _=>trivial) D.int λk u hk _=>?_
   .have hi:Gw its ns:=by simpa using gD rv1
    obtain⟨t,rfl⟩:=wE hi i u hu';exact dL _ _ _ _
   .obtain⟨t,rfl⟩:=_S.uB hk
    exact⟨.int k,⟨t,rfl⟩,by simp only[Rep]⟩
  .cases hs
 |none =>
  rw[hi] at hs;dsimp only at hs;cases ht:yB xs with
  |none=>rw[ht] at hs;cases hs
  |some ks =>
   rw[ht] at hs;dsimp only at hs
   split at hs
   .rename_i hlt
    cases hs;rw[Av,Ce] at hlt;have:=cO ht;subst this;have at':∀ (i:Ai) (u:Ac),its[i]? = Ab u->∃ b,u=.ref b/\Ss (Is X.prog X.w) s.heap (ks.getD i []) b/\∃ vv,qJ vv u/\Rep X.K P α (tpD (ks.getD i [])) vv:=λi u hu'=>by
     have hii:i<its.length:=(Bd.mp hu').1;have hik:i<ks.length:=by rw[Au] at l1;lia
     obtain⟨v,p,q,_⟩:=uP t1 rv1 (j:=i) (by rw[Bz];exact hii)
     have hd:(ks.map tpD).getD i D.non=tpD (ks.getD i []):=by simp[Hb,hik]
     rw[hd] at p;have hu2:its.toArray[i]'(by rw[Bz];exact hii)=u:=by
      rw[Am hii] at hu';simpa using hu'
     rw[hu2] at q;obtain⟨b,ws,us,rfl,sq,t,rv,⟨o,ho,hcl,m,hd⟩,_,_⟩:=vQ I r (show Rep X.K P α (.tup ((ks.getD i []).map D.int)) v from p)
     cases (show u=Cw b from q)
     have:=vN t;subst this;exact⟨b,rfl,⟨o,us.toArray,m,ho,hcl,hd,by simpa using iF rv⟩,.ref b,rfl,p⟩
    refine bG (d:=[]) (_S.CG X.prog X.w s.heap) hu I r e1 ks (by simpa using l1) (λi u hu'=>?_) hlt.1 (λk hk=>?_) tpD λk u hk hm'=>?_
    .obtain⟨b,rfl,q,_⟩:=at' i u hu'
     exact⟨b,rfl,q⟩
    .have:=Bo.mp hlt.2 k hk
     intro z;subst z;cases this
    .obtain⟨i,hi',rfl⟩:=Cc.mp hm'
     obtain⟨b,eb,q,w,rw',pw⟩:=at' i _ (Am hi');have:k=ks.getD i []:=_S.isT.inj hk ⟨b,eb,q⟩;rw[this];exact⟨w,rw',pw⟩
   .cases hs
theorem AY (hu:X.A.units+64<Ee){vs:Aa V}{us:Aa Ac}{ds:Aa D}{Q:VK}{R:Aa D->Sto->Res D}(I:Inv X pins σ H s)(r:Rel X.K H P α S)(rv:qL vs us)(rp:qC X.K P α ds vs)(af:qP X P α (JK R ds S) Q)
  (k:∀ ys D vs',H D=none->qC X.K P α ys vs'->qP X P α (R ys S) Q->Q (.ref D) (upd H D (.lst vs'))):Ap (As X.prog X.w) X.A (call (.builtin "sorted") us) (EP X pins σ Q) X.xe s:=by
 match ds,af,rp with
 |[],af,_=>exact Ao af
 |_::_::_,af,_=>exact Ao af
 |[d],af,rp =>
  simp only[JK] at af;cases hq:(cI d).bind vL with
  |none=>rw[hq] at af;exact Ao af
  |some ys =>
   rw[hq] at af;obtain⟨xs,hd,hs⟩:=Eg.mp hq;obtain⟨v,u,rfl,rfl,p,q⟩:=yA rp rv;obtain⟨a,vs,its,rfl,t1,rv1,e1,l1⟩:=nD I r p q hd;refine thn (ZC hu I r t1 rv1 e1 l1 hs) λu' s3 ⟨D,vs',e,hn,I',rp'⟩=>?_;subst e;exact⟨.ref D,_,I',rfl,k ys D vs' hn rp' af⟩
theorem X0 (hu:X.A.units+64<Ee):xA X (.builtin "sorted") u9:=by
 intro pins σ H s P α S vs us ds Q I r rv rp af;exact AY hu I r rv rp af λys D vs' hn rp' af'=>wO r hn rp' af'
end
theorem QL {its:Aa Ac}{ns:Aa Ak}(h:Gw its ns):∃ xs:Aa (Ak × Qf),its=xs.map (λp=>Pg p.1 p.2)/\ns=xs.map (·.1):=by
 induction h with
 |nil=>exact⟨[],rfl,rfl⟩
 |cons n t h ih =>
  obtain⟨xs,rfl,rfl⟩:=ih;exact⟨(n,t)::xs,rfl,rfl⟩
theorem eI:∀ (ns:Aa Ak) (i:Ak),ns.foldl max i∈i::ns/\∀ a∈i::ns,a<=ns.foldl max i
 |[],i=>⟨by simp,λa ha=>by simp at ha;subst ha;exact Ky _⟩
 |n::ns,i=>by
  obtain⟨h1,h2⟩:=eI ns (max i n);refine⟨?_,λa ha=>?_⟩
  .rcases Az.mp h1 with h|h
   .rcases Int.le_total i n with z|z
    .rw[Hd,h,Int.max_eq_right z];simp
    .rw[Hd,h,Int.max_eq_left z];simp
   .exact Bl _ (Bl _ h)
  .have h3:=h2 (max i n) (by simp)
   rcases Az.mp ha with rfl|ha
   .exact Dt (Int.le_max_left _ _) h3
   .rcases Az.mp ha with rfl|ha
    .exact Dt (Int.le_max_right _ _) h3
    .exact h2 a (Bl _ ha)
theorem tI:∀ (ns:Aa Ak) (i:Ak),ns.foldl min i∈i::ns/\∀ a∈i::ns,ns.foldl min i<=a
 |[],i=>⟨by simp,λa ha=>by simp at ha;subst ha;exact Ky _⟩
 |n::ns,i=>by
  obtain⟨h1,h2⟩:=tI ns (min i n);refine⟨?_,λa ha=>?_⟩
  .rcases Az.mp h1 with h|h
   .rcases Int.le_total i n with z|z
    .rw[Hd,h,Int.min_eq_left z];simp
    .rw[Hd,h,Int.min_eq_right z];simp
   .exact Bl _ (Bl _ h)
  .have h3:=h2 (min i n) (by simp)
   rcases Az.mp ha with rfl|ha
   .exact Dt h3 (Int.min_le_left _ _)
   .rcases Az.mp ha with rfl|ha
    .exact Dt h3 (Int.min_le_right _ _)
    .exact h2 a (Bl _ ha)
theorem iU (xs:Aa (Ak × Qf))(i:Ai)(hi:i<xs.length):Us xs.toArray i=(xs.map (·.1))[i]'(by simpa using hi):=by
 simp[Us,hi]
section
variable {X:Cx}{cm:Ar}{k:Ai}
theorem JW (hr:RoomC cm k X.A):ZCall X (.builtin "sorted") u9:=⟨X0 hr.units⟩
end
end _D
namespace _L
open PySem PySem.Spec PyProof.Rows
variable {loose:Aa Aq}{mg mb:Aq->Al Ac}
def O6 (H:Hp):Prop:=∀ b,H b=none\/(∃ o xs,H b=Ab (.frz o (.lst xs)))\/H b=Ab (.tbl #[])
def Tb0 (K:Aj)(H:Hp):Prop:=∀ x∈w8,∀ c T,Ds K x=Ab (c,T)->H T=Ab (.tbl #[])
structure Tabs (K:Aj)(h:Bs):Prop where
 at':∀ x∈w8,∀ c T,Ds K x=Ab (c,T)->Uu h c T/\h.get? T=Ab (Lg #[]) /\ K.lookup T=none
 inj:∀ x∈w8,∀ y∈w8,∀ c d T,Ds K x=Ab (c,T)->Ds K y=Ab (d,T)->x=y
theorem U7 {P:Bc}{w:Bx}{K:Aj}{CX:CXT}{k:Ai}{fa a:Af}{fd:Fi}{x:Aq}{sp:Sp}{s₁:Ag}{vs:Aa Ac}{ns:Aa Ak}
  (KX:K.In s₁.heap) (hns:s₁.heap.Ns Cy mg) (hb:s₁.heap.Ns Pu mb) (hbb:∀ x:Aq,x ≠ "__name__" -> mb x=Fu x) (hlim:s₁.heap.NoLimit) (hg:s₁.gens=#[]) (hbm:TC mg s₁.heap) (tbs:Tabs K s₁.heap)
  (ha:s₁.heap.get? a=Ab { cls:=.type "list",data:=.seq vs.toArray }) (hi:Gw vs ns) (hl:ns.length<=sizeLine) (hr:Room k Rk)
  (F:∀ base:Bs,K.In base->base.Ns Cy mg->FnOk P w K mg base CX k fa fd [x] sp) (hbind:∀ (s:Ag) (u:Ac),Oe s fd ⟨[u],[]⟩ [(x,u)])
  (hsp:∀ H:Hp,Tb0 K H->SqX K H a (ns.map V.int)->sp [.ref a] H (λv _=>v=.bl true) λ_ _ _=>Fh)
  (hCX:∀ H e s',CX [] H s₁ (λ_ _ _=>Fh) e s'->Fh) :
  Ih (As P w) Rk (.call (.ref fa) ⟨[.ref a],[]⟩) (λr s'=>r=.ok (.ret (.bool true))/\OldK s₁.heap s'.heap/\s'.os=s₁.os/\Oc s'.gens) s₁:=by
 have rv:=YB hi;have lenV:=hi.length
 let isT:Af->Prop:=λb=>∃ x∈w8,∃ c,Ds K x=Ab (c,b)
 have tab:∀ b,isT b->s₁.heap.get? b=Ab (Lg #[]) /\ K.lookup b=none:=λb ⟨x,hx,c,h⟩=>(tbs.at' x hx c b h).2;have core:∀ H:Hp,O6 H->Tb0 K H->SqX K H a (ns.map V.int)->HOk P w H s₁.heap->(∀ b,H b≠none->b=a\/isT b)->(H a≠none->K.lookup a=none) ->
   Ih (As P w) Rk (.call (.ref fa) ⟨[.ref a],[]⟩) (λr s'=>r=.ok (.ret (.bool true))/\OldK s₁.heap s'.heap/\s'.os=s₁.os/\Oc s'.gens) s₁:=by
  intro H hO hT hS hok hA hK;have base_of:∀ {b:Af} {o:Cj},s₁.heap.get? b=Ab o->H b=none->(gC s₁.heap H).get? b=Ab o:=λe n=>VT e n;have noA:∀ {b:Af} {o:Cj},s₁.heap.get? b=Ab o->o.cls≠.none->(o.cls≠.type "list" \/ ∃ es ep,o.data=.dict es ep)->H b=none:=λ{b o} e c1 c2=>by
   cases q:H b with
   |none=>rfl
   |some u =>
    rcases hA b (by rw[q];simp) with e'|e'
    .subst e'
     rw[ha] at e;cases e;rcases c2 with z|⟨es,ep,d⟩
     .exact absurd rfl z
     .cases d
    .rw[(tab b e').1] at e;cases e
     exact absurd rfl c1
  have noD:∀ {b:Af} {o:Cj} {es:Aw DictEntry} {ep:Ai},s₁.heap.get? b=Ab o->o.data=.dict es ep->H b=none:=λ{b o es ep} e d=>by
   cases q:H b with
   |none=>rfl
   |some u =>
    rcases hA b (by rw[q];simp) with e'|e'
    .subst e'
     rw[ha] at e;cases e;cases d
    .rw[(tab b e').1] at e;cases e;cases d
  have nsK:∀ {b:Af} {m:Aq->Al Ac},s₁.heap.Ns b m->(gC s₁.heap H).Ns b m:=λ{b m} ⟨o,es,ep,e,d,r⟩=>⟨o,es,ep,base_of e (noD e d),d,r⟩;have hKb:K.In (gC s₁.heap H):=λb o e=>base_of (KX b o e) (by
   cases q:H b with
   |none=>rfl
   |some u =>
    rcases hA b (by rw[q];simp) with e'|e'
    .subst e'
     rw[hK (by rw[q];simp)] at e;cases e
    .rw[(tab b e').2] at e;cases e)
  have hM:Mod K mg (gC s₁.heap H):=by
   refine⟨hKb,nsK hns,⟨mb,nsK hb,hbb⟩,let ⟨mc,h1,h2⟩:=hlim;⟨mc,nsK h1,h2⟩,?_,λx hx c T h=>?_,tbs.inj⟩
   .obtain⟨bm,o,b1,b2,b3,b4,b5⟩:=hbm
    exact⟨bm,o,b1,b2,base_of b3 (noA b3 (by rw[b4];nofun) (.inl (by rw[b4];decide))),b4,b5⟩
   .obtain⟨o,vs,file,tf,flags,tg,inF,text,tt,e1,e2,r⟩:=(tbs.at' x hx c T h).1
    exact⟨o,vs,file,tf,flags,tg,inF,text,tt,base_of e1 (noA e1 (by rw[e2];nofun) (.inl (by rw[e2];decide))),e2,r⟩
  have e0:Env0 P w K mg (gC s₁.heap H) Rk [] s₁ H:=⟨rfl,hM,λb o e=>F7 e,Xi (XJ _ _),trivial,λb hb=>absurd (show b∈([]:Aa Af) from hb) (by simp),hok,.of_eq hg⟩
  refine Jh ((F _ hKb (nsK hns)).run Rk [] s₁ H ⟨[.ref a],[]⟩ [.ref a] [.ref a] _ _ hr e0 (hbind s₁ (.ref a)) (.cons rfl .nil) (hsp H hT hS)) λr s' h=>?_;cases r with
  |error e=>exact(hCX H e s' h).elim
  |ok fl =>
   cases fl with
   |next=>exact Ao h
   |brk=>exact Ao h
   |cont=>exact Ao h
   |ret u =>
    obtain⟨v,H',os,bare,un,hok',r',q⟩:=h;have q':v=.bl true:=q;subst q';obtain rfl:u=Ic true:=r';refine⟨rfl,⟨λb o e=>?_,λb o e=>un.there b o e (by simp)⟩,os,bare⟩
    cases q:H b with
    |none=>exact .inl (un.keep b o e q (by intro z;exact absurd (show b∈([]:Aa Af) from z) (by simp)) (by simp))
    |some u =>
     rcases hO b with z|⟨ob,xs,z⟩|z
     .rw[q] at z;cases z
     .have z2:=un.frzs b ob _ z
      obtain⟨e1,_⟩:=hok b _ z;obtain⟨e2,_⟩:=hok' b _ z2;rw[e] at e1;cases e1;exact .inl e2
     .obtain⟨more,z2⟩:=un.tbls b _ z
      have e1:s₁.heap.get? b=Ab (Lg #[]):=hok b _ z;have e2:s'.heap.get? b=Ab (Lg (#[] ++ more)):=hok' b _ z2;rw[e] at e1;cases e1;rcases hA b (by rw[q];simp) with e'|⟨x,hx,c,h⟩
      .subst e';rw[ha] at e;cases e
      .exact .inr (.inl ⟨((tbs.at' x hx c b h).1.tab e).isCodeTable,rfl,#[],more,rfl,e2⟩)
 have nT:¬ isT a:=λh=>by
  have z:=(tab a h).1;rw[ha] at z;cases z
 have tT:∀ x∈w8,∀ c T,Ds K x=Ab (c,T)->isT T:=λx hx c T h=>⟨x,hx,c,h⟩;have dec:∀ b,Jl (isT b):=λb=>Classical.propDecidable _;cases hk:K.lookup a with
 |some o =>
  have e:=KX a o hk;rw[ha] at e;cases e;refine core (λb=>if isT b then Ab (.tbl #[]) else none) (λb=>?_) (λx hx c T h=>Bf (tT x hx c T h)) (.inr ⟨vs,_,hk,by rw[Au];exact hl,rv⟩) (λb u z=>?_) (λb z=>?_) λz=>absurd (Bb nT) z
  .by_cases h:isT b
   .exact .inr (.inr (Bf h))
   .exact .inl (Bb h)
  .by_cases h:isT b
   .have z':=(Bf h).symm.trans z
    cases z';exact(tab b h).1
   .have z':=(Bb h).symm.trans z
    cases z'
  .by_cases h:isT b
   .exact .inr h
   .exact absurd (Bb h) z
 |none =>
  refine core (λb=>if b=a then Ab (.frz { cls:=.type "list",data:=.seq vs.toArray } (.lst (ns.map V.int))) else if isT b then Ab (.tbl #[]) else none) (λb=>?_) (λx hx c T h=>?_) (.inl (.inr ⟨{ cls:=.type "list",data:=.seq vs.toArray },Bf rfl⟩)) (λb u z=>?_) (λb z=>?_) λ_=>hk
  .by_cases hb:b=a
   .exact .inr (.inl ⟨_,_,Bf hb⟩)
   .by_cases h:isT b
    .exact .inr (.inr ((Bb hb).trans (Bf h)))
    .exact .inl ((Bb hb).trans (Bb h))
  .have h':=tT x hx c T h
   exact(Bb (λ(z:T=a)=>nT (z▸h'))).trans (Bf h')
  .by_cases hb:b=a
   .have z':=(Bf hb).symm.trans z
    cases z';subst hb;exact⟨ha,by rw[Au];exact hl,vs,_,rv,ha⟩
   .by_cases h:isT b
    .have z':=((Bb hb).trans (Bf h)).symm.trans z
     cases z';exact(tab b h).1
    .have z':=((Bb hb).trans (Bb h)).symm.trans z
     cases z'
  .by_cases hb:b=a
   .exact .inl hb
   .by_cases h:isT b
    .exact .inr h
    .exact absurd ((Bb hb).trans (Bb h)) z
def rO (q:Bc)(K:Aj):Ar:=w8.all λx=>match Ds K x with
 |none=>true
 |some (_,T)=>((recsOf q).find? λe=>e.name == x).isSome&&((K.lookup T).isNone&&w8.all λy=>match Ds K y with
  |none=>true
  |some (_,U)=>x == y||!decide (T=U))
theorem MM {q:Bc}{mean:ExcName->Al Ac}{h:Bs}{K:Aj}(T:Top q loose mean mg mb h)(X:K.In h)(c:rO q K=true):Tabs K h:=by
 unfold rO at c;have g:∀ x∈w8,∀ d U,Ds K x=Ab (d,U)->((recsOf q).find? λe=>e.name == x).isSome=true/\(K.lookup U).isNone=true/\(w8.all λy=>match Ds K y with
  |none=>true
  |some (_,V)=>x == y||!decide (U=V))=true:=λx hx d U e=>by
  have z:=Bo.mp c x hx;rw[e] at z;simpa only [Av] using z
 refine⟨λx hx d U e=>?_,λx hx y hy d d' U e1 e2=>?_⟩
 .obtain⟨z1,z2,_⟩:=g x hx d U e
  obtain⟨r,hr⟩:=Jt.mp z1;obtain⟨k1,k2⟩:=PySem.W.tab_of T X hr e;exact⟨k1,k2,by simpa using z2⟩
 .have z:=Bo.mp (g x hx d U e1).2.2 y hy
  rw[e2] at z;simpa using z
theorem MW {l:Zt}{n k:Ai}{q:Bc}{loose:Aa Aq}{XP:(Aq->Al Ac)->Bs->Prop}{YP:Bx->Bs->Prop}{d:DefRec}{K:Params->Aj}{CX:Bx->CXT}{sp:Bx->Sp}{x:Aq}
  (hn:l.most=Ab n) (hn2:n<=sizeLine) (hdf:d.params.defaults=[]) (hr:Room k Rk) (ht:∀ p,rO q (K p)=true)
  (hY:∀ (w:Bx) (h:Bs),YP w h->(K w.params).In h)
  (F:∀ (w:Bx) (mg:Aq->Al Ac) (fa:Af) (h:Bs),(K w.params).In h->h.Ns Cy mg->mg d.name=Ab (.ref fa) ->
   ∃ fd:Fi,(∀ (s:Ag) (u:Ac),Oe s fd ⟨[u],[]⟩ [(x,u)]) /\
    ∀ base:Bs,(K w.params).In base->base.Ns Cy mg->FnOk l.prog w (K w.params) mg base (CX w) k fa fd [x] (sp w))
  (hsp:∀ (w:Bx) (H:Hp) (a:Af) (ns:Aa Ak),ns.length<=n->Tb0 (K w.params) H->SqX (K w.params) H a (ns.map V.int)->sp w [.ref a] H (λv _=>v=.bl true) λ_ _ _=>Fh)
  (hCX:∀ (w:Bx) (H:Hp) (s:Ag) (e:Ac) (s':Ag),CX w [] H s (λ_ _ _=>Fh) e s'->Fh) :
  Aa9 q loose XP YP l.row.toRowW d [] (λf vs=>Zz f vs):=by
 refine _A.attach_call hn hdf λw s₀ s₁ mg mb fa o pm cd doc a vs ns G Y ho hd hcd hmg hobj hints hlen hg=>?_;have KX:=hY w _ Y;obtain⟨fd,hb,hF⟩:=F w mg fa _ KX G.T.g hmg;exact U7 KX G.T.g G.T.b G.T.builtins G.T.nolimit hg (let ⟨bm,ob,b1,b2,b3,b4,b5,b6⟩:=G.T.bmain;⟨bm,ob,b1,b2,b3,b4,b5,b6⟩) (MM G.T KX (ht _)) hobj hints (Dm hlen hn2) hr hF hb (λH hT hS=>hsp w H a ns hlen hT hS) λH e s'=>hCX w H s₁ e s'
end _L
namespace _D
open PySem PySem.Spec PyProof.Rows _L
variable {K:Aj}{mg:Aq->Al Ac}
theorem EJ {h:Bs}(X:K.In h)(G:h.Ns Cy mg){x:Aq}{st:Fq}{ps:Aa Aq}{f:Af}{oc:Ac}{od an:Al Af}{osl:Aw (Al Ac)}{kV doc pm cdv ct:Ac}
  (a:Fd K Cy x=Ab (Ab (.ref f)))
  (l:K.lookup f=Ab ⟨oc,od,.func (Gi x x (wW st) (zJ st) (qF st) .none kV doc pm an cdv ct),osl⟩) (c:Ld K cdv x=true) (k:Gj K (.ref f)=true)
  (hb:∀ (kV doc pm:Ac) (an:Al Af) (cdv ct:Ac) (us:Aa Ac),us.length=ps.length->Tj (Gi x x (wW st) (zJ st) (qF st) .none kV doc pm an cdv ct) ⟨us,[]⟩=pure (ps.zip us)):Src K mg x st ps:=
 have F:=LL (st:=st) l c k
 ⟨f,_,Wd X G a,F,F.binds hb⟩
def rN (K:Aj)(C:Af):Ar:=
 decide (Nh K (.ref C) "__getattribute__" = Ab (Ab (.builtin "BaseException.__getattribute__")))&&decide (Nh K (.ref C) "__getattr__" = Ab none)
 && decide (Nh K (.ref C) "__class__" = Ab (Ab (.builtin "object.__class__")))&&decide (Vp K C (.type "object")=Ab true)&&decide (Vp K C (.type "BaseException")=Ab true)
 && (PySem.W.clsIn K C).isSome&&decide (Lc K (.ref C) (.type "ValueError")=Ab true)
def YU (K:Aj):Ar:=
 decide (Xq K (.builtin "object.__class__") "__get__" = Ab (Ab (.builtin "getset_descriptor.__get__")))&&decide (Zk K (.builtin "object.__class__")=Ab true)
def N5 (K:Aj)(cl:Aa Af):Ar:=cl.all λC=>cl.all λB=>decide (Lc K (.ref C) (.ref B)=Ab (C == B))
theorem N7 {cl:Aa Af}(h1:cl.all (rN K)=true)(h2:YU K=true)(h3:N5 K cl=true):ClsK K cl:=by
 have g:=h2;unfold YU at g;simp only[Av,Ce] at g;have k1:∀ C∈cl,rN K C=true:=Bo.mp h1;refine⟨λC hC=>?_,λC hC B hB=>?_,λC hC=>?_⟩
 .have e:=k1 C hC
  unfold rN at e;simp only[Av,Ce] at e;obtain⟨⟨⟨⟨⟨⟨e1,e2⟩,e3⟩,e4⟩,e5⟩,e6⟩,e7⟩:=e;exact⟨e1,e2,e3,g.1,g.2,e4,e5,e6⟩
 .have e:=Bo.mp (Bo.mp h3 C hC) B hB
  exact Ca e
 .have e:=k1 C hC
  unfold rN at e;simp only[Av,Ce] at e;exact e.2
def OJ (K:Aj)(cs:Aa Ac)(A:Af):Ar:=cs.all λv=>decide (wP K v (.ref A)=Ab true)
def OH (K:Aj)(cs:Aa Af)(A:Af):Ar:=cs.all λC=>m9 K C A
def OI (K:Aj)(cs:Aa Af):Ar:=cs.all λC=>Gj K (.ref C)
def r9 (K:Aj):Sp:=λvs H Q E=>Tb0 K H/\∃ a ns,vs=[.ref a]/\SqX K H a (AaF V.int ns)/\ns.length<=63/\∀ H',Q (.bl true) H'
theorem cG {P:Hp}{α:Aa Af}:∀ ns:Aa Ak,qC K P α (ns.map D.int) (ns.map V.int)
 |[]=>.nil
 |n::ns=>.cons (by simp only[Rep]) (cG ns)
def noT (H:Hp):Hp:=λb=>match H b with
 |some (.tbl _)=>none
 |u=>u
theorem BK {P:Bc}{w:Bx}{fa:Af}{st:Fq}{k:Ai}{x:Aq}(hs:Src K mg "law" st [x])(hfa:mg "law" = Ab (.ref fa))
  (hbd:∀ (kV doc pm:Ac) (an:Al Af) (cdv ct:Ac) (s:Ag) (v:Ac),Oe s (Gi "law" "law" (wW st) (zJ st) (qF st) .none kV doc pm an cdv ct) ⟨[v],[]⟩ [(x,v)])
  (hall:∀ base:Bs,∃ F,rD P w K mg base true k "law" [x] F/\∀ ns:Aa Ak,ns.length<=63->∃ S,F [.lst (ns.map D.int)] [] = .ok (.bl true) S) :
  ∃ fd:Fi,(∀ (s:Ag) (v:Ac),Oe s fd ⟨[v],[]⟩ [(x,v)])/\∀ base:Bs,K.In base->base.Ns Cy mg->FnOk P w K mg base (CXd P w) k fa fd [x] (r9 K):=by
 obtain⟨f,fd,hm,F,hb⟩:=hs;cases hfa.symm.trans hm;refine⟨fd,?_,λbase _ _=>?_⟩
 .obtain⟨oc,od,kV,doc,pm,an,cdv,ct,osl,rfl,_,_⟩:=F.ex
  exact hbd kV doc pm an cdv ct
 .obtain⟨G,⟨f',fd',hm',_,hb',hl,X⟩,hG⟩:=hall base
  cases hm.symm.trans hm';cases hl.one (tO F);refine(X.imp λvs H Q E h=>?_).ok;obtain⟨tb,a,ns,rfl,hS,hl,k⟩:=h;obtain⟨S,e⟩:=hG ns hl;have keep:∀ (b:Af) (u:HO),H b=Ab u->(∀ ps,u≠.tbl ps)->noT H b=Ab u:=λb u q h=>by
   unfold noT;rw[q];cases u with
   |tbl ps=>exact absurd rfl (h ps)
   |_=>rfl
  have hS':SqX K (noT H) a (AaF V.int ns):=by
   rcases hS with (h|⟨o,h⟩)|h
   .exact .inl (.inl (keep _ _ h λ_ z=>by cases z))
   .exact .inl (.inr ⟨o,keep _ _ h λ_ z=>by cases z⟩)
   .exact .inr h
  have sub:qD (noT H) H:=λb u q=>by
   unfold noT at q;cases z:H b with
   |none=>rw[z] at q;cases q
   |some v =>
    rw[z] at q;cases v with
    |tbl ps=>cases q
    |_=>exact q
  refine⟨rfl,noT H,[],[.lst (ns.map D.int)],[],⟨λx hx c T h=>⟨#[],tb x hx c T h,by unfold noT;rw[tb x hx c T h],by simp,trivial,λpos cv z=>by cases z⟩,sub,rfl,.nil,by simp,by simp,by simp⟩,.cons (lT hS' (cG ns)) .nil,?_⟩
  rw[e];intro v H' P' α' _ _ _ rv;simp only[Rep] at rv;subst rv;exact k H'
theorem IF {l:Zt}{q:Bc}{loose:Aa Aq}{XP:(Aq->Al Ac)->Bs->Prop}{YP:Bx->Bs->Prop}{d:DefRec}{K:Params->Aj}{k:Ai}{x:Aq}(hn:l.most=Ab 63)(hdf:d.params.defaults=[])(hr:Room k Rk)(ht:∀ p,rO q (K p)=true)
  (hY:∀ (w:Bx) (h:Bs),YP w h->(K w.params).In h)
  (F:∀ (w:Bx) (mg:Aq->Al Ac) (fa:Af) (h:Bs),(K w.params).In h->h.Ns Cy mg->mg d.name=Ab (.ref fa) ->
   ∃ fd:Fi,(∀ (s:Ag) (u:Ac),Oe s fd ⟨[u],[]⟩ [(x,u)])/\∀ base:Bs,(K w.params).In base->base.Ns Cy mg->FnOk l.prog w (K w.params) mg base (CXd l.prog w) k fa fd [x] (r9 (K w.params))) :
  Aa9 q loose XP YP l.row.toRowW d [] (λf vs=>Zz f vs):=
 _L.MW (n:=63) (k:=k) (x:=x) (CX:=λw=>CXd l.prog w) (sp:=λw=>r9 (K w.params)) hn (by decide) hdf hr ht hY F (λ_ _ a ns hl hT hS=>⟨hT,a,ns,rfl,hS,hl,λ_=>rfl⟩) λw H s e s' h=>by
  obtain⟨_,_,_,_,_,_,_,_,_,_,_,_,z⟩:=h;exact z
end _D
namespace _D
open PySem
variable {us:Aa Ac}
theorem us0 (h:us.length=0):us=[]:=Po h
theorem usS {n:Ai}(h:us.length=n+1):∃ a vs,us=a::vs/\vs.length=n:=by
 cases us with
 |nil=>exact absurd h (by simp)
 |cons a vs=>exact⟨a,vs,rfl,by simpa using h⟩
theorem us1 (h:us.length=1):∃ a,us=[a]:=by
 obtain⟨a,vs,rfl,h'⟩:=usS h;exact⟨a,by rw[us0 h']⟩
theorem us2 (h:us.length=2):∃ a b,us=[a,b]:=by
 obtain⟨a,vs,rfl,h'⟩:=usS h;obtain⟨b,rfl⟩:=us1 h';exact⟨a,b,rfl⟩
theorem us3 (h:us.length=3):∃ a b c,us=[a,b,c]:=by
 obtain⟨a,vs,rfl,h'⟩:=usS h;obtain⟨b,c,rfl⟩:=us2 h';exact⟨a,b,c,rfl⟩
theorem us4 (h:us.length=4):∃ a b c d,us=[a,b,c,d]:=by
 obtain⟨a,vs,rfl,h'⟩:=usS h;obtain⟨b,c,d,rfl⟩:=us3 h';exact⟨a,b,c,d,rfl⟩
end _D
namespace _D
open PySem PySem.Spec PyProof.Rows _L
variable {vs:Aa (Key × V)}{us:Aa Ac}{caps:Aa D}{E Q:Ac->Ag->Prop}{c':Af}{f:Af->Aa V->Res D}{j:Ai}{oc:Cj}{sc:Ei}{H':Hp}{env:qB}
theorem G6 (F:DF):∃ G:DF,G=F:=⟨F,rfl⟩
def sh (F:DF):DF:=So (G6 F)
theorem zE (F:DF):sh F=F:=Oo (G6 F)
def isV:Al Hn->Ar
 |some .local => true
 |some .cell=>true
 |some .free=>true
 |_=>false
def isL:Al Hn->Ar
 |some .local => true
 |some .cell=>true
 |_=>false
def isG:Al Hn->Ar
 |some .globalImplicit=>true
 |_=>false
def okN (x:Aq):Ar:=!(x == ("__debug__" : Aq))&&(!(x == ("__classdict__" : Aq))&&!decide (x = "__name__"))
def okG (X:Cx)(x:Aq):Ar:=isG (X.env.kindOf x)&&okN x
def okB (v:Ac)(x:Aq):Ar:=decide (Fu x=Ab v)
def jP (sc:Ei):Aa Aq:=sc.names.filterMap λy=>if isL (Ab y.2) then Ab y.1 else none
def yM (sc:Ei):Aa Aq:=(sc.names.filterMap λy=>if isL (Ab y.2)&&!(y.1 == (".0" : Aq)) then Ab y.1 else none)++sc.names.filterMap λy=>if y.2 == .free then Ab y.1 else none
def Ck (b:Ar):Prop:=b=true
theorem ck {b:Ar}(h:b=true:=by kernel_rfl):Ck b:=h
structure DfS (F:DF)(P:Bc)(w:Bx)(K:Aj)(mg:Aq->Al Ac)(base:Bs)(cm:Ar)(k:Ai)(x:Aq)(n:Ai):Prop where
 get:Def P w K mg base cm k x n F
def okT (X:Cx)(m:Ai)(x:Aq):Ar:=decide (X.N[m]? = Ab x)&&(isL (X.env.scope.names.lookup x)&&(decide X.N.Nodup&&(X.fn x||decide (X.env.scope.names.lookup x=Ab .local))))
def okP (X:Cx)(m:Ai)(x:Aq):Ar:=decide (X.N[m]? = Ab x)&&decide (X.env.scope.names.lookup x=Ab .local)
def sR (scX:Ei)(NX:Aa Aq)(scope:Ei)(cap:Aa (Al Ai)):Ar:=
 decide (scope.kind=.function)&&(decide (∀ y∈scope.names,y.2=.local -> scope.names.lookup y.1=Ab .local)&&(decide (∀ y∈scope.names,y.2=.cell->scope.names.lookup y.1=Ab .cell)&&(decide (∀ y∈scope.names,y.2=.free->scX.names.lookup y.1=Ab .cell\/scX.names.lookup y.1=Ab .free)
 && (decide (∀ y∈scope.names,y.2=.free->scope.names.lookup y.1=Ab .free)&&(decide (cap.length=(yM scope).length)&&(((cap.zip (yM scope)).all λp=>match p.1 with|none=>true|some i=>NX[i]? == Ab p.2&&scope.names.lookup p.2 == Ab .free)&&decide (yM scope).Nodup))))))
def fnB (N P:Aa Aq)(sc:Ei):Ar:=
 decide (sc.kind=.function)&&(decide (sc.isCoroutine=false)&&(decide (sc.isGenerator=false)&&(decide N.Nodup&&(decide (N.take P.length=P)&&(decide (∀ x∈P,sc.names.lookup x=Ab .local \/ sc.names.lookup x=Ab .cell)&&decide (∀ y∈sc.names,y.2≠.free))))))
theorem rQ {scX:Ei}{NX:Aa Aq}{scope:Ei}{cap:Aa (Al Ai)}(h:sR scX NX scope cap=true):CompSc scX NX scope (yM scope) cap:=by
 simp only[sR,Av,Ce] at h;obtain⟨a,b,c,d,e,f,g,k⟩:=h;exact⟨a,b,c,d,e,f,g,k⟩
theorem eJ {N P:Aa Aq}(h:fnB N P sc=true):FnScope N P sc:=by
 simp only[fnB,Av,Ce] at h;obtain⟨a,b,c,d,e,f,g⟩:=h;exact⟨a,b,c,d,e,f,g⟩
section
variable {X:Cx}{a b c e o elt tg iter:Bw}{ifs rest:Aa Bw}{f g:DS}{fa:DE}{f2:DI2}{dg:DG}{t:DT}{kk:DK}{gens grest:Aa Dx}{scope:Ei}{cap:Aa (Al Ai)}{mm:Ar}{l q:Ai}{y z:Aq}{G2':G2}{es:Aa Bw}{fA:DA}{x:Aq}{p pos:Ey}{cm:Ar}{k n m:Ai}{F:DF}
theorem iB (h:isV (sc.names.lookup x)=true):Vis sc x:=by
 unfold Vis
 revert h
 cases sc.names.lookup x with
 |none=>intro h;cases h
 |some y=>cases y <;> intro h <;> first|cases h;done|exact .inl rfl|exact .inr (.inl rfl)|exact .inr (.inr rfl)
theorem B6 (h:isL (sc.names.lookup x)=true):_L.Loc sc x:=by
 unfold _L.Loc
 revert h
 cases sc.names.lookup x with
 |none=>intro h;cases h
 |some y=>cases y <;> intro h <;> first|cases h;done|exact .inl rfl|exact .inr rfl
theorem kH (h:okN x=true):(x == ("__debug__" : Aq))=false/\(x == ("__classdict__" : Aq))=false/\x ≠ "__name__":=by
 unfold okN at h;rw[Av,Av] at h;exact⟨by simpa using h.1,by simpa using h.2.1,by simpa using h.2.2⟩
theorem v3 (h:okG X x=true):Gl X x/\(x == ("__debug__" : Aq))=false/\x ≠ "__name__":=by
 have h:=(Av _ _).mp h;refine⟨?_,(kH h.2).1,(kH h.2).2.2⟩;have z:=h.1;unfold Gl
 revert z
 cases X.env.kindOf x with
 |none=>intro z;cases z
 |some y=>cases y <;> intro z <;> first|cases z;done|rfl
theorem hX (h:okT X m x=true):X.N[m]? = Ab x/\_L.Loc X.env.scope x/\X.N.Nodup/\(X.fn x=true\/X.env.scope.names.lookup x=Ab .local):=by
 simp only[okT,Av,Ce,Md] at h;exact⟨h.1,B6 h.2.1,h.2.2⟩
theorem tX (h:okP X m x=true):X.N[m]? = Ab x/\X.env.scope.names.lookup x=Ab .local:=by
 simp only[okP,Av,Ce] at h;exact h
theorem C6 (h:Ck (okG X x)):Gl X x:=(v3 h).1
theorem aV (h:Ck (decide (X.N[m]? = Ab x)&&(isV (X.env.scope.names.lookup x)&&okN x))):QE X (.Name x pos) (q9 m):=by
 unfold Ck at h;simp only[Av,Ce] at h;exact RV m h.1 (iB h.2.1) (kH h.2.2).1 (kH h.2.2).2.1
theorem aBt {nm:Em}(h:Ck (okG X x))(hm:X.mg x=none)(hb:Ck (okB (.type nm) x)):QE X (.Name x pos) (dC (.ty nm)):=
 have h:=v3 h
 FM h.1 hm (Ca hb) h.2.2 h.2.1
theorem aGi {v:Ak}(h:Ck (okG X x))(hm:∃ t,X.mg x=Ab (.int v t)):QE X (.Name x pos) (dC (.int v)):=
 have h:=v3 h
 FN h.1 hm h.2.1
abbrev St1 (X:Cx)(e:Bw)(es:Aa Bw)(pos:Ey):Prop:=Bm (e::es) X.env=(false,eval e X.env)::Bm es X.env/\(Ft pos (Bm es X.env)).any (·.1)=false
theorem aN (G:DfS F X.prog X.w X.K X.mg X.base cm k x n)(hr:RoomC cm k X.A)(hF:Fn1 X)(h:Ck (okG X x))(ha:QA X (e::es) fA)(s:St1 X e es pos):QE X (.Call (.Name x p) (e::es) [] pos) (qI n F fA):=
 have h:=v3 h
 qcN G.1 hr hF h.1 ha h.2.1 s.1 s.2
theorem aO (G:DfS F X.prog X.w X.K X.mg X.base cm k x n)(hr:RoomC cm k X.A)(h:Ck (okG X x))(ha:QA X (e::es) fA)(s:St1 X e es pos):QE X (.Call (.Name x p) (e::es) [] pos) (qI n (okO F) fA):=
 have h:=v3 h
 qcO G.1 hr h.1 ha h.2.1 s.1 s.2
theorem aB {id:Em}(hc:ZCall X (.builtin id) F)(h:Ck (okG X x))(hm:X.mg x=none)(hb:Ck (okB (.builtin id) x))(ha:QA X (e::es) fA)(s:St1 X e es pos):QE X (.Call (.Name x p) (e::es) [] pos) (qS F fA):=
 have h:=v3 h
 US hc h.1 hm (Ca hb) ha h.2.2 h.2.1 s.1 s.2
theorem aT {T:Em}(hc:ZCall X (.type T) F)(h:Ck (okG X x))(hm:X.mg x=none)(hb:Ck (okB (.type T) x))(ha:QA X (e::es) fA)(s:St1 X e es pos):QE X (.Call (.Name x p) (e::es) [] pos) (qS F fA):=
 have h:=v3 h
 WX hc h.1 hm (Ca hb) ha h.2.2 h.2.1 s.1 s.2
theorem aC (S:Ck (sR X.env.scope X.N scope cap))(hc:X.calm=true)(hi:QI2 X tg iter f2)(hg:∀ cl C ex s₀ H₀,QG (qV X (yM scope) scope cl C ex s₀ H₀) tg dg)(ht:∀ cl C ex s₀ H₀,QTs (qV X (yM scope) scope cl C ex s₀ H₀) ifs t)
  (has:∀ g',(⟨tg,iter,ifs,0⟩::grest:Aa Dx)[0+1]? = Ab g'->g'.is_async=0)
  (he:∀ cl C ex s₀ H₀,QK accL (qV X (yM scope) scope cl C ex s₀ H₀) (λacc=>zS false elt (⟨tg,iter,ifs,0⟩::grest) scope pos 0 acc (qV X (yM scope) scope cl C ex s₀ H₀).env) kk) (hs:∀ x,Ep iter X.env x=pure x) :
  QE X (.ListComp elt (⟨tg,iter,ifs,0⟩::grest) scope pos) (zK mm cap f2 dg t kk):=UU hc (rQ S) hi hg ht has he hs
theorem aCs {py spos:Ey}(hsw:Np (.ListComp elt (⟨tg,iter,ifs,0⟩::grest) scope pos) (Ab (.Name y py)) spos.line X.env=pure true)(S:Ck (sR X.env.scope X.N scope cap))(hN:Ck (okT X m y))(hc:X.calm=true)(hi:QI2 X tg iter f2)(hg:∀ cl C ex s₀ H₀,QG (qV X (yM scope) scope cl C ex s₀ H₀) tg dg)(ht:∀ cl C ex s₀ H₀,QTs (qV X (yM scope) scope cl C ex s₀ H₀) ifs t)
  (has:∀ g',(⟨tg,iter,ifs,0⟩::grest:Aa Dx)[0+1]? = Ab g'->g'.is_async=0)
  (he:∀ cl C ex s₀ H₀,QK accL (qV X (yM scope) scope cl C ex s₀ H₀) (λacc=>zS false elt (⟨tg,iter,ifs,0⟩::grest) scope pos 0 acc (qV X (yM scope) scope cl C ex s₀ H₀).env) kk) (hs:∀ x,Ep iter X.env x=pure x) :
  QS X (.Assign [.Name y py] (.ListComp elt (⟨tg,iter,ifs,0⟩::grest) scope pos) spos) (zP (zK mm cap f2 dg t kk) (gNm m)):=
 have h:=hX hN
 UZ hc h.2.2.1 (rQ S) hi hg ht has he h.1 h.2.1 h.2.2.2 hsw hs
theorem aNm (h:Ck (okT X m x)):QG X (.Name x pos) (gNm m):=
 have h:=hX h
 FQ h.2.2.1 h.1 h.2.1 h.2.2.2
theorem aSt {pos':Ey}(hs:Np e (Ab (.Name x pos')) pos.line X.env=pure false)(he:QE X e fa)(h:Ck (okT X m x)):QS X (.Assign [.Name x pos'] e pos) (zP fa (gNm m)):=
 have h:=hX h
 E8 h.2.2.1 he h.1 h.2.1 hs h.2.2.2
theorem aP2 {px py pt:Ey} {kt k2 pt2} (h:Ck (decide X.N.Nodup&&(okP X m x&&(okP X l y&&!decide (m=l))))) (hc:X.calm=true) (ha:QA X [a,b] fA)
  (hw:Lp [.Tuple [.Name x px,.Name y py] kt pt] (.Tuple [a,b] k2 pt2) X.env=pure (Ab [x,y])) (hs:Lq [.Tuple [.Name x px,.Name y py] kt pt] (.Tuple [a,b] k2 pt2) pos.line X.env=pure false) :
  QS X (.Assign [.Tuple [.Name x px,.Name y py] kt pt] (.Tuple [a,b] k2 pt2) pos) (lY m l fA):=by
 unfold Ck at h;simp only[Av,Ce,Ku,Ia] at h;exact E6 hc h.1 ha (tX h.2.1).1 (tX h.2.2.1).1 h.2.2.2 (tX h.2.1).2 (tX h.2.2.1).2 hw hs
theorem aRs {C:Af}{np cpos:Ey}(h:Ck (okG X x))(hc:X.calm=true)(hF:Fn1 X)(hm:∃ Ae,X.mg x=Ab (.ref C)/\m9 X.K C Ae=true)(ha:QA X (e::rest) fA)(s:St1 X e rest cpos) :
  QS X (.Raise (Ab (.Call (.Name x np) (e::rest) [] cpos)) none pos) (bF (.ref C) fA):=
 have h:=v3 h
 let ⟨_,hm,hx⟩:=hm
 J0 hc hF h.1 hm hx ha h.2.1 s.1 s.2
end
structure TxS (K:Aj)(mg:Aq->Al Ac)(tp:Ai->Fq)(tab:Aa (Aq × Ai × Aa Aq))(bl:Aa Aq)(clt plt:Aa (Aq × Af))(cs:Aa Ac)(exl:Aa Af)(cst:Aa (Aq × Ak)):Prop where
 src:∀ (j:Ai) {x:Aq} {i:Ai} {ps:Aa Aq},tab[j]? = Ab (x,i,ps)->Src K mg x (tp i) ps
 nb:∀ {x:Aq},Ck (bl.contains x)->mg x=none
 cl:∀ {x:Aq} {C:Af},clt.lookup x=Ab C->mg x=Ab (.ref C)/\Gj K (.ref C)=true
 rz:∀ {x:Aq} {C:Af},plt.lookup x=Ab C->∃ Ae,mg x=Ab (.ref C)/\m9 K C Ae=true
 ct:∃ C0,mg "FarError" = Ab (.ref C0)/\∀ c∈cs,wP K c (.ref C0)=Ab true
 cls:ClsK K exl
 gi:∀ {x:Aq} {v:Ak},cst.lookup x=Ab v->∃ t,mg x=Ab (.int v t)
section
variable {K:Aj}{mg:Aq->Al Ac}{cm:Ar}{tp:Ai->Fq}{tab:Aa (Aq × Ai × Aa Aq)}{bl:Aa Aq}{clt plt:Aa (Aq × Af)}{cs:Aa Ac}{exl:Aa Af}{cst:Aa (Aq × Ak)}{x:Aq}{i m:Ai}{ps:Aa Aq}{F:DF}{g:DS}
theorem dq (P:Bc)(w:Bx)(base:Bs)(k j:Ai)(T:TxS K mg tp tab bl clt plt cs exl cst)(hj:tab[j]? = Ab (x,i,ps))(h:Ck (fnB (jP (qF (tp i))) ps (qF (tp i))&&decide ((jP (qF (tp i))).length=m)))(hF:F=qM m g)
  (hb:∀ (f:Af) (cdv:Ac) (A:Bk) (outer:Aa Ie) (s:Ag) (H:Hp) (E:XK),kN K x cdv->RoomC cm k (A.deeper (Gb x (qF (tp i)) s.heap.objs.size f cdv)) ->
   QB (cxC cm P w K mg base (jP (qF (tp i))) x (qF (tp i)) f cdv A outer s H E) (zJ (tp i)) g):DfS F P w K mg base cm (k+1) x ps.length:=by
 unfold Ck at h;simp only[Av,Ce] at h;obtain⟨h,rfl⟩:=h;exact⟨hF▸OL (T.src j hj) (eJ h) rfl hb⟩
theorem dqP {P:Bc}{w:Bx}{base:Bs}(k j:Ai)(T:TxS K mg tp tab bl clt plt cs exl cst)(hj:tab[j]? = Ab (x,i,ps))(h:Ck (fnB (jP (qF (tp i))) ps (qF (tp i))&&decide ((jP (qF (tp i))).length=m)))
  (hb:∀ (f:Af) (cdv:Ac) (A:Bk) (outer:Aa Ie) (s:Ag) (H:Hp) (E:XK),kN K x cdv->RoomC cm k (A.deeper (Gb x (qF (tp i)) s.heap.objs.size f cdv)) ->
   QB (cxC cm P w K mg base (jP (qF (tp i))) x (qF (tp i)) f cdv A outer s H E) (zJ (tp i)) g):rD P w K mg base cm (k+1) x ps (qM m g):=by
 unfold Ck at h;simp only[Av,Ce] at h;obtain⟨h,rfl⟩:=h;exact HU (T.src j hj) (eJ h) rfl hb
end
theorem hv {a b:Prop}(f:a->b)(h:a):b:=f h
inductive SrcF (K:Aj)(x:Aq)(st:Fq)(ps:Aa Aq):Prop
 |mk {f:Af} {oc:Ac} {od an:Al Af} {osl:Aw (Al Ac)} {kV doc pm cdv ct:Ac} (a:Fd K Cy x=Ab (Ab (.ref f)))
  (l:K.lookup f=Ab ⟨oc,od,.func (Gi x x (wW st) (zJ st) (qF st) .none kV doc pm an cdv ct),osl⟩) (c:Ld K cdv x=true) (k:Gj K (.ref f)=true):SrcF K x st ps
def oT (K:Aj)(tp:Ai->Fq):Aa (Aq × Ai × Aa Aq)->Prop
 |[]=>Ps
 |(x,i,ps)::t=>SrcF K x (tp i) ps/\oT K tp t
def BdF (tp:Ai->Fq):Aa (Aq × Ai × Aa Aq)->Prop
 |[]=>Ps
 |(x,i,ps)::t=>(∀ (kV doc pm:Ac) (an:Al Af) (cdv ct:Ac) (us:Aa Ac),us.length=ps.length->Tj (Gi x x (wW (tp i)) (zJ (tp i)) (qF (tp i)) .none kV doc pm an cdv ct) ⟨us,[]⟩=pure (ps.zip us))/\BdF tp t
def oN (K:Aj):Aa (Aq × Af)->Prop
 |[]=>Ps
 |(x,C)::t=>Fd K Cy x=Ab (Ab (.ref C))/\oN K t
def oO (K:Aj):Aa (Aq × Ak)->Prop
 |[]=>Ps
 |(x,v)::t=>(∃ k,Fd K Cy x=Ab (Ab (.int v k)))/\oO K t
def OQ:Al (Al Ac)->Ar
 |some none=>true
 |_=>false
section
variable {K:Aj}{h:Bs}{mg:Aq->Al Ac}{tp:Ai->Fq}
theorem oH (X:K.In h)(G:h.Ns Cy mg):∀ (tab:Aa (Aq × Ai × Aa Aq)),oT K tp tab->BdF tp tab->∀ (j:Ai) {x:Aq} {i:Ai} {ps:Aa Aq},tab[j]? = Ab (x,i,ps)->Src K mg x (tp i) ps
 |[],_,_,_,_,_,_,e=>by cases e
 |(x,i,ps)::t,H,B,0,_,_,_,e=>by
  cases e;obtain⟨a,l,c,k⟩:=H.1;exact EJ X G a l c k B.1
 |(x,i,ps)::t,H,B,j+1,_,_,_,e=>oH X G t H.2 B.2 j e
theorem wK {β:Type}{p:Aq->β->Prop}{x:Aq}{C:β}:∀ {l:Aa (Aq × β)},(∀ y∈l,p y.1 y.2)->l.lookup x=Ab C->p x C
 |[],_,e=>by cases e
 |(y,b)::t,H,e=>by
  rw[Jx] at e;cases q:x == y with
  |true =>
   rw[q] at e;cases e;rw[eq_of_beq q];exact H (y,_) (.head _)
  |false =>
   rw[q] at e;exact wK (λz hz=>H z (.tail _ hz)) e
theorem bO (X:K.In h)(G:h.Ns Cy mg):∀ {l:Aa (Aq × Af)},oN K l->∀ y∈l,mg y.1=Ab (.ref y.2)
 |(x,C)::t,H,y,hy=>by
  rcases Az.mp hy with rfl|hy
  .exact Wd X G H.1
  .exact bO X G H.2 y hy
theorem aR (X:K.In h)(G:h.Ns Cy mg):∀ {l:Aa (Aq × Ak)},oO K l->∀ y∈l,∃ k,mg y.1=Ab (.int y.2 k)
 |(x,C)::t,H,y,hy=>by
  rcases Az.mp hy with rfl|hy
  .obtain⟨k,e⟩:=H.1
   exact⟨k,Wd X G e⟩
  .exact aR X G H.2 y hy
theorem IB {tab:Aa (Aq × Ai × Aa Aq)}{bl:Aa Aq}{clt plt:Aa (Aq × Af)}{cs:Aa Ac}{exl:Aa Af}{cst:Aa (Aq × Ak)}{far:Af}(B:BdF tp tab)(hp:∀ y∈plt,y∈clt)(hf:clt.lookup ("FarError" : Aq)=Ab far)(X:K.In h)(G:h.Ns Cy mg)
  (s:oT K tp tab) (z:(bl.all λx=>OQ (Fd K Cy x))=true) (q:oN K clt) (g:oO K cst) (e1:exl.all (rN K)=true) (e2:YU K=true) (e3:N5 K exl=true) (e4:OJ K cs far=true) (e5:OH K (plt.map (·.2)) far=true) (e6:OI K (clt.map (·.2))=true):TxS K mg tp tab bl clt plt cs exl cst where
 src:=oH X G tab s B
 nb:=λ{x} hx=>by
  have e:=Bo.mp z x (by simpa using List.contains_iff_mem.mp hx)
  refine PySem.W.mg_none_of X G ?_
  revert e
  cases Fd K Cy x with
  |none=>intro e;cases e
  |some y=>cases y with
   |none=>intro _;rfl
   |some y=>intro e;cases e
 cl:=λh=>⟨wK (p:=λx C=>mg x=Ab (.ref C)) (bO X G q) h,wK (p:=λ_ C=>Gj K (.ref C)=true) (λy hy=>Bo.mp e6 y.2 (We hy)) h⟩
 rz:=λh=>⟨far,wK (p:=λx C=>mg x=Ab (.ref C)) (λy hy=>bO X G q y (hp y hy)) h,wK (p:=λ_ C=>m9 K C far=true) (λy hy=>Bo.mp e5 y.2 (We hy)) h⟩
 ct:=⟨far,wK (p:=λx C=>mg x=Ab (.ref C)) (bO X G q) hf,λv hv=>Ca (Bo.mp e4 v hv)⟩
 cls:=N7 e1 e2 e3
 gi:=λh=>wK (p:=λx v=>∃ k,mg x=Ab (.int v k)) (aR X G g) h
end
structure LamT where
 qual:Aq
 params:Pj
 body:Bw
 scope:Ei
def xO (sc:Ei):Aa Aq:=sc.names.filterMap λy=>if y.2 == .free then Ab y.1 else none
inductive CloAt (h:Bs)(H:Hp)(fs:Aa Af)(L:LamT)(a:Af)(cv:Aa V):Prop
 |mk (cl:Aa (Aq × Af)) (pm ctv:Ac) (c:Af) (oc:Cj) (ws:Aw Ac) (t:Qf) (o:h.get? a=Ab (Mj "<lambda>" L.qual L.params L.body L.scope cl pm c ctv)) (hc:H c=Ab (.frz oc (.frz oc (.own 0)))) (hd:oc.data=.fields ws) (ht:ws[1]? = Ab (.str L.qual t))
  (inj:∀ x y d,cl.lookup x=Ab d->cl.lookup y=Ab d->x=y) (cel:∀ x d,cl.lookup x=Ab d->H d=none/\∃ v,h.IsCell d v) (has:∀ x,L.scope.names.lookup x=Ab .free->∃ d,cl.lookup x=Ab d)
  (len:cv.length=(xO L.scope).length) (val:∀ (j:Ai) x v,(xO L.scope)[j]? = Ab x->cv[j]? = Ab v->∃ d u,cl.lookup x=Ab d/\qJ v u/\h.IsCell d (Ab u)) (hn:H a=none) (hf:a ∉ fs):CloAt h H fs L a cv
theorem CloAt.at {X:Cx}{pins:Aa (Af × Cj)}{σ:_L.St}{H:Hp}{s:Ag}{L:LamT}{a:Af}{cv:Aa V}(C:CloAt X.s₀.heap X.H₀ X.fs L a cv)(F:Fn1 X)(I:Inv X pins σ H s):CloAt s.heap H (frs X.stack) L a cv:=by
 obtain⟨cl,pm,ctv,c,oc,ws,t,o,hc,hd,ht,inj,cel,has,len,val,hn,hf⟩:=C;have nx:∀ b,b ∉ X.ex:=λb=>by rw[F.1];simp
 have nf:∀ b o,X.s₀.heap.get? b=Ab o->b ∉ X.fs->b ∉ frs X.stack:=λb o e n z=>(F.mem.mp z).elim (Ci (Bh (Ay e) I.ok.above)) n;have kc:∀ d v,X.H₀ d=none->X.s₀.heap.IsCell d v->s.heap.IsCell d v:=λd v h1 ⟨o,e,q⟩=>let ⟨_,z⟩:=I.base.any e h1 (nx d);⟨_,z,q⟩
 refine⟨cl,pm,ctv,c,oc,ws,t,I.base.keep a _ o hn hf (nx a),I.base.frzs _ _ _ hc,hd,ht,inj,λx d e=>?_,has,len,λj x v e1 e2=>?_,I.base.free a _ o hn (nx a),nf a _ o hf⟩
 .obtain⟨h1,v,h3⟩:=cel x d e
  obtain⟨ob,e3,q⟩:=id h3;exact⟨I.base.free d ob e3 h1 (nx d),v,kc d v h1 h3⟩
 .obtain⟨d,u,q1,q2,q3⟩:=val j x v e1 e2
  exact⟨d,u,q1,q2,kc d _ (cel x d q1).1 q3⟩
def U3 (cm:Ar)(P:Bc)(w:Bx)(K:Aj)(mg:Aq->Al Ac)(base:Bs)(N:Aa Aq)(L:LamT)(cl:Aa (Aq × Af))(f:Af)(cd:Ac)(A:Bk)(outer:Aa Ie)(s:Ag)(H:Hp)(E:XK):Cx where
 prog:=P
 w:=w
 K:=K
 mg:=mg
 base:=base
 A:=A.deeper (Lh L.qual L.scope s.heap.objs.size f cd cl)
 N:=N
 s₀:=s
 H₀:=H
 env:=Lh L.qual L.scope s.heap.objs.size f cd cl
 outer:=outer
 stack:=Lh L.qual L.scope s.heap.objs.size f cd cl::outer
 ex:=[]
 calm:=cm
 fn:=λ_=>false
 pn:=[]
 xe:=xeL P w A (Lh L.qual L.scope s.heap.objs.size f cd cl) outer H s E
structure LamSc (L:LamT)(ps:Aa Aq):Prop where
 kind:L.scope.kind=.function
 co:L.scope.isCoroutine=false
 gen:L.scope.isGenerator=false
 nocell:∀ y∈L.scope.names,y.2≠.cell
 par:∀ x∈ps,L.scope.names.lookup x=Ab .local
 one:ps.length<=1
 fr:∀ x∈xO L.scope,L.scope.names.lookup x=Ab .free
def nJ (P:Bc)(w:Bx)(K:Aj)(mg:Aq->Al Ac)(base:Bs)(cm:Ar)(k:Ai)(L:LamT)(n:Ai)(G:Aa D->DF):Prop:=
 ∀ (A:Bk) (outer:Aa Ie) (s:Ag) (H:Hp) (us:Aa Ac) (ws cv:Aa V) (a:Af) (P':Hp) (α : Aa Af) (S:Sto) (caps ds:Aa D) (Q:VK) (E:XK),RoomC cm k A->Env0 P w K mg base A outer s H->CloAt s.heap H (frs outer) L a cv->Rel K H P' α S ->
  qC K P' α caps cv->qC K P' α ds ws->qL ws us->ds.length=n->spR K P' α (G caps ds S) Q E->Ih (As P w) A (.call (.ref a) ⟨us,[]⟩) (CR (CXd P w) outer P w H s Q E) s
section
variable {P:Bc}{w:Bx}{K:Aj}{mg:Aq->Al Ac}{base:Bs}{cm:Ar}{L:LamT}{ps:Aa Aq}
theorem B4 {cl:Aa (Aq × Af)}{f:Af}{cd:Ac}{A:Bk}{outer:Aa Ie}{s:Ag}{H:Hp}{E:XK}{ws cv:Aa V}{h':Bs}{tk:Ai}(S:LamSc L ps)(hd:cm=true->A.handled=none)(e0:Env0 P w K mg base A outer s H)
  (inj:∀ x y d,cl.lookup x=Ab d->cl.lookup y=Ab d->x=y) (cel:∀ x d,cl.lookup x=Ab d->H d=none/\∃ v,s.heap.IsCell d v) (has:∀ x,L.scope.names.lookup x=Ab .free->∃ d,cl.lookup x=Ab d)
  (len:cv.length=(xO L.scope).length) (val:∀ (j:Ai) x v,(xO L.scope)[j]? = Ab x->cv[j]? = Ab v->∃ d u,cl.lookup x=Ab d/\qJ v u/\s.heap.IsCell d (Ab u)) (hl:ws.length=ps.length) (r:qL ws us)
  (hns:h'.Ns s.heap.objs.size λy=>(ps.zip us).reverse.lookup y) (hk:∀ b o,s.heap.get? b=Ab o->h'.get? b=Ab o) :
  Inv (U3 cm P w K mg base (ps++xO L.scope) L cl f cd A outer s H E) [] ((ws++cv).map Ab) H { s with heap:=h',toks:=tk }:=by
 have kc:∀ d v,s.heap.IsCell d v->h'.IsCell d v:=λd v ⟨o,e,q⟩=>⟨o,hk d o e,q⟩;have no:∀ b:Af,b ∉ ([]:Aa Af):=λb=>by simp
 refine⟨⟨e0.mod,S.kind,rfl,rfl,Ax _,inj,λy hy=>?_,(λy c z=>nomatch z),hd,Pa e0.frames,.inr ⟨rfl,rfl⟩,λb z=>absurd z (no b),e0.bs,e0.bsz,λb _ _=>no b,λb z=>absurd z (no b),e0.funs,e0.frf⟩,
  rfl,e0.bare,Un.kept hk,⟨_,hns,λi y v h1 h2 h3=>?_⟩,λy c h=>?_,e0.hok.fresh (Ax _),λy c h=>(cel y c h).1,λp hp=>absurd (show p∈([]:Aa (Af × Cj)) from hp) (by simp),e0.hok.kept hk,?_⟩
 .rcases hy with hy|hy
  .exact absurd rfl (S.nocell _ (Fa hy))
  .exact has y hy
 .have h1:(ps++xO L.scope)[i]? = Ab y:=h1
  rw[Cg] at h2;obtain⟨v',h2,e⟩:=Co.mp h2;cases e;by_cases hi:i<ps.length
  .rw[Be hi] at h1
   rw[Be (by rw[hl];exact hi)] at h2
   obtain⟨u,hu,rv⟩:=r.get h2;refine⟨u,rv,.inl ⟨S.par y (Bu h1),?_⟩⟩;have one:=S.one;cases ps with
   |nil=>cases h1
   |cons p t =>
    cases t with
    |cons _ _=>simp at one
    |nil =>
     have i0:i=0:=by simpa using hi
     subst i0;cases us with
     |nil=>cases hu
     |cons u' us =>
      cases h1;cases hu;simp
  .rw[Cp (Of hi)] at h1
   rw[Cp (by rw[hl];exact Of hi),hl] at h2
   obtain⟨d,u,q1,q2,q3⟩:=val _ y v h1 h2;exact⟨u,q2,.inr ⟨.inr (S.fr y (Bu h1)),d,q1,kc d _ q3⟩⟩
 .obtain⟨_,v,q⟩:=cel y c h
  exact⟨v,kc c v q⟩
 .show _=(ps++xO L.scope).length
  simp[hl,len]
theorem D8 {k:Ai}{fe:DE}(S:LamSc L ps)(hb:∀ (cl:Aa (Aq × Af)) (pm cdv ctv:Ac) (us:Aa Ac),us.length=ps.length->Tj (wS "<lambda>" L.qual L.params L.body L.scope cl pm cdv ctv) ⟨us,[]⟩=pure (ps.zip us))
  (hbody:∀ (cl:Aa (Aq × Af)) (f:Af) (cd:Ac) (A:Bk) (outer:Aa Ie) (s:Ag) (H:Hp) (E:XK),RoomC cm k (A.deeper (Lh L.qual L.scope s.heap.objs.size f cd cl)) ->
   QE (U3 cm P w K mg base (ps++xO L.scope) L cl f cd A outer s H E) L.body fe):nJ P w K mg base cm (k+1) L ps.length λcaps ds S=>fe ((ds++caps).map Ab) S:=by
 intro A outer s H us ws cv a P' α St caps ds Q E hr e0 C r rc rd rv hn af;obtain⟨cl,pm,ctv,c,oc,vs,t,o,hc,hd,ht,inj,cel,has,len,val,hna,hf⟩:=C;have af:spR K P' α (fe ((ds++caps).map Ab) St) Q E:=af;have lim:s.heap.NoLimit:=e0.mod.nolimit.keeps λb o e=>(e0.bs b o e).1;have hul:us.length=ps.length:=by rw[<- rv.length,<- rd.length];exact hn
 have hloc:∀ y∈ps.zip us,L.scope.names.lookup y.1=Ab .local:=λy hy=>S.par _ (Ma hy).1;refine PySem.W.kla_callFunE hr.depth o rfl S.co S.gen rfl ⟨c,oc,vs,t,rfl,(e0.hok c _ hc).1,hd,ht⟩ ?_;rw[hb cl pm (.ref c) ctv us hul];refine An (wpAny_newFunctionEnv S.nocell hloc (λh₁ hns hsb=>?_) S.kind);have hk₁:∀ b o,s.heap.get? b=Ab o->h₁.get? b=Ab o:=λb o e=>hsb.extBut b o (Ci (Ay e)) (Ah _ e);refine⟨lim.keeps hk₁,?_⟩;show Ih _ _ (.expr L.body (Lh L.qual L.scope s.heap.objs.size a (.ref c) cl)) _ _;have I:=B4 (cm:=cm) (f:=a) (cd:=.ref c) (E:=E) (tk:=s.toks+(ps.zip us).length) S hr.hd e0 inj cel has len val (by rw[<- rd.length];exact hn) rv hns hk₁
 have re:z9 K P' α ((ws++cv).map Ab) ((ds++caps).map Ab):=by
  have z:=rd.append rc;refine⟨by simp[z.length,rd.length,rc.length],λi d e=>?_⟩
  rw[Cg] at e;obtain⟨d',e1,e2⟩:=Co.mp e;cases e2;obtain⟨v,h1,h2⟩:=z.get e1;exact⟨v,by rw[Cg,h1];rfl,h2⟩
 refine PySem.W.kla_codeExpr (Gq ((hbody cl a (.ref c) A outer s H E (hr.deeper _)).1 [] _ _ H Q I ⟨P',α,_,St,r,re,?_⟩) (λu s' q=>?_) λ_ _ y=>y)
 .cases z:fe ((ds++caps).map Ab) St with
  |ok d S'=>rw[z] at af;exact af
  |ex e x S'=>rw[z] at af;exact λu s' q=>rW (A:=A) rfl q λH' P1 α1 r1 e1 e2=>af H' P1 α1 r1 e1 e2
  |bad=>rw[z] at af;exact Ao af
 .obtain⟨v,H',I',rv',q⟩:=q
  exact⟨v,H',I'.os,I'.bare,I'.base,I'.hok,rv',q⟩
end
open Classical in
def mB (i:Ai)(fa:DA)(a:Af)(cv:Aa V)(n:Ai)(G:Aa D->DF):DE:=λenv S=>match env[i]? with
 |some (Ab (.clo b vs caps))=>if b=a/\vs=cv then (fa env S).bind λds S1=>if ds.length=n then G caps ds S1 else .bad else .bad
 |_=>.bad
section
variable {X:Cx}{cm:Ar}{k n i:Ai}{x:Aq}{p pos:Ey}{e:Bw}{es:Aa Bw}{fa:DA}{L:LamT}{G:Aa D->DF}{a:Af}{cv:Aa V}
set_option tactic.hygienic true in
theorem GM {S:Sto}{P:Hp}{α:Aa Af}{Ok:D->Sto->Prop}(h:qG X P α (mB i fa a cv n G env S) Ok):∃ caps,env[i]? = Ab (Ab (.clo a cv caps))/\qG X P α ((fa env S).bind λds S1=>if ds.length=n then G caps ds S1 else .bad) Ok:=by
 unfold mB at h
 split at h
 .rename_i b vs caps e
  obtain⟨⟨rfl,rfl⟩,h1⟩:=xW h;exact⟨caps,e,h1⟩
 .exact Ao h
theorem LJ {h:Bs}{H:Hp}{fs:Aa Af}(C:CloAt h H fs L a cv):PySem.W.FnAt a h:=by
 obtain⟨cl,pm,ctv,c,oc,ws,t,o,_⟩:=C;exact⟨_,_,_,_,o⟩
theorem GN {pins:Aa (Af × Cj)}{σ:_L.St}{H P:Hp}{α:Aa Af}{s:Ag}{Q:VK}{ws:Aa V}{ds:Aa D}{S:Sto}(LX:nJ X.prog X.w X.K X.mg X.base cm k L n G)(hr:RoomC cm k X.A)(F:Fn1 X)(C:CloAt X.s₀.heap X.H₀ X.fs L a cv)
  (I:Inv X pins σ H s) (r:Rel X.K H P α S) (rc:qC X.K P α caps cv) (rp:qC X.K P α ds ws) (rv:qL ws us) (af:qP X P α (if ds.length=n then G caps ds S else .bad) Q):Ap (As X.prog X.w) X.A (call (.ref a) us) (EP X pins σ Q) X.xe s:=by
 obtain⟨hn,af⟩:=xW af;exact fZ (λ_=>F) I af (LX X.A X.stack s H us ws cv a P α S caps ds Q _ hr I.env0 (C.at F I) r rc rp rv hn (cL af))
theorem DB {pins:Aa (Af × Cj)}{σ:_L.St}{H P:Hp}{α:Aa Af}{s:Ag}(hN:X.N[i]? = Ab x)(hv:Vis X.env.scope x)(hd:(x == ("__debug__" : Aq))=false)(hcd:(x == ("__classdict__" : Aq))=false)
  (I:Inv X pins σ H s) (re:z9 X.K P α σ env) (he:env[i]? = Ab (Ab (.clo a cv caps))) (h:∀ s1,Inv X pins σ H s1->qC X.K P α caps cv->Q (.ref a) s1):Ap (As X.prog X.w) X.A (eval (.Name x p) X.env) Q X.xe s:=by
 obtain⟨v,e1,rp⟩:=re.2 i _ he;simp only[Rep] at rp;obtain⟨rfl,rc⟩:=rp;refine thn (WQ hN hv hd hcd pins s σ H (λv H'=>v=.ref a/\H'=H) I ⟨_,e1,rfl,rfl⟩) λu s1 ⟨v,H1,I1,rv,z1,z2⟩=>?_;subst z1;subst z2;cases (show u=Cw a from rv)
 exact h s1 I1 rc
theorem NG (LX:nJ X.prog X.w X.K X.mg X.base cm k L n G)(hr:RoomC cm k X.A)(F:Fn1 X)(C:CloAt X.s₀.heap X.H₀ X.fs L a cv)(hN:X.N[i]? = Ab x)(hv:Vis X.env.scope x)(hd:(x == ("__debug__" : Aq))=false)(hcd:(x == ("__classdict__" : Aq))=false)(ha:PA X (e::es) (tDA X fa))
  (he:Bm (e::es) X.env=(false,eval e X.env)::Bm es X.env:=by rfl) (hpl:(Ft pos (Bm es X.env)).any (·.1)=false:=by rfl):PE X (.Call (.Name x p) (e::es) [] pos) (tD X (mB i fa a cv n G)):=by
 intro pins s σ H Q I h;obtain⟨P,α,env,S,r,re,af⟩:=h;obtain⟨caps,e1,af⟩:=GM af;refine Ho (DB hN hv hd hcd I re e1 λs1 I1 rc=>?_);refine PySem.W.callWith_F (LJ (C.at F I1)) (thn (wA ha I1 r re af pos) λus s2 ⟨vs,H2,P2,α2,ds,S2,I2,rv,r2,re2,rp,q1,q2,af2⟩=>⟨LJ (C.at F I2),?_⟩) he hpl;exact GN LX hr F C I2 r2 (qC.mono q1 q2 _ _ rc) rp rv (qP.base q1 q2 af2)
end
theorem aA {i:Ai}{c:Ac}(l:Aa Ac)(h:Lv l):Lv (l++[Fz i,Fz j,c]):=by
 fun_induction Lv l with
 |case1=>simp[Lv,Fz]
 |case2 _ _ _ _ _ rest ih=>simp only[Ka,Lv];exact ih h
 |case3=>exact Ao h
set_option tactic.hygienic true in
theorem ZR {pos:Ey}{i:Ai}{c v:Ac}(l:Aa Ac)(h:Lv l)(e:Pk pos (l++[Fz i,Fz j,c])=Ab v):Pk pos l=Ab v\/v=c:=by
 fun_induction Lv l with
 |case1 =>
  simp only[Hw,Pk,Fz] at e
  split at e
  .exact .inr (Cs e).symm
  .cases e
 |case2 _ _ _ _ _ rest ih =>
  simp only[Ka,Pk] at e ⊢
  split at e
  .rename_i hc;rw[Bf hc];exact .inl e
  .rename_i hc;rw[Bb hc];exact ih h e
 |case3=>exact Ao h
theorem MOk.at {K:Aj}{H P:Hp}{α:Aa Af}{a:Af}(e:H' a=H a):∀ {o:MO},MOk K H P α a o->MOk K H' P α a o
 |.dead,_=>trivial
 |.lst _,⟨vs,q,r⟩=>⟨vs,e.trans q,r⟩
 |.dct _,⟨vs,q,r⟩=>⟨vs,e.trans q,r⟩
 |.dcT _,⟨vs,q,r⟩=>⟨vs,e.trans q,r⟩
 |.ins _ _,⟨dx,vs,q,r⟩=>⟨dx,vs,e.trans q,r⟩
section
variable {X:Cx}{pins:Aa (Af × Cj)}{σ : _L.St}{H P:Hp}{α : Aa Af}{s:Ag}{S:Sto}{y:Aq}{c T:Af}
theorem Rel.grown {ps:Aw Ac}{ws:Aw Ac}{t:Qf}{i:Ai}(r:Rel X.K H P α S)(m:Mod X.K X.mg X.base)(hy:y∈w8)(ht:Ds X.K y=Ab (c,T))(e:H T=Ab (.tbl ps))(pn:P T=none)(an:T ∉ α)(ok:Lv ps.toList)
  (cd:∀ pos cv,Pk pos ps.toList=Ab cv->∃ c oc vs t,cv=.ref c/\H c=Ab (.frz oc (.frz oc (.own 0)))/\oc.data=.fields vs/\vs[1]? = Ab (.str (y ++ ".<locals>." ++ "<lambda>") t)) (hn:H c'=none) (hd:oc.data=.fields ws) (hs:ws[1]? = Ab (.str (y ++ ".<locals>." ++ "<lambda>") t)) :
  Rel X.K (upd (upd H T (.tbl (ps++#[Fz i,Fz j,.ref c']))) c' (.frz oc (.frz oc (.own 0)))) P α S:=by
 have ne:T≠c':=qU e hn;have go:∀ b u,b≠T->H b=Ab u->upd (upd H T (.tbl (ps++#[Fz i,Fz j,.ref c']))) c' (.frz oc (.frz oc (.own 0))) b=Ab u:=λb u h q=>by rw[qH (qU q hn),qH h];exact q
 have nT:∀ b∈α,b≠T:=λb h z=>an (z▸h);have nc:∀ (k:Ai) b,α[k]? = Ab b->b≠c':=λk b h z=>r.own k b h (z▸hn);have at':∀ (k:Ai) b,α[k]? = Ab b->upd (upd H T (.tbl (ps++#[Fz i,Fz j,.ref c']))) c' (.frz oc (.frz oc (.own 0))) b=H b:=λk b h=>by rw[qH (nc k b h),qH (nT b (Bu h))]
 refine⟨λx hx d U hU=>?_,λb u q=>go b u (λz=>by rw[z,pn] at q;cases q) (r.sub b u q),r.len,r.nd,r.sep,λk b o h1 h2=>MOk.at (at' k b h1) (r.at' k b o h1 h2),λk b h=>by rw[at' k b h];exact r.own k b h⟩
 by_cases hT:U=T
 .subst hT
  cases m.inj x hx y hy d c U hU ht;refine⟨_,by rw[qH ne];exact qR,pn,an,?_,λpos cv q=>?_⟩
  .rw[Dr];exact aA _ ok
  .rw[Dr] at q
   rcases ZR _ ok q with q|q
   .obtain⟨d,od,vs,t,a1,a2,a3⟩:=cd pos cv q
    exact⟨d,od,vs,t,a1,go d _ (λz=>by rw[z,e] at a2;cases a2) a2,a3⟩
   .exact⟨c',oc,ws,t,q,qR,hd,hs⟩
 .obtain⟨qs,e1,p1,a1,ok1,cd1⟩:=r.tb x hx d U hU
  exact⟨qs,go U _ hT e1,p1,a1,ok1,λpos cv q=>let ⟨d,od,vs,t,b1,b2,b3⟩:=cd1 pos cv q;⟨d,od,vs,t,b1,go d _ (λz=>by rw[z,e] at b2;cases b2) b2,b3⟩⟩
theorem Inv.pinned {a:Af}{o:Cj}{h':Bs}{tk:Ai}(I:Inv X pins σ H' { s with heap:=h'.push o,toks:=tk })(ha:a=h'.objs.size)(hs:s.heap.objs.size<=h'.objs.size)(I0:Inv X pins σ H s)(hn:H' a=none)(hd:∀ v,o.data≠.cell v)(hfr:o.isFreed=false:=by rfl):Inv X ((a,o)::pins) σ H' { s with heap:=h'.push o,toks:=tk }:=by
 refine I.pins_of λp hp=>?_;rcases Az.mp hp with rfl|hp
 .subst ha
  exact⟨AT _ hfr,hn,Fv (Bh I0.lt hs),I0.nofs hs,hd⟩
 .exact I.pin p (Bt _ hp)
theorem U6 {M:Nl}{params:Pj}{body:Bw}{scope:Ei}{lpos:Ey}{cl:Aa (Aq × Af)}(I:Inv X pins σ H s)(r:Rel X.K H P α S)(hy:y∈w8)(ht:Ds X.K y=Ab (c,T))(hc:X.env.code=.ref c)(hq:X.env.qual=y ++ ".<locals>.")
  (hdef:sB params X.env=([],[])) (hcl:Sn scope X.env=pure cl)
  (h:∀ (a:Af) (H':Hp) (s':Ag) (pm ctv:Ac) (c':Af) (oc:Cj) (ws:Aw Ac) (t:Qf),Inv X ((a,Mj "<lambda>" (y ++ ".<locals>." ++ "<lambda>") params body scope cl pm c' ctv)::pins) σ H' s'->Rel X.K H' P α S ->
   H' c'=Ab (.frz oc (.frz oc (.own 0)))->oc.data=.fields ws->ws[1]? = Ab (.str (y ++ ".<locals>." ++ "<lambda>") t)->Q (.ref a) s'):Ap M X.A (eval (.Lambda params body scope lpos) X.env) Q E s:=by
 obtain⟨ps,e,pn,an,ok,cd⟩:=r.tb y hy c T ht;have hP:s.heap.get? T=Ab (Lg ps):=I.hok T _ e;have hC:Uu s.heap c T:=(I.mod.code y hy c T ht).keeps I.bk;have hg:s.heap.Ns Cy X.mg:=I.mod.glob.keeps I.bk;have hgP:Cy≠T:=λz=>by
  obtain⟨o,es,ep,e1,d1,_⟩:=hg;rw[z,hP] at e1;cases e1;cases d1
 have hb:s.heap.BuiltinsAt X.mg T:=by
  obtain⟨bm,o,b1,b2,b3,b4,b5,b6⟩:=I.mod.bm;have b3':=I.bk _ _ b3;refine⟨bm,o,b1,b2,λz=>?_,λz=>?_,b3',b4,b5,b6⟩
  .obtain⟨o',es,ep,e1,d1,_⟩:=hg
   rw[<- z,b3'] at e1;cases e1;rw[b6] at d1;cases d1
  .rw[z,hP] at b3';cases b3';cases b4
 refine PySem.W.kla_eval hdef ?_;rw[hq];cases hf:Pk lpos ps.toList with
 |none =>
  refine PySem.W.kla_makeFunction (mg:=X.mg) hcl I.ok.glob hg hc hC hP ok hf hgP hb λc' ctv h' tk hx hge hlt hrec htb=>?_;obtain⟨c2,oc,ws,t,z,hoc,hd,hs⟩:=hrec;cases z;have hn:H c'=none:=I.hok.fresh hge;have ne:T≠c':=qU e hn;have hsz:s.heap.objs.size<=h'.objs.size:=Dm hge (Et hlt)
  let o:=Mj "<lambda>" (y ++ ".<locals>." ++ "<lambda>") params body scope cl ((X.mg "__name__").getD .none) c' ctv
  have kp:∀ b u,b≠T->s.heap.get? b=Ab u->(h'.push o).get? b=Ab u:=λb u hb q=>Ah _ (hx b u hb q);have eT:(h'.push o).get? T=Ab (Lg (ps++#[Fz lpos.line,Fz lpos.col,.ref c'])):=Ah _ htb
  let H2:=upd (upd H T (.tbl (ps++#[Fz lpos.line,Fz lpos.col,.ref c']))) c' (.frz oc (.frz oc (.own 0)))
  have go:∀ b u,b≠T->H b=Ab u->H2 b=Ab u:=λb u h q=>by show upd _ _ _ b=_;rw[qH (qU q hn),qH h];exact q
  have go0:∀ b,b≠T->b≠c'->H b=none->H2 b=none:=λb h h' q=>by show upd _ _ _ b=_;rw[qH h',qH h];exact q
  have nT:∀ b,H b=none->b≠T:=λb q z=>by rw[z,e] at q;cases q
  have eH:H2 T=Ab (.tbl (ps++#[Fz lpos.line,Fz lpos.col,.ref c'])):=by show upd _ _ _ T=_;rw[qH ne];exact qR
  have un:Un X.fs [] H H2 s.heap (h'.push o):=by
   refine⟨λb u q n _ _=>kp b u (nT b n) q,λb u q n _ _=>⟨u.slots,kp b u (nT b n) q⟩,λb u q n _=>go0 b (nT b n) (Ci (Bh (Ay q) hge)) n,λb u q _=>?_,λb xs q=>go b _ (λz=>by rw[z,e] at q;cases q) q,λb u xs q=>go b _ (λz=>by rw[z,e] at q;cases q) q,λb qs q=>?_⟩
   .by_cases hb:b=T
    .rw[hb];exact⟨_,eT⟩
    .exact⟨u,kp b u hb q⟩
   .by_cases hb:b=T
    .rw[hb,e] at q;cases q
     exact⟨_,by rw[hb];exact eH⟩
    .exact⟨#[],by rw[go b _ hb q];simp⟩
  have hok:HOk X.prog X.w H2 (h'.push o):=λb u q=>by
   by_cases hb:b=c'
   .have q':Ab (HO.frz oc (.frz oc (.own 0)))=Ab u:=by rw[<- q,hb];exact qR.symm
    cases q';have z:(h'.push o).get? b=Ab oc:=by rw[hb];exact Ah _ hoc
    exact⟨z,z,_,z⟩
   .by_cases hb2:b=T
    .rw[hb2,eH] at q;cases q
     rw[hb2];exact eT
    .have q':H b=Ab u:=by have q2:upd _ _ _ b=Ab u:=q;rw[qH hb,qH hb2] at q2;exact q2
     refine(I.hok b u q').stay (λd v hd q=>kp d v ?_ q) (λd q=>go d _ (λz=>by rw[z,e] at q;cases q) q) λd xs q=>go d _ (λz=>by rw[z,e] at q;cases q) q
     rcases hd with z|z
     .rw[z];exact hb2
     .intro w;rw[w,e] at z;cases z
  have I2:=I.un (t':=tk) un hok;refine h h'.objs.size H2 _ _ ctv c' oc ws t (Inv.pinned I2 rfl hsz I (go0 _ (λz=>?_) (Fv hlt) (I.hok.fresh hsz)) λv z=>by cases z) (r.grown I.mod hy ht e pn an ok cd hn hd hs) qR hd hs
  rw[<- z] at e;exact absurd (Bh (I.hok.lt e) hsz) (Du _)
 |some cv =>
  obtain⟨c',oc,ws,t,rfl,a2,a3,a4⟩:=cd lpos cv hf;refine PySem.W.kla_makeFunctionHit (mg:=X.mg) hcl I.ok.glob hg hc hC hP ok hf hb λctv h' tk hk hsz=>?_;have I2:=I.kept (t':=tk) (h':=h'.push (Mj "<lambda>" (y ++ ".<locals>." ++ "<lambda>") params body scope cl ((X.mg "__name__").getD .none) c' ctv)) λb u q=>Ah _ (hk b u q);exact h h'.objs.size H _ _ ctv c' oc ws t (Inv.pinned I2 rfl hsz I (I.hok.fresh hsz) λv z=>by cases z) r a2 a3 a4
end
def m8:Aa Ai->qB->Al (Aa D)
 |[],_=>Ab []
 |i::r,env=>match env[i]? with
  |some (Ab d)=>(m8 r env).map (d::·)
  |_=>none
set_option tactic.hygienic true in
theorem aL {K:Aj}{P:Hp}{α:Aa Af}{σ:_L.St}(re:z9 K P α σ env):∀ (cap:Aa Ai) (caps:Aa D),m8 cap env=Ab caps->∃ cv,qC K P α caps cv/\cv.length=cap.length/\∀ (j i:Ai) v,cap[j]? = Ab i->cv[j]? = Ab v->σ[i]? = Ab (Ab v)
 |[],caps,h=>by cases h;exact⟨[],.nil,rfl,λj i v e=>by simp at e⟩
 |i::r,caps,h=>by
  unfold m8 at h
  split at h
  .rename_i d e
   obtain⟨ds,h1,rfl⟩:=Co.mp h;obtain⟨cv,a1,a2,a3⟩:=aL re r ds h1;obtain⟨v,b1,b2⟩:=re.2 i d e;refine⟨v::cv,.cons b2 a1,by simp[a2],λj k w e1 e2=>?_⟩
   cases j with
   |zero=>cases e1;cases e2;exact b1
   |succ j=>exact a3 j k w (by simpa using e1) (by simpa using e2)
  .cases h
open Classical in
def uni (f:Af->Aa V->Res D):Res D:=if ∀ a cv,f a cv=f 0 [] then f 0 [] else .bad
theorem H0 {R:Res D}(h:∀ a cv,f a cv=R):uni f=R:=by
 unfold uni;rw[Bf λa cv=>(h a cv).trans (h 0 []).symm];exact h 0 []
set_option tactic.hygienic true in
theorem EZ (h:uni f≠.bad)(a:Af)(cv:Aa V):f a cv=uni f:=by
 unfold uni at h ⊢
 split at h
 .rename_i z;rw[Bf z];exact z a cv
 .exact absurd rfl h
def exO (nx:Ar)(R:Res D):Res D:=match nx,R with
 |true,.ex _ _ _=>.bad
 |_,R=>R
def kA (nx:Ar)(cap:Aa Ai)(n N:Ai)(fa:DA)(g:Af->Aa V->DS):DE:=λenv S=>match m8 cap env with
 |none=>.bad
 |some caps=>(fa env S).bind λds S1=>if ds.length+1=n then exO nx (uni λa cv=>qM N (g a cv) (.clo a cv caps::ds) S1) else .bad
def TF (P:Bc)(w:Bx)(K:Aj)(mg:Aq->Al Ac)(base:Bs)(cm:Ar)(k kl m:Ai)(x:Aq)(n N:Ai)(g:(Aa D->DF)->Af->Aa V->DS):Prop:=
 ∃ f fd st Ns ps,ps.length=n/\Ns.length=N/\mg x=Ab (.ref f)/\Fun K x x st f fd/\vH K fd ps [] /\ FnScope Ns ps (qF st)/\∀ (L:LamT) (G:Aa D->DF) (a:Af) (cv:Aa V),nJ P w K mg base cm kl L m G ->
  ∀ (cdv:Ac) (A:Bk) (outer:Aa Ie) (s:Ag) (H:Hp) (E:XK),CloAt s.heap H (frs outer) L a cv->RoomC cm k (A.deeper (Gb x (qF st) s.heap.objs.size f cdv))->QB (cxC cm P w K mg base Ns x (qF st) f cdv A outer s H E) (zJ st) (g G a cv)
def pZ (scX:Ei)(NX:Aa Aq)(sc:Ei)(cap:Aa Ai):Ar:=decide ((xO sc).length=cap.length)&&(cap.zip (xO sc)).all λp=>NX[p.1]? == Ab p.2&&(scX.names.lookup p.2 == Ab .cell||scX.names.lookup p.2 == Ab .free)
section
variable {X:Cx}{pins:Aa (Af × Cj)}{σ : _L.St}{H P:Hp}{α : Aa Af}{s:Ag}{S:Sto}{y x:Aq}{c T:Af}{params:Pj}{body:Bw}{scope:Ei}{lpos p pos:Ey}{es:Aa Bw}{fa:DA}{nx cm:Ar}{k kl m n N:Ai}{cap:Aa Ai}{G:Aa D->DF}{g:(Aa D->DF)->Af->Aa V->DS}
theorem LG {R:Res D}{Ok:D->Sto->Prop}(h:qG X P α (exO nx R) Ok):R≠.bad/\qG X P α R Ok/\((∃ c x S',R=.ex c x S')->nx=false):=by
 cases R with
 |ok d S'=>exact⟨nofun,by cases nx <;> exact h,λ⟨_,_,_,z⟩=>nomatch z⟩
 |bad=>cases nx <;> exact Ao h
 |ex c x S' =>
  cases nx with
  |true=>exact Ao h
  |false=>exact⟨nofun,h,λ_=>rfl⟩
theorem Rel.know {K:Aj}(r:Rel K H P α S)(h:H c'=Ab (.frz oc (.frz oc (.own 0)))):Rel K H (upd P c' (.frz oc (.frz oc (.own 0)))) α S/\qD P (upd P c' (.frz oc (.frz oc (.own 0)))):=by
 have sP:qD P (upd P c' (.frz oc (.frz oc (.own 0)))):=λb u q=>by
  by_cases hb:b=c'
  .have z:=r.sub b u q
   rw[hb,h] at z;cases z;rw[hb];exact qR
  .rw[qH hb];exact q
 refine⟨⟨λx hx d T hT=>let ⟨ps,e,pn,an,ok,cd⟩:=r.tb x hx d T hT;⟨ps,e,(qH λ(z:T=c')=>by rw[z,h] at e;cases e).trans pn,an,ok,cd⟩,λb u q=>?_,r.len,r.nd,λi a o h1 h2 h3=>?_,λi a o h1 h2=>(r.at' i a o h1 h2).mono sP (Bg _),r.own⟩,sP⟩
 .by_cases hb:b=c'
  .rw[hb,qR] at q;cases q;rw[hb];exact h
  .rw[qH hb] at q;exact r.sub b u q
 .have hb:a≠c':=by
   rintro rfl;have z:=r.at' i a o h1 h2;cases o with
   |dead=>exact h3 rfl
   |lst ds=>obtain⟨vs,z,_⟩:=z;rw[h] at z;cases z
   |dct kvs=>obtain⟨vs,z,_⟩:=z;rw[h] at z;cases z
   |dcT kvs=>obtain⟨vs,z,_⟩:=z;rw[h] at z;cases z
   |ins C fs=>obtain⟨dx,vs,z,_⟩:=z;rw[h] at z;cases z
  rw[qH hb];exact r.sep i a o h1 h2 h3
theorem dW {z:Aq × Hn}(h:z∈sc.names)(hk:z.2=.free):z.1∈xO sc:=Iu.mpr ⟨z,h,by rw[hk];rfl⟩
set_option tactic.hygienic true in
theorem UJ {z:Aq}(h:z∈xO sc):(z,Gd)∈sc.names:=by
 obtain⟨⟨n,k⟩,h1,h2⟩:=Iu.mp h
 split at h2
 .rename_i e
  have:k=Gd:=by simpa using e
  cases h2;subst this;exact h1
 .cases h2
theorem lF (hB:pZ X.env.scope X.N scope cap=true){j:Ai}{z:Aq}(h:(xO scope)[j]? = Ab z):∃ i,cap[j]? = Ab i/\X.N[i]? = Ab z/\(X.env.scope.names.lookup z=Ab .cell\/X.env.scope.names.lookup z=Ab .free):=by
 simp only[pZ,Av,Ce] at hB;obtain⟨hl,ha⟩:=hB;have hj:j<cap.length:=by rw[<- hl];exact(Bd.mp h).1
 have e:=Am hj;have hz:(cap[j],z)∈cap.zip (xO scope):=Kv.mpr ⟨j,by rw[Rm];exact⟨e,h⟩⟩
 have q:=Bo.mp ha _ hz;simp only[Av,Md,Lw] at q;exact⟨_,e,q.1,q.2⟩
theorem U5 (hB:pZ X.env.scope X.N scope cap=true)(ok:X.Ok):Sn scope X.env=pure (wF X.env.cells scope.names []):=pJ λz hz hk=>by
 obtain⟨j,hj⟩:=Kv.mp (dW hz hk);obtain⟨i,_,_,q⟩:=lF hB hj;exact ok.has z.1 q
theorem uQ (hB:pZ X.env.scope X.N scope cap=true)(ok:X.Ok){z:Aq}{d:Af}(h:(wF X.env.cells scope.names []).lookup z=Ab d):X.env.cells.lookup z=Ab d:=by
 rcases jM _ _ h with h|⟨hm,hc⟩
 .cases h
 .obtain⟨j,hj⟩:=Kv.mp (dW hm rfl)
  obtain⟨i,_,_,q⟩:=lF hB hj;obtain⟨d',e⟩:=ok.has z q;rw[e,Oh] at hc;rw[e,hc]
theorem N6 {a:Af}{ws:Aw Ac}{t:Qf}{pm ctv:Ac}{cv:Aa V}{s':Ag}(hB:pZ X.env.scope X.N scope cap=true)(I:Inv X ((a,Mj "<lambda>" (y ++ ".<locals>." ++ "<lambda>") params body scope (wF X.env.cells scope.names []) pm c' ctv)::pins) σ H' s')
  (hc:H' c'=Ab (.frz oc (.frz oc (.own 0)))) (hd:oc.data=.fields ws) (hs:ws[1]? = Ab (.str (y ++ ".<locals>." ++ "<lambda>") t)) (hl:cv.length=cap.length) (hv:∀ (j i:Ai) v,cap[j]? = Ab i->cv[j]? = Ab v->σ[i]? = Ab (Ab v)) :
  CloAt s'.heap H' (frs X.stack) ⟨y ++ ".<locals>." ++ "<lambda>",params,body,scope⟩ a cv:=by
 obtain⟨e1,n1,n2,n3,_⟩:=I.pin _ (Bt _ (.head _));refine⟨_,pm,ctv,c',oc,ws,t,e1,hc,hd,hs,λz z' d h1 h2=>I.ok.inj z z' d (uQ hB I.ok h1) (uQ hB I.ok h2),λz d h=>⟨I.freeC z d (uQ hB I.ok h),I.cell z d (uQ hB I.ok h)⟩,λz hz=>j8 _ _ (.inl (Fa hz)),?_,λj z v h1 h2=>?_,n1,λz=>?_⟩
 .simp only[pZ,Av,Ce] at hB
  rw[hl,<- hB.1]
 .obtain⟨i,q1,q2,q3⟩:=lF hB h1
  obtain⟨m,hm,hlk⟩:=I.loc;obtain⟨u,ru,lk⟩:=hlk i z v q2 (hv j i v q1 h2) (q3.elim (λk=>.inr (.inl k)) λk=>.inr (.inr k));rcases lk with⟨kl,_⟩|⟨_,d,hcl,hcell⟩
  .have kl':X.env.scope.names.lookup z=Ab .local:=kl
   rcases q3 with k|k <;> (rw[kl'] at k;cases k)
  .obtain⟨d',hd'⟩:=j8 (cells:=X.env.cells) scope.names [] (.inl (UJ (Bu h1)))
   have:=uQ hB I.ok hd';rw[hcl] at this;cases this;exact⟨d,u,hd',ru,hcell⟩
 .rcases Az.mp (I.stkSub a z) with z|z
  .exact n2 z
  .exact n3 z
theorem V1 (D:TF X.prog X.w X.K X.mg X.base cm k kl m x n N g)(LX:nJ X.prog X.w X.K X.mg X.base cm kl ⟨y ++ ".<locals>." ++ "<lambda>",params,body,scope⟩ m G)(hr:RoomC cm (k+1) X.A)(hF:nx=false->Fn1 X)(hg:Gl X x)(hdb:(x == ("__debug__" : Aq))=false)
  (hy:y∈w8) (ht:Ds X.K y=Ab (c,T)) (hc:X.env.code=.ref c) (hq:X.env.qual=y ++ ".<locals>.") (hdef:sB params X.env=([],[])) (hB:pZ X.env.scope X.N scope cap=true) (ha:PA X es (tDA X fa))
  (he:Bm (.Lambda params body scope lpos::es) X.env=(false,eval (.Lambda params body scope lpos) X.env)::Bm es X.env) (hpl:(Ft pos (Bm es X.env)).any (·.1)=false) :
  PE X (.Call (.Name x p) (.Lambda params body scope lpos::es) [] pos) (tD X (kA nx cap n N fa (g G))):=by
 intro pins s σ H Q I h;obtain⟨P,α,env,S,r,re,af⟩:=h;obtain⟨f,fd,st,Ns,ps,hn,hN,hm,F,hb,hS,hbody⟩:=D;subst hn;subst hN;have af:qG X P α (match m8 cap env with
  |none=>.bad
  |some caps=>(fa env S).bind λds S1=>if ds.length+1=ps.length then exO nx (uni λa cv=>qM Ns.length (g G a cv) (.clo a cv caps::ds) S1) else .bad) (OkV X P α Q):=af
 cases hcap:m8 cap env with
 |none=>rw[hcap] at af;exact Ao af
 |some caps =>
  rw[hcap] at af;obtain⟨cv,rc,hcl,hv⟩:=aL re cap caps hcap;refine Ho (kG I hg hm ?_ hdb);refine Qo (h₀:=X.base) I.ok.mod.kin F.kp ?_ he hpl;rw[he];show Ap _ _ (spliced ((false,eval (.Lambda params body scope lpos) X.env)::Ft pos (Bm es X.env))) _ _ s;refine Mq (U6 I r hy ht hc hq hdef (U5 hB I.ok) λa H1 s1 pm ctv c' oc ws t I1 r1 hc' hd hs=>?_);obtain⟨rk,sk⟩:=Rel.know r1 hc';refine thn (wA ha I1 rk (re.mono sk (Bg _)) (qP.base sk (Bg _) af) pos) λus s2 ⟨vs,H2,P2,α2,ds,S2,I2,rv,r2,re2,rp,q1,q2,af2⟩=>⟨I2.kIn,?_⟩;obtain⟨hl,af3⟩:=xW af2;obtain⟨nb,af4,nf⟩:=LG af3;have e1:=EZ nb a cv;rw[<- e1] at af4 nf;have C:=N6 hB I2 (r2.sub _ _ (q1 _ _ qR)) hd hs hcl hv;have I3:Inv X pins σ H2 s2:=I2.pins_of λp hp=>I2.pin p (Bt _ (Bl _ hp));obtain⟨oc',od,kV,doc,pm',an,cdv,ct,osl,rfl,lk,hcd⟩:=F.ex;have hz:(Cw a::us).length=ps.length:=by rw[<- hl,rp.length,rv.length];rfl
  have hb':=hb s2 (.ref a::us) I2.kIn (by rw[Fw];exact hz)
  rw[Fw] at hb';have rc2:=qC.mono (sk.trans q1) q2 _ _ rc;have af5:=qP.base q1 q2 af4;have rv2:qL (V.ref a::vs) (Cw a::us):=.cons rfl rv;exact fZ (λz=>hF (nf z)) I3 af5 (XG lk hcd hS (by rw[<- hz];exact rv2.length) hr I3.env0 hb' rv2 (rK (hbody _ G a cv LX cdv X.A X.stack s2 H2 _ C (hr.deeper _)).1 r2 (.cons (by simp only[Rep];exact⟨trivial,rc2⟩) rp) (cL af5)))
end
section
variable {X:Cx}{pins:Aa (Af × Cj)}{σ : _L.St}{H P:Hp}{α : Aa Af}{s:Ag}{S:Sto}
def qAq:DF:=λds S=>match ds with
 |[d,.tup [.ty b,.ty c]]=>if gP b=true/\gP c=true then match tyD d S with
   |some a=>.ok (.bl (vZ a b||vZ a c)) S
   |none=>.bad
  else .bad
 |_=>.bad
def bR:DF:=λds S=>match ds with
 |[.int a,.int b]=>if 0<b/\b<1073741824/\0<=a/\a<2 ^ 62 then .ok (.tup [.int (a/b),.int (a % b)]) S else .bad
 |_=>.bad
theorem ZZ:xA X (.builtin "divmod") bR:=by
 intro pins σ H s P α S vs us ds Q I r rv rp af;cases JR ds with
 |no h=>exact(rG (X:=X) (r:=bR ds S) (h λa b=>if 0<b/\b<1073741824/\0<=a/\a<2 ^ 62 then .ok (.tup [.int (a/b),.int (a % b)]) S else .bad) af).elim
 |of a b ed =>
  subst ed;obtain⟨hb,ok⟩:=xW (show qG X P α (if 0<b/\b<1073741824/\0<=a/\a<2 ^ 62 then .ok (.tup [.int (a/b),.int (a % b)]) S else .bad) (OkV X P α Q) from af)
  obtain⟨v,w,u,x,rfl,rfl,p,p',q,q'⟩:=gV rp rv;cases zT p;cases zT p';obtain⟨t,rfl⟩:=q;obtain⟨t',rfl⟩:=q';have hf:H s.heap.objs.size=none:=I.hok.fresh (Ax _);refine divmod_int om ?_ (.inl (Ti om));have e1:a.fdiv b=a/b:=Qu _ om;have e2:a.fmod b=a % b:=Qv _ om;rw[e1,e2];have I2:=I.laid (a:=s.heap.objs.size) (o:=.tup [.int (a/b),.int (a % b)]) (t':=s.toks+1+1) (λb u e=>Ah _ e) (Ax _) (show zG X.prog X.w _ (s.heap.push { cls:=.type "tuple",data:=.seq #[.int (a/b) s.toks,.int (a % b) (s.toks+1)] }) _ (.tup [.int (a/b),.int (a % b)]) from
   ⟨by show 2<=sizeLine;decide,[.int (a/b) s.toks,.int (a % b) (s.toks+1)],.cons ⟨_,rfl⟩ (.cons ⟨_,rfl⟩ .nil),⟨_,AT _ rfl,rfl,_,rfl⟩⟩)
  obtain⟨r2,sP⟩:=r.pure (o:=.tup [.int (a/b),.int (a % b)]) hf;exact⟨.ref _,_,I2,rfl,ok _ _ _ _ r2 sP (Bg _) (by simp only[Rep];exact⟨_,_,rfl,.inl (.inl qR),.cons (by simp only[Rep]) (.cons (by simp only[Rep]) .nil)⟩)⟩
end
def okV (X:Cx)(i:Ai)(x:Aq):Ar:=decide (X.N[i]? = Ab x)&&(isV (X.env.scope.names.lookup x)&&okN x)
def lG (fe:DE):Aa D->DF:=λcaps ds S=>fe ((ds++caps).map Ab) S
def U4 (sc:Ei)(ps:Aa Aq):Ar:=decide (sc.kind=.function)&&(decide (sc.isCoroutine=false)&&(decide (sc.isGenerator=false)&&(decide (∀ y∈sc.names,y.2≠.cell)&&(decide (∀ x∈ps,sc.names.lookup x=Ab .local)&&decide (∀ x∈xO sc,sc.names.lookup x=Ab .free)))))
structure LmX (G:Aa D->DF)(P:Bc)(w:Bx)(K:Aj)(mg:Aq->Al Ac)(base:Bs)(cm:Ar)(k:Ai)(L:LamT)(n:Ai):Prop where
 get:nJ P w K mg base cm k L n G
structure DfL (g:(Aa D->DF)->Af->Aa V->DS)(P:Bc)(w:Bx)(K:Aj)(mg:Aq->Al Ac)(base:Bs)(cm:Ar)(k kl m:Ai)(x:Aq)(n N:Ai):Prop where
 get:TF P w K mg base cm k kl m x n N g
structure ClA (X:Cx)(L:LamT)(a:Af)(cv:Aa V):Prop where
 get:CloAt X.s₀.heap X.H₀ X.fs L a cv
structure LmK (X:Cx)(y:Aq):Prop where
 get:y∈w8/\kN X.K y X.env.code/\X.env.qual=y ++ ".<locals>." /\ ∃ c T,Ds X.K y=Ab (c,T)
section
variable {X:Cx}{cm nx:Ar}{k kl m n N i:Ai}{x y:Aq}{p pos lpos:Ey}{e:Bw}{es:Aa Bw}{fA:DA}{fe:DE}{L:LamT}{G:Aa D->DF}{a:Af}{cv:Aa V}{g:(Aa D->DF)->Af->Aa V->DS}{Fs:FnL}{cap:Aa Ai}{params:Pj}{body:Bw}{scope:Ei}
theorem SQ (h:Ck (okV X i x)):X.N[i]? = Ab x/\Vis X.env.scope x/\(x == ("__debug__" : Aq))=false/\(x == ("__classdict__" : Aq))=false:=by
 unfold Ck okV at h;simp only[Av,Ce] at h;exact⟨h.1,iB h.2.1,(kH h.2.2).1,(kH h.2.2).2.1⟩
theorem aK (LX:LmX G X.prog X.w X.K X.mg X.base cm k L n)(C:ClA X L a cv)(hr:RoomC cm k X.A)(F:Fn1 X)(h:Ck (okV X i x))(ha:QA X (e::es) fA)(s:St1 X e es pos):QE X (.Call (.Name x p) (e::es) [] pos) (mB i fA a cv n G):=
 have h:=SQ h
 ⟨NG LX.1 hr F C.1 h.1 h.2.1 h.2.2.1 h.2.2.2 ha.1 s.1 s.2⟩
theorem OV {ps:Aa Aq}{q:Aq}(h:Ck (U4 scope ps))(one:ps.length<=1):LamSc ⟨q,params,body,scope⟩ ps:=by
 unfold Ck at h;simp only[U4,Av,Ce] at h;obtain⟨a,b,c,d,e,f⟩:=h;exact⟨a,b,c,d,e,one,f⟩
theorem O8 {z:Aq}(D:DfL g X.prog X.w X.K X.mg X.base cm k (kl+1) 1 x n N)(M:LmK X y)(hr:RoomC cm (k+1) X.A)(hF:nx=false->Fn1 X)(h:Ck (okG X x&&pZ X.env.scope X.N scope cap))(hs:Ck (U4 scope [z]))(hdef:sB params X.env=([],[]))
  (hb:∀ (q:Aq) (b:Bw) (cl:Aa (Aq × Af)) (pm cdv ctv u:Ac),Tj (wS "<lambda>" q params b scope cl pm cdv ctv) ⟨[u],[]⟩=pure [(z,u)])
  (hbody:∀ (cl:Aa (Aq × Af)) (f:Af) (cd:Ac) (A:Bk) (outer:Aa Ie) (s:Ag) (H:Hp) (E:XK),RoomC cm kl (A.deeper (Lh (y ++ ".<locals>." ++ "<lambda>") scope s.heap.objs.size f cd cl)) ->
   QE (U3 cm X.prog X.w X.K X.mg X.base ([z]++xO scope) ⟨y ++ ".<locals>." ++ "<lambda>",params,body,scope⟩ cl f cd A outer s H E) body fe)
  (ha:QA X es fA) (s:St1 X (.Lambda params body scope lpos) es pos):QE X (.Call (.Name x p) (.Lambda params body scope lpos::es) [] pos) (kA nx cap n N fA (g (lG fe))):=by
 unfold Ck at h;rw[Av] at h;obtain⟨m1,m2,m3,c,T,m4⟩:=M.1;have hg:=v3 h.1;exact⟨V1 D.1 (D8 (ps:=[z]) (OV hs (by simp)) (λcl pm cdv ctv us hl=>by cases us with|nil=>cases hl|cons u r=>cases r with|nil=>exact hb _ _ _ _ _ _ u|cons _ _=>cases hl) hbody) hr hF hg.1 hg.2.1 m1 m4 (m2 c T m4) m3 hdef h.2 ha.1 s.1 s.2⟩
theorem ClA.tr {pn:Aa (Af × Cj)}(h:ClA X L a cv):ClA (Cx.tryIn X E pn) L a cv:=⟨h.1⟩
theorem lmK {ls:Aa Aq}(h:(ls.all λy=>(Ds X.K y).isSome)=true)(hc:kN X.K y X.env.code)(hy:Ck (ls.contains y&&w8.contains y))(hq:X.env.qual=y ++ ".<locals>."):LmK X y:=by
 unfold Ck at hy;rw[Av] at hy;obtain⟨⟨c,T⟩,e⟩:=Jt.mp (Bo.mp h y (by simpa using hy.1))
 exact⟨by simpa using hy.2,hc,hq,c,T,e⟩
theorem JT:ZCall X (.builtin "divmod") bR:=⟨ZZ⟩
end
section
variable {P:Bc}{w:Bx}{K:Aj}{mg:Aq->Al Ac}{base:Bs}{cm:Ar}{tp:Ai->Fq}{tab:Aa (Aq × Ai × Aa Aq)}{bl:Aa Aq}{clt plt:Aa (Aq × Af)}{cs:Aa Ac}{exl:Aa Af}{cst:Aa (Aq × Ak)}{x:Aq}{i:Ai}{ps:Aa Aq}{N:Ai}
theorem dqL {g:(Aa D->DF)->Af->Aa V->DS}(P:Bc)(w:Bx)(base:Bs)(k kl m j:Ai)(T:TxS K mg tp tab bl clt plt cs exl cst)(hj:tab[j]? = Ab (x,i,ps))(h:Ck (fnB (jP (qF (tp i))) ps (qF (tp i))&&decide ((jP (qF (tp i))).length=N)))
  (hb:∀ (L:LamT) (G:Aa D->DF) (a:Af) (cv:Aa V),LmX G P w K mg base cm kl L m->∀ (f:Af) (cdv:Ac) (A:Bk) (outer:Aa Ie) (s:Ag) (H:Hp) (E:XK),ClA (cxC cm P w K mg base (jP (qF (tp i))) x (qF (tp i)) f cdv A outer s H E) L a cv->RoomC cm k (A.deeper (Gb x (qF (tp i)) s.heap.objs.size f cdv)) ->
   QB (cxC cm P w K mg base (jP (qF (tp i))) x (qF (tp i)) f cdv A outer s H E) (zJ (tp i)) (g G a cv)):DfL g P w K mg base cm k kl m x ps.length N:=by
 unfold Ck at h;simp only[Av,Ce] at h;obtain⟨h,rfl⟩:=h;obtain⟨f,fd,hm,F,hbd⟩:=T.src j hj;exact⟨f,fd,tp i,_,ps,rfl,rfl,hm,F,hbd,eJ h,λL G a cv LX cdv A outer s H E C hr=>hb L G a cv ⟨LX⟩ f cdv A outer s H E ⟨C⟩ hr⟩
end
def cJ:D->Sto->Al (Aa D)
 |.lst xs,_=>Ab xs
 |.tup xs,_=>Ab xs
 |.loc n,S=>match S[n]? with
  |some (.lst xs)=>Ab xs
  |_=>none
 |_,_=>none
section
variable {X:Cx}{pins:Aa (Af × Cj)}{σ : _L.St}{H P:Hp}{α : Aa Af}{S:Sto}{s:Ag}
theorem a9 {K:Type}{is:K->Ac->Prop}{hash:K->Ak}{lt':K->K->Ar}{d:K}{Fit:K->Prop}(kd:_S.Kind X.prog X.w is hash lt' d Fit s.heap)(ad:_S.AddS X.prog X.w is hash s.heap)(hc:X.calm=true)(hu:X.A.units+64<Ee)(I:Inv X pins σ H s)(r:Rel X.K H P α S){a:Af}{its:Aa Ac}
  (ha:s.heap.IsList a its.toArray\/s.heap.IsTuple a its.toArray) (ks:Aa K) (hl:ks.length=its.length) (hk:∀ i v,its[i]? = Ab v->is (ks.getD i d) v) (hn:(_S.srt lt' ks).length<=1000) (hf:∀ k∈ks,Fit k) (enc:K->D)
  (back:∀ k v,is k v->v∈its->∃ vv,qJ vv v/\Rep X.K P α (enc k) vv) {E:Ac->Ag->Prop} :
  Ap (As X.prog X.w) X.A (call (.type "set") [.ref a]) (λu s1=>Ap (As X.prog X.w) X.A (call (.builtin "sorted") [u]) (NewR X pins σ H P α ((_S.srt lt' ks).map enc)) E s1) E s:=by
 have hsz:its.toArray.size=ks.length:=by rw[Bz,hl]
 have mem:∀ k,k∈_S.srt lt' ks↔k∈ks:=λk=>_S.uC kd.ord k ks;have inn:∀ i,i<ks.length->ks.getD i d∈ks:=λi hi=>by simp[Hb,hi]
 refine _S.Q3 (U:=_S.srt lt' ks) ad (I.ok.hd hc) li ha (λi=>ks.getD i d) (λi v hv=>hk i v (by simpa using hv)) li (λi hi=>(mem _).mpr (inn i (by rw[<- hsz];exact hi))) λh1 tk1 Z kp=>?_
 have seen:∀ k∈_S.wX (λi=>ks.getD i d) its.toArray.size,k∈ks:=λk hk'=>by
  obtain⟨i,hi,rfl⟩:=_S.jG.mp hk';exact inn i (by rw[<- hsz];exact hi)
 have I1:Inv X pins σ H { s with heap:=h1,toks:=tk1 }:=I.kept kp
 refine _S.ZE (s:={ s with heap:=h1,toks:=tk1 }) kd (I.ok.hd hc) li kp Z (λk hk'=>hf k (seen k hk')) (U:=_S.srt lt' ks) li (λk hk'=>(mem k).mpr (seen k hk')) λh2 tk2 D c ps kp2 hD hob hps hp hpl=>?_
 rw[hsz,JL kd.ord] at hps;have vv:∀ (ps:Aa (K × Ac)),(∀ p∈ps,is p.1 p.2/\p.2∈its)->∃ vs,qL vs (ps.map (·.2))/\qC X.K P α ((ps.map (·.1)).map enc) vs:=by
  intro ps
  induction ps with
  |nil=>exact λ_=>⟨[],.nil,.nil⟩
  |cons p ps ih =>
   intro h;obtain⟨vs,a1,a2⟩:=ih λq hq=>h q (by simp[hq])
   obtain⟨v,b1,b2⟩:=back p.1 p.2 (h p (by simp)).1 (h p (by simp)).2
   exact⟨v::vs,.cons b1 a1,.cons b2 a2⟩
 obtain⟨vs,a1,a2⟩:=vv ps λp hpm=>by simpa using hp p hpm
 rw[hps] at a2;have nd:([(D,HO.lst vs)].map (·.1)).Nodup:=by simp
 have I2:Inv X pins σ (jQ H [(D,HO.lst vs)]) { s with heap:=h2,toks:=tk2 }:=Inv.laidL (s:={ s with heap:=h1,toks:=tk1 }) (L:=[(D,HO.lst vs)]) (t':=tk2) I1 kp2 (λp hpm=>by
  have:p=(D,HO.lst vs):=by simpa using hpm
  subst this;exact hD) λp hpm=>by
  have:p=(D,HO.lst vs):=by simpa using hpm
  subst this;refine⟨?_,ps.map (·.2),c,a1,hob⟩
  have:=a1.length;rw[Au] at this;rw[this,Fg]
  lia
 exact⟨D,vs,rfl,I1.hok.fresh hD,I2,a2⟩
set_option tactic.hygienic true in
theorem MC {d:D}{xs:Aa D}{v:V}{vv:Ac}(I:Inv X pins σ H s)(r:Rel X.K H P α S)(p:Rep X.K P α d v)(q:qJ v vv)(h:cJ d S=Ab xs) :
  ∃ a vs its,vv=.ref a/\qC X.K P α xs vs/\qL vs its/\(s.heap.IsList a its.toArray\/s.heap.IsTuple a its.toArray)/\xs.length=its.length:=by
 cases d with
 |lst ys=>exact nD I r p q h
 |tup ys=>exact nD I r p q h
 |loc n =>
  have hS:S[n]? = Ab (.lst xs):=by
   have h:(match S[n]? with|some (.lst xs)=>Ab xs|_=>none)=Ab xs:=h
   split at h
   .rename_i e;cases h;exact e
   .cases h
  simp only[Rep] at p;obtain⟨a,rfl,ha⟩:=p;cases (show vv=Cw a from q)
  obtain⟨vs,z,t⟩:=r.at' n a _ ha hS;obtain⟨its,rv,p,hz⟩:=I.list (SqL.of z);exact⟨a,vs,its,rfl,t,rv,.inl p.isList,by rw[t.length,rv.length]⟩
 |_=>cases h
end
def Iti (a:Af)(o:Cj)(vs:Aa (Key × V)):It:=
 ⟨λi H=>(∃ u,H a=Ab (.frz o u))/\i<vs.length,λi H v H'=>∃ T q,v=.ref T/\H T=none/\H'=upd H T (.tup [kV q.1,q.2])/\vs[i]? = Ab q,λi H=>(∃ u,H a=Ab (.frz o u))/\vs.length<=i⟩
theorem ZK {P:Bc}{w:Bx}{K:Aj}{elts:Aa Bw}{x1:Ai}{tpos:Ey}{a it:Af}{o:Cj}{us:Aa (Key × Ac)}{ep:Ai}(kv:KV vs us)(at':∀ h:Bs,h.get? a=Ab o->h.DictAt (zH P w) a us ep) :
  Turn P w K (.Tuple elts x1 tpos) (Iti a o vs) [it] it (λi h=>∃ ok ov,IsItemIter h it a i us.length ep ok ov) where
 mem:=by simp
 obj:=λi h st b hb=>by
  have e:b=it:=by simpa using hb
  subst e;obtain⟨ok,ov,e⟩:=st;exact⟨_,e,λv z=>by cases z⟩
 keep:=λi h h' st k=>by
  obtain⟨ok,ov,e⟩:=st;exact⟨ok,ov,k it (by simp) _ e⟩
 item:=by
  intro X hP hw hK hc i pins s σ H E I hf st hg;subst hP hw hK;obtain⟨⟨u0,hu⟩,hlt⟩:=hg;obtain⟨ok,ov,st⟩:=st;have ho:s.heap.get? a=Ab o:=(I.hok a _ hu).1;obtain⟨u,e1,e2⟩:=XW kv (Am hlt);refine wpAny_pyNext_items_item st (at' _ ho) e1 λkey h' hk a1 a2 a3 a4=>?_;refine⟨_,rfl,wpAny_letOwnedTupleGo_items (s:={ s with heap:=h' }) a1 λh2 b1 b2=>?_⟩
  have up:∀ c o,c≠it->h'.get? c=Ab o->h2.get? c=Ab o:=λc o n q=>(b2.2 c n).trans q;have el:it<s.heap.objs.size:=Ay st;have T2:=up _ _ (Fv el) a2;refine⟨.ref s.heap.objs.size,upd H s.heap.objs.size (.tup [kV (vs[i]).1,(vs[i]).2]),?_,rfl,⟨_,vs[i],rfl,I.hok.fresh (Ax _),rfl,Am hlt⟩,⟨_,_,b1⟩,λc hc=>?_⟩
  .have:=Inv.turnLay (s:=s) (fp:=[it]) (its:=[key,u]) (h':=h2) (xs:=[kV (vs[i]).1,(vs[i]).2]) I hf (λc o hc q=>by
    have hc:c≠it:=by simpa using hc
    exact up c o hc (a4 c o hc q)) (λc hc=>by
    have:c=it:=by simpa using hc
    subst this;exact⟨_,b1⟩) (Ax _) (.cons (CB hk) (.cons e2 .nil)) ⟨_,T2,rfl,_,rfl⟩ (by show 2<=sizeLine;decide)
   exact this
  .have hn:=(hf c hc).1
   rw[qH ?_]
   .exact hn
   .rintro rfl
    have:s.heap.objs.size=it:=by simpa using hc
    rw[this] at el;exact absurd el (Du _)
 done:=by
  intro X hP hw hK hc i pins s σ H E I hf st hg;subst hP hw hK;obtain⟨⟨u0,hu⟩,hle⟩:=hg;obtain⟨ok,ov,st⟩:=st;have ho:s.heap.get? a=Ab o:=(I.hok a _ hu).1;obtain⟨f0,f1,f2,f3,f4,f5⟩:=hf it (by simp)
  have hl:=kv.length;exact wpAny_pyNext_items_end (I.ok.hd hc) st (at' _ ho) (by simp;lia) λh' eb=>⟨rfl,I.turned (t':=s.toks) (λb o hb e=>eb b o hb e) f0 f1 f3 f4 f5⟩
 self:=λ_ _ _ _ _ st h=>by
  obtain⟨ok,ov,st⟩:=st;exact PySem.W.kcp_self st h
def l9 (kvs:Aa (Key × D)):Aa D:=kvs.map λp=>D.tup [kD p.1,p.2]
def t7 (f:DE):DI:=λenv S=>(f env S).bind λd S1=>match d with
 |.loc n=>match S1[n]? with
  |some (.dct kvs)=>.ok (l9 kvs) (S1.set n .dead)
  |_=>.bad
 |_=>.bad
theorem iI {K:Aj}{P:Hp}{α:Aa Af}:∀ {kvs:Aa (Key × D)} {vs:Aa (Key × V)},KVs K P α kvs vs->∀ {i:Ai} {q:Key × D},kvs[i]? = Ab q->∃ v,vs[i]? = Ab (q.1,v)/\Rep K P α q.2 v
 |_,_,.nil,i,q,h=>by simp at h
 |_,_,.cons (a:=x) (b:=y) z t,i,q,h=>by
  cases i with
  |zero =>
   simp at h;subst h;exact⟨y.2,by simp;exact Wg z.1.symm rfl,z.2⟩
  |succ i =>
   obtain⟨v,e1,e2⟩:=iI t (i:=i) (q:=q) (by simpa using h)
   exact⟨v,by simpa using e1,e2⟩
theorem XR {K:Aj}{P:Hp}{α:Aa Af}{a:Af}{o:Cj}{u:HO}{kvs:Aa (Key × D)}(q:P a=Ab (.frz o u))(t:KVs K P α kvs vs)(hl:kvs.length=vs.length):ItD K (Iti a o vs) P α (l9 kvs) where
 go:=λi H P1 α1 S hi r e _=>⟨⟨u,r.sub _ _ (e _ _ q)⟩,by unfold l9 at hi;rw[Au] at hi;lia⟩
 yld:=λi H x H' P1 α1 S hi r e e2 y=>by
  obtain⟨T,p,rfl,hT,rfl,hp⟩:=y;unfold l9 at hi;rw[Au] at hi;obtain⟨v,h1,h2⟩:=iI t (Am hi);rw[hp] at h1;cases h1;obtain⟨r1,s1⟩:=r.pure (o:=.tup [kV (kvs[i]).1,v]) hT;refine⟨_,.tup [kD (kvs[i]).1,(kvs[i]).2],?_,r1,s1,?_⟩
  .unfold l9;rw[Cg,Am hi];rfl
  .exact fE (.of qR) (.cons (LZ _) (.cons (Rep.mono (e.trans s1) e2 _ _ h2) .nil))
 stop:=λi H P1 α1 S hi r e _=>⟨⟨u,r.sub _ _ (e _ _ q)⟩,by unfold l9 at hi;rw[Au] at hi;lia⟩
section
variable {X:Cx}{o:Bw}{fo:DE}{apos cpos:Ey}{elts:Aa Bw}{x1:Ai}{tpos:Ey}
set_option tactic.hygienic true in
theorem V6 (ho:PE X o (tD X fo))(hbase:Rp o "items" X.env (eval o X.env)=eval o X.env:=by rfl)(hline:(apos.endLine == cpos.line)=true:=by rfl):PI X (.Tuple elts x1 tpos) (.Call (.Attribute o "items" apos) [] [] cpos) (tDI X (t7 fo)):=by
 intro pins s σ H R I h;obtain⟨P,α,env,S,r,re,af⟩:=h;refine wpAny_Call_method0_late hbase hline (thn (zN ho I r re af) λvv s1 ⟨v,H1,P1,α1,d,S1,G1,af1⟩=>?_);cases d with
 |loc n =>
  simp only at af1
  split at af1
  .rename_i kvs hS
   have rp:=G1.rep;have I1:=G1.inv;have r1:=G1.rel;have ht:tyD (.loc n) S1=Ab "dict":=cP hS;obtain⟨h1,h2⟩:=Y8 I1 G1.val (Y9 r1 rp ht (by simp))
   simp only[Rep] at rp;obtain⟨a,rfl,ha⟩:=rp;cases (show vv=Cw a from G1.val)
   obtain⟨vs,z,t⟩:=r1.at' n a _ ha hS;obtain⟨hz,hd,us,rel,dd⟩:=tB I1.hok z;refine⟨"dict","dict.items",Nd,Te,PySem.F.type_dict_items,h1,h2,To rfl (PySem.evalArgs_none ?_)⟩;refine call_meetsIn Te dd.typeIs PySem.F.entry_dict_items (PySem.F.args_dict_items_1 _) (meets_dict_items (zH X.prog X.w) a hd) ⟨⟨us,dd⟩,?_⟩;obtain⟨ep,oa,es,hoa,rest⟩:=dd.dictAt;have at':∀ h:Bs,h.get? a=Ab oa->h.DictAt (zH X.prog X.w) a us ep:=λh e=>⟨oa,es,e,rest⟩;obtain⟨r2,e2⟩:=r1.still (o:=.frz oa (.dK vs)) ha hS (by intro q;cases q)
   have I2:Inv X pins σ (upd H1 a (.frz oa (.dK vs))) { s1 with heap:=s1.heap,toks:=s1.toks }:=I1.write (x:=a) (e:=a) (by rw[z];exact Jg) (.inl rfl) (λb q hb e=>e) ⟨oa,hoa⟩ ⟨hoa,hz,hd,us,rel,dd⟩
   have I3:=I2.kept (t':=s1.toks) (h':=s1.heap.push { cls:=.type "dict_items",data:=.fields #[.ref a] }) λb u e=>Ah _ e;refine wpAny_pyIter_items (s:={ s1 with heap:=s1.heap.push { cls:=.type "dict_items",data:=.fields #[.ref a] } }) (knd:=zH X.prog X.w) (d:=a) (kvs:=us) (ep:=ep) ⟨_,AT _ rfl,rfl,rfl⟩ (at' _ (Ah _ hoa)) ?_
   have I4:=I3.kept (t':=s1.toks) (h':=(s1.heap.push { cls:=.type "dict_items",data:=.fields #[.ref a] }).push { cls:=.type "dict_itemiterator",data:=.fields #[.none,.bool false,.ref a,.int 0 0,.int us.length 0,.int ep 0,.none,.none] }) λb u e=>Ah _ e;refine⟨_,[_],_,_,_,rfl,I4,ZK rel at',⟨_,_,AT _ rfl⟩,λb hb=>?_,af1 _ _ _ α1 r2 (G1.same.trans e2) G1.pre (XR (u:=.dK vs) qR (KVs.mono e2 (Bg _) t) (by have:=iK t;have:=this.length;simpa using this))⟩
   have e:b=(s1.heap.push { cls:=.type "dict_items",data:=.fields #[.ref a] }).objs.size:=by simpa using hb
   subst e;exact I3.fpOk (Ax _) (I3.hok.fresh (Ax _))
  .exact Ao af1
 |_=>exact Ao af1
theorem UX (ho:QE X o fo)(hbase:Rp o "items" X.env (eval o X.env)=eval o X.env:=by rfl)(hline:(apos.endLine == cpos.line)=true:=by rfl):QI X (.Tuple elts x1 tpos) (.Call (.Attribute o "items" apos) [] [] cpos) (t7 fo):=⟨V6 ho.1 hbase hline⟩
def l5:G2:=λa b S=>match a,b with
 |.bl x,.bl y=>.ok (.bl (x != y)) S
 |_,_=>.bad
theorem WM:OpD X (Ct .IsNot) l5:=by
 intro pins σ H s P α S v u vv uu a b Q I r rv ru pa pb af;cases a with
 |bl x =>
  cases b with
  |bl y =>
   simp only[Rep] at pa pb;subst pa pb;cases (show vv=Ic x from rv)
   cases (show uu=Ic y from ru)
   have h:EP X pins σ Q (.bool (x != y)) s:=⟨.bl _,H,I,rfl,xr af r (by simp only[Rep])⟩
   cases x <;> cases y <;> exact An h
  |_=>exact Ao af
 |_=>exact Ao af
theorem JU:ZOp X (Ct .IsNot) l5:=⟨WM⟩
end
end _D
section
namespace _D
open PySem PySem.Spec PyProof.Rows _L
mutual
def qZ:D->Aa Ak
 |.int n=>[1,n]
 |.tup xs=>2::qX xs
 |_=>[]
def qX:Aa D->Aa Ak
 |[]=>[0]
 |x::xs=>qZ x++qX xs
end
mutual
def wJ:D->D->Ar
 |.int _,.int _=>true
 |.tup xs,.tup ys=>wU xs ys
 |_,_=>false
def wU:Aa D->Aa D->Ar
 |x::xs,y::ys=>wJ x y&&wU xs ys
 |_,_=>true
end
def ltN (a b:D):Ar:=_H.lexLt (qZ a) (qZ b)
def trb:Ai->D->Ar
 |_,.int _=>true
 |n+1,.tup xs=>xs.all (trb n)
 |_,_=>false
inductive Tr:Ai->D->Prop
 |int (n:Ai) (i:Ak):Tr n (.int i)
 |tup (n:Ai) (xs:Aa D) (h:∀ x∈xs,Tr n x):Tr (n+1) (.tup xs)
theorem IA:∀ {n:Ai} {d:D},trb n d=true->Tr n d:=by
 intro n
 induction n with
 |zero=>intro d h;cases d <;> first|exact .int _ _|exact Dg h
 |succ n ih =>
  intro d h;cases d with
  |int i=>exact .int _ i
  |tup xs=>exact .tup n xs λx hx=>ih (Bo.mp (show xs.all (trb n)=true from h) x hx)
  |_=>exact Dg h
theorem yT {n:Ai}{d:D}(h:Tr n d):∃ k r,qZ d=k::r/\0<k:=by
 cases h with
 |int _ i=>exact⟨1,[i],rfl,by decide⟩
 |tup n xs=>exact⟨2,qX xs,rfl,by decide⟩
theorem zQ (x:D)(xs:Aa D):qX (x::xs)=qZ x++qX xs:=rfl
theorem dU:∀ {xs ys:Aa D} {n m:Ai},(∀ x∈xs,Tr n x)->(∀ y∈ys,Tr m y)->(∀ x∈xs,∀ y∈ys,wJ x y=true->∀ r r':Aa Ak,_H.lexLt (qZ x++r) (qZ y++r')=if eqD x y=true then _H.lexLt r r' else ltN x y)->wU xs ys=true ->
  ∀ r r':Aa Ak,_H.lexLt (qX xs++r) (qX ys++r')=if zO xs ys=true then _H.lexLt r r' else _H.lexLt (qX xs) (qX ys)
 |[],[],_,_,_,_,_,_,r,r'=>rfl
 |[],y::ys,_,_,_,h2,_,_,r,r'=>by
  obtain⟨k,t,e,p⟩:=yT (h2 y (by simp))
  rw[Bb (by intro z;cases z),zQ,e]
  show _H.lexLt (0::r) (k::_)=_H.lexLt [0] (k::_);rw[_H.lexLt_cons,_H.lexLt_cons,Bb om,Bb om]
 |x::xs,[],_,_,h1,_,_,_,r,r'=>by
  obtain⟨k,t,e,p⟩:=yT (h1 x (by simp))
  rw[Bb (by intro z;cases z),zQ,e]
  show _H.lexLt (k::_) (0::r')=_H.lexLt (k::_) [0];rw[_H.lexLt_cons,_H.lexLt_cons,Bb om,Bb om]
 |x::xs,y::ys,_,_,h1,h2,h3,hc,r,r'=>by
  have hc':(wJ x y&&wU xs ys)=true:=hc;rw[Av] at hc';have ih:=dU (λz hz=>h1 z (by simp[hz])) (λz hz=>h2 z (by simp[hz])) (λz hz y' hy=>h3 z (by simp[hz]) y' (by simp[hy])) hc'.2
  rw[zQ,zQ,Cf,Cf,h3 x (by simp) y (by simp) hc'.1,h3 x (by simp) y (by simp) hc'.1,ih,jB]
  cases eqD x y <;> cases zO xs ys <;> simp
theorem U9 {n:Ai}{a:D}(ha:Tr n a):∀ {m:Ai} {b:D},Tr m b->wJ a b=true->∀ r r':Aa Ak,_H.lexLt (qZ a++r) (qZ b++r')=if eqD a b=true then _H.lexLt r r' else ltN a b:=by
 induction ha with
 |int n i =>
  intro m b hb hc r r';cases hb with
  |int _ j =>
   show _H.lexLt (1::i::r) (1::j::r')=if (i == j)=true then _ else _H.lexLt [1,i] [1,j]
   simp only[_H.lexLt_cons,Dp,Lw]
   split <;> rfl
  |tup _ ys=>exact Dg hc
 |tup n xs hx ih =>
  intro m b hb hc r r';cases hb with
  |int _ j=>exact Dg hc
  |tup m ys hy =>
   have h:=dU hx hy (λx hx' y hy' hc'=>ih x hx' (hy y hy') hc') hc r r';show _H.lexLt (2::(qX xs++r)) (2::(qX ys++r'))=if zO xs ys=true then _ else _H.lexLt (2::qX xs) (2::qX ys)
   rw[_H.lexLt_cons,_H.lexLt_cons,Bf rfl,Bf rfl,h]
theorem f6 {xs ys:Aa D}:ltN (.tup xs) (.tup ys)=_H.lexLt (qX xs) (qX ys):=by
 show _H.lexLt (2::_) (2::_)=_;rw[_H.lexLt_cons,Bf rfl]
theorem vP {n m:Ai}{x y:D}{xs ys:Aa D}(hx:Tr n x)(hy:Tr m y)(hc:wJ x y=true):_H.lexLt (qX (x::xs)) (qX (y::ys))=if eqD x y=true then _H.lexLt (qX xs) (qX ys) else ltN x y:=U9 hx hy hc _ _
set_option tactic.hygienic true in
theorem bZ (i j:Ak):ltN (.int i) (.int j)=decide (i<j):=by
 show _H.lexLt [1,i] [1,j]=_;rw[_H.lexLt_cons,Bf rfl,_H.lexLt_cons]
 split
 .rename_i h;subst h;simp[_H.lexLt_nil_nil]
 .rfl
theorem dH:∀ {xs ys:Aa D} {n m:Ai},(∀ x∈xs,Tr n x)->(∀ y∈ys,Tr m y)->(∀ x∈xs,∀ y∈ys,∀ r r':Aa Ak,qZ x++r=qZ y++r'->x=y/\r=r')->∀ r r':Aa Ak,qX xs++r=qX ys++r'->xs=ys/\r=r'
 |[],[],_,_,_,_,_,r,r',e=>⟨rfl,by injection e⟩
 |[],y::ys,_,_,_,h2,_,r,r',e=>by
  obtain⟨k,t,e',p⟩:=yT (h2 y (by simp))
  rw[zQ,e'] at e;injection e with e1 e2
  omega
 |x::xs,[],_,_,h1,_,_,r,r',e=>by
  obtain⟨k,t,e',p⟩:=yT (h1 x (by simp))
  rw[zQ,e'] at e;injection e with e1 e2
  omega
 |x::xs,y::ys,_,_,h1,h2,h3,r,r',e=>by
  rw[zQ,zQ,Cf,Cf] at e;obtain⟨e1,e2⟩:=h3 x (by simp) y (by simp) _ _ e
  obtain⟨e3,e4⟩:=dH (λz hz=>h1 z (by simp[hz])) (λz hz=>h2 z (by simp[hz])) (λz hz y' hy=>h3 z (by simp[hz]) y' (by simp[hy])) _ _ e2
  exact⟨by rw[e1,e3],e4⟩
theorem X2 {n:Ai}{a:D}(ha:Tr n a):∀ {m:Ai} {b:D},Tr m b->∀ r r':Aa Ak,qZ a++r=qZ b++r'->a=b/\r=r':=by
 induction ha with
 |int n i =>
  intro m b hb r r' e;cases hb with
  |int _ j=>injection e with _ e;injection e with e1 e2;exact⟨by rw[e1],e2⟩
  |tup _ ys=>injection e with e _;cases e
 |tup n xs hx ih =>
  intro m b hb r r' e;cases hb with
  |int _ j=>injection e with e _;cases e
  |tup m ys hy =>
   injection e with _ e
   obtain⟨e1,e2⟩:=dH hx hy (λx hx' y hy'=>ih x hx' (hy y hy')) r r' e;exact⟨by rw[e1],e2⟩
theorem kT {n m:Ai}{a b:D}(ha:Tr n a)(hb:Tr m b)(e:qZ a=qZ b):a=b:=(X2 ha hb [] [] (by rw[e])).1
theorem XE {n:Ai}{a:D}(ha:Tr n a):eqD a a=true:=by
 induction ha with
 |int n i=>show (i == i)=true;simp
 |tup n xs _ ih =>
  show zO xs xs=true;rw[vB];simp only[Sx,BEq.rfl,Om,Bo,Ed];intro j hj;exact ih _ (by simp[Hb,hj])
theorem kS:∀ {xs ys:Aa D},wU xs ys=true->∀ {j:Ai} {x y:D},xs[j]? = Ab x->ys[j]? = Ab y->wJ x y=true
 |[],_,_,j,x,y,e,_=>by simp at e
 |_::_,[],_,j,x,y,_,e=>by simp at e
 |a::xs,b::ys,h,j,x,y,e1,e2=>by
  have h':(wJ a b&&wU xs ys)=true:=h;rw[Av] at h';cases j with
  |zero=>cases e1;cases e2;exact h'.1
  |succ j=>exact kS h'.2 (j:=j) (by simpa using e1) (by simpa using e2)
theorem DH {a b c:D}(h1:ltN a b=false)(h2:ltN b c=false):ltN a c=false:=by
 cases h:ltN a c with
 |false=>rfl
 |true =>
  rcases _S.xG.tri h2 with e|e
  .exact absurd (show ltN a b=true by unfold ltN at *;rw[e];exact h) (by rw[h1];simp)
  .exact absurd (show ltN a b=true from _S.xG.tr h e) (by rw[h1];simp)
def bH (xs:Aa D):Aa D:=_S.xS ltN xs
theorem bI (xs:Aa D):(bH xs).Perm xs:=_S.w4 xs
theorem sF (xs:Aa D):(bH xs).map qZ=_S.xS _H.lexLt (xs.map qZ):=by
 refine _S.f9 _S.xG ?_ (_S.fG _S.xG _) (((bI xs).map qZ).trans (_S.w4 _).symm);unfold _S.Nf;rw[Df];have:=Ta (le:=λa b=>!ltN b a) (λa b c h1 h2=>?_) (λa b=>?_) xs
 .exact this.imp λ{a b} h=>show ltN b a=false by simpa using h
 .simp only[Ku] at *
  exact DH h2 h1
 .cases h:ltN b a with
  |false=>simp
  |true =>
   cases h':ltN a b with
   |false=>simp[h']
   |true=>exact absurd (_S.xG.tr h h') (by rw[_S.xG.irr];simp)
theorem BS {xs ys:Aa D}(h:∀ x∈xs,∀ y∈ys,qZ x=qZ y->x=y)(e:xs.map qZ=ys.map qZ):xs=ys:=by
 induction xs generalizing ys with
 |nil=>cases ys with
  |nil=>rfl
  |cons y ys=>cases e
 |cons x xs ih =>
  cases ys with
  |nil=>cases e
  |cons y ys =>
   injection e with e1 e2
   rw[h x (by simp) y (by simp) e1,ih (λa ha b hb=>h a (by simp[ha]) b (by simp[hb])) e2]
theorem MG {n:Ai}{xs ys:Aa D}(h:∀ x∈xs,Tr n x)(p:ys.Perm xs)(s:ys.Pairwise λa b=>ltN b a=false):bH xs=ys:=by
 refine BS (λa ha b hb=>kT (h a ((bI xs).mem_iff.mp ha)) (h b (p.mem_iff.mp hb))) ?_;rw[sF];refine _S.f9 _S.xG (_S.fG _S.xG _) ?_ ((_S.w4 _).trans (p.map qZ).symm);unfold _S.Nf;rw[Df];exact s
end _D
end
namespace _D
open PySem PySem.Spec PyProof.Rows _L PySem.SeqAt
variable {xs:Aa D}{n:Ai}{A:Bk}{h:Bs}
def oQ (A:Bk)(s:Ag)(u v:Ac)(c:Ar):Prop:=∀ (prog:Bc) (w:Bx) (E:Ac->Ag->Prop) (Q:Ac->Ag->Prop),Q (.bool c) s->Ap (As prog w) A (Yr .Lt u v) Q E s
inductive LexV (A:Bk)(s:Ag):Aa Ac->Aa Ac->Ar->Prop
 |nn:LexV A s [] [] false
 |nc (v:Ac) (vs:Aa Ac):LexV A s [] (v::vs) true
 |cn (u:Ac) (us:Aa Ac):LexV A s (u::us) [] false
 |eq (u v:Ac) (us vs:Aa Ac) (b:Ar) (he:EqAt A s u v true) (h:LexV A s us vs b):LexV A s (u::us) (v::vs) b
 |ne (u v:Ac) (us vs:Aa Ac) (b:Ar) (he:EqAt A s u v false) (h:oQ A s u v b):LexV A s (u::us) (v::vs) b
section
open PySem.SeqAt
open PySem.AutoSeq1 (wpAny_loadPart')
open PySem.MeetsSeq PySem.MeetsSeq2 PySem.MeetsSeq3
theorem ZJ (l b:Af)(items items2:Aw Ac)(n n2:Ai)(dd dd2:Al Af)(sl sl2:Aw (Al Ac))(r:Ar) :
  Meets (Ik.«tuple.__lt__» ⟨[.ref l,.ref b],[]⟩)
   (λA R s=>s.heap.get? l=Ab { cls:=.type "tuple",dict:=dd,data:=.seq items n,slots:=sl } /\ s.heap.get? b=Ab { cls:=.type "tuple",dict:=dd2,data:=.seq items2 n2,slots:=sl2 } /\
    LexV A.in1 s items.toList items2.toList r/\R (.ok (.ret (.bool r))) s):=
 .of_wp λprog w A R s h=>by
  obtain⟨hp,g,d,tk,os⟩:=s;obtain⟨hl,hb,hx,h⟩:=h;have f2:=Ml
  wp_walk using wpAny_loadPart' hl,wpAny_loadPart' hb,Hk _ (λrest b s'=>b.1=none/\s'=⟨hp,g,d,tk,os⟩/\∃ (us vs:Aa Ac),rest=us.zip vs/\LexV A.in1 ⟨hp,g,d,tk,os⟩ us vs r/\us.length+items2.size=vs.length+items.size) _
  case turn =>
   rintro⟨y,x⟩ rest b s' ⟨hb',rfl,us,vs,hz,hx',hlen⟩;cases hx' with
   |nn=>cases hz
   |nc v vs=>cases hz
   |cn u us=>cases hz
   |eq u v us vs _ he h' =>
    rw[Gp] at hz;injection hz with hyx hrest
    injection hyx with hy hx
    subst hy hx;refine Ad (he prog w _ _ ?_)
    wp_walk
    exact⟨rfl,rfl,_,_,hrest,h',by simp only[By] at hlen;omega⟩
   |ne u v us vs _ he h' =>
    rw[Gp] at hz;injection hz with hyx hrest
    injection hyx with hy hx
    subst hy hx;refine Ad (he prog w _ _ ?_);have hri:=h' prog w
    wp_walk using hri
    exact⟨_,rfl,by simpa using h⟩
  case fin =>
   rintro⟨b1,b2⟩ s' ⟨hb',rfl,us,vs,hz,hx',hlen⟩;simp only at hb';subst hb';have hv:r=decide (items.size<items2.size):=by
    cases hx' with
    |nn=>simp only[Ec] at hlen;exact(Cb om).symm
    |nc v vs=>simp only[Ec,By] at hlen;exact(Cd om).symm
    |cn u us=>simp only[Ec,By] at hlen;exact(Cb om).symm
    |eq u v us vs _ he h'=>cases hz
    |ne u v us vs _ he h'=>cases hz
   rw[hv] at h
   wp_walk
   exact⟨_,rfl,by simpa [Jw] using h⟩
  case h =>
   exact⟨rfl,rfl,items.toList,items2.toList,rfl,hx,by simp;omega⟩
end
theorem UD {s:Ag}{l b:Af}{items items2:Aw Ac}{r:Ar}(hl:s.heap.IsTuple l items)(hb:s.heap.IsTuple b items2)(hu:A.units<Ee)(h:LexV A.in1 s items.toList items2.toList r):oQ A s (.ref l) (.ref b) r:=by
 intro prog w E Q hQ;obtain⟨⟨cls,dd,data,sl⟩,ho,hc,n,hd⟩:=id hl;obtain⟨⟨cls2,dd2,data2,sl2⟩,ho2,hc2,n2,hd2⟩:=id hb;simp only at hc hd hc2 hd2;subst hc hd hc2 hd2;exact Nu (op:=.Lt) ⟨_,ho,rfl⟩ ⟨_,ho2,rfl⟩ Ue Tk (Sw _ _) (ZJ l b items items2 n n2 dd dd2 sl sl2 r)
  ⟨ho,ho2,h,show Ic r≠Pb/\Q (.bool r) s from⟨(λx=>nomatch x),hQ⟩⟩ hu
inductive TrV (h:Bs):Ai->D->Ac->Prop
 |int (n:Ai) (i:Ak) (t:Qf):TrV h n (.int i) (.int i t)
 |tup (n:Ai) (a:Af) (xs:Aa D) (its:Aa Ac) (ht:h.IsTuple a its.toArray) (hl:xs.length=its.length) (hs:∀ (j:Ai) (x:D) (v:Ac),xs[j]? = Ab x->its[j]? = Ab v->TrV h n x v):TrV h (n+1) (.tup xs) (.ref a)
theorem TrV.tr {d:D}{v:Ac}(t:TrV h n d v):Tr n d:=by
 induction t with
 |int n i t=>exact .int n i
 |tup n a xs its ht hl hs ih =>
  refine .tup n xs λx hx=>?_;obtain⟨j,hj,e⟩:=Cc.mp hx;exact ih j x (its[j]' om) (by rw[Am hj,e]) (Am om)
theorem TrV.sup {h':Bs}(S:_S.Sup h h'){n:Ai}{d:D}{v:Ac}(t:TrV h n d v):TrV h' n d v:=by
 induction t with
 |int n i t=>exact .int n i t
 |tup n a xs its ht hl hs ih =>
  obtain⟨o,ho,r⟩:=ht;exact .tup n a xs its ⟨o,S _ _ ho,r⟩ hl ih
theorem TrV.det {d:D}{v:Ac}(t:TrV h n d v):∀ {m:Ai} {d':D},TrV h m d' v->d=d':=by
 induction t with
 |int n i t=>intro m d' t';cases t' with|int _ _ _=>rfl
 |tup n a xs its ht hl hs ih =>
  intro m d' t';cases t' with
  |tup m _ ys its2 ht2 hl2 hs2 =>
   have e:=iA ht ht2;have e':its=its2:=by simpa using congrArg WP e
   subst e';have:xs=ys:=Os om λj h1 h2=>ih j _ (its[j]' om) (Am h1) (Am om) (hs2 j _ _ (Am h2) (Am om));rw[this]
theorem TrV.eq {s:Ag}{a:D}{u:Ac}(t:TrV s.heap n a u):∀ {m:Ai} {b:D} {v:Ac} {A:Bk},TrV s.heap m b v->wJ a b=true->A.units+n<Ee->EqAt A s u v (eqD a b):=by
 induction t with
 |int n i t =>
  intro m b v A t' hc hu;cases t' with
  |int _ j t'=>exact EqAt.int_int i t j t'
  |tup _ _ _ _ _ _ _=>exact Dg hc
 |tup n a xs its ht hl hs ih =>
  intro m b v A t' hc hu;cases t' with
  |int _ j t'=>exact Dg hc
  |tup m b ys its2 ht2 hl2 hs2 =>
   refine(K6 om ht ht2 hl hl2 (λj h1 h2=>?_) λe=>?_).eq
   .have h1':j<its.length:=by simpa using h1
    have h2':j<its2.length:=by simpa using h2
    have e1:xs[j]? = Ab (xs.getD j .non):=by simp[Hb,show j<xs.length by omega]
    have e2:ys[j]? = Ab (ys.getD j .non):=by simp[Hb,show j<ys.length by omega]
    have f1:its[j]? = Ab its.toArray[j]:=by simp[h1']
    have f2:its2[j]? = Ab its2.toArray[j]:=by simp[h2']
    exact ih j _ _ e1 f1 (hs2 j _ _ e2 f2) (kS hc e1 e2) (by show A.units+1+n<Ee;omega)
   .subst e
    have:=TrV.det (.tup n a xs its ht hl hs) (.tup m a ys its2 ht2 hl2 hs2);injection this with this
    subst this;exact XE (TrV.tr (.tup n a xs its ht hl hs))
theorem iL {s:Ag}:∀ {xs ys:Aa D} {us vs:Aa Ac} {n m:Ai},xs.length=us.length->ys.length=vs.length->(∀ x∈xs,Tr n x)->(∀ y∈ys,Tr m y)->wU xs ys=true ->
  (∀ (j:Ai) (x y:D) (u v:Ac),xs[j]? = Ab x->ys[j]? = Ab y->us[j]? = Ab u->vs[j]? = Ab v->EqAt A s u v (eqD x y)/\oQ A s u v (ltN x y))->LexV A s us vs (_H.lexLt (qX xs) (qX ys))
 |[],[],[],[],_,_,_,_,_,_,_,_=>.nn
 |[],y::ys,[],v::vs,_,_,_,_,_,h2,_,_=>by
  obtain⟨k,t,e,p⟩:=yT (h2 y (by simp))
  have:_H.lexLt (qX []) (qX (y::ys))=true:=by
   rw[zQ,e];show _H.lexLt [0] (k::_)=_;rw[_H.lexLt_cons,Bb om];exact Cd p
  rw[this];exact .nc v vs
 |x::xs,[],u::us,[],_,_,_,_,h1,_,_,_=>by
  obtain⟨k,t,e,p⟩:=yT (h1 x (by simp))
  have:_H.lexLt (qX (x::xs)) (qX []) = false:=by
   rw[zQ,e];show _H.lexLt (k::_) [0]=_;rw[_H.lexLt_cons,Bb om];exact Cb om
  rw[this];exact .cn u us
 |x::xs,y::ys,u::us,v::vs,_,_,l1,l2,h1,h2,hc,h=>by
  have hc':(wJ x y&&wU xs ys)=true:=hc;rw[Av] at hc';obtain⟨e1,e2⟩:=h 0 x y u v rfl rfl rfl rfl;rw[vP (h1 x (by simp)) (h2 y (by simp)) hc'.1]
  cases hq:eqD x y with
  |true =>
   rw[hq] at e1;exact .eq u v us vs _ e1 (iL (by simpa using l1) (by simpa using l2) (λz hz=>h1 z (by simp[hz])) (λz hz=>h2 z (by simp[hz])) hc'.2 λj a b c d q1 q2 q3 q4=>h (j+1) a b c d (by simpa using q1) (by simpa using q2) (by simpa using q3) (by simpa using q4))
  |false =>
   rw[hq] at e1;exact .ne u v us vs _ e1 e2
 |[],_,_::_,_,_,_,l1,_,_,_,_,_=>by simp at l1
 |_::_,_,[],_,_,_,l1,_,_,_,_,_=>by simp at l1
 |_,[],_,_::_,_,_,_,l2,_,_,_,_=>by simp at l2
 |_,_::_,_,[],_,_,_,l2,_,_,_,_=>by simp at l2
theorem TrV.lt {s:Ag}{a:D}{u:Ac}(t:TrV s.heap n a u):∀ {m:Ai} {b:D} {v:Ac} {A:Bk},TrV s.heap m b v->wJ a b=true->A.units+n<Ee->oQ A s u v (ltN a b):=by
 induction t with
 |int n i t =>
  intro m b v A t' hc hu;cases t' with
  |int _ j t' =>
   intro prog w E Q hQ;rw[bZ] at hQ;exact(Pv hQ:Ap (As prog w) A (Ct .Lt (.int i t) (.int j t')) Q E s)
  |tup _ _ _ _ _ _ _=>exact Dg hc
 |tup n a xs its ht hl hs ih =>
  intro m b v A t' hc hu;cases t' with
  |int _ j t'=>exact Dg hc
  |tup m b ys its2 ht2 hl2 hs2 =>
   have t1:=TrV.tr (.tup n a xs its ht hl hs);have t2:=TrV.tr (.tup m b ys its2 ht2 hl2 hs2);cases t1 with
   |tup _ _ t1 =>
    cases t2 with
    |tup _ _ t2 =>
     refine UD ht ht2 om ?_;rw[f6];refine iL (by simpa using hl) (by simpa using hl2) t1 t2 hc λj x y u v e1 e2 e3 e4=>?_
     have hu':A.in1.units+n<Ee:=by show A.units+1+n<Ee;omega
     have e3':its[j]? = Ab u:=by simpa using e3
     have e4':its2[j]? = Ab v:=by simpa using e4
     exact⟨(hs j x u e1 e3').eq (hs2 j y v e2 e4') (kS hc e1 e2) hu',ih j x u e1 e3' (hs2 j y v e2 e4') (kS hc e1 e2) hu'⟩
section
variable {X:Cx}{pins:Aa (Af × Cj)}{σ : _L.St}{H P:Hp}{α : Aa Af}{S:Sto}{s:Ag}
theorem Y6 (I:Inv X pins σ H s)(r:Rel X.K H P α S):∀ (n:Ai) {d:D} {v:V} {u:Ac},trb n d=true->Rep X.K P α d v->qJ v u->TrV s.heap n d u:=by
 intro n
 induction n with
 |zero =>
  intro d v u h p q;cases d with
  |int i=>simp only[Rep] at p;subst p;obtain⟨t,rfl⟩:=q;exact .int _ i t
  |_=>exact Dg h
 |succ n ih =>
  intro d v u h p q;cases d with
  |int i=>simp only[Rep] at p;subst p;obtain⟨t,rfl⟩:=q;exact .int _ i t
  |tup xs =>
   obtain⟨a,vs,its,rfl,q1,t1,rv1,h1,l1,_⟩:=vQ I r p;cases (show u=Cw a from q)
   have la:=t1.length;have lb:=rv1.length;refine .tup n a xs its h1 om λj x w e1 e2=>?_;obtain⟨y,f1,f2⟩:=t1.get e1;obtain⟨z,g1,g2⟩:=rv1.get f1;cases g1.symm.trans e2;exact ih (Bo.mp (show xs.all (trb n)=true from h) x (Bu e1)) f2 g2
  |_=>exact Dg h
end
def neT:D->Ar
 |.tup (_::_)=>true
 |_=>false
def sOk (xs:Aa D):Ar:=xs.all λa=>neT a&&trb 6 a&&xs.all λb=>wJ a b
theorem yJ (h:sOk xs=true){x:D}(hx:x∈xs):neT x=true/\Tr 6 x/\∀ y∈xs,wJ x y=true:=by
 have:=Bo.mp h x hx;simp only[Av] at this;exact⟨this.1.1,IA this.1.2,λy hy=>Bo.mp this.2 y hy⟩
def tyF:D->Ac
 |.tup (.int _::_)=>.type "int"
 |_=>.type "tuple"
def isN (h:Bs)(k:Aa Ak)(v:Ac):Prop:=∃ d,TrV h 6 d v/\qZ d=k
section
open PySem.W
variable {prog:Bc}{w:Bx}{h0:Bs}
theorem eU {s:Ag}{b:Ar}{Q:Ar->Ag->Prop}:∀ {xs ys:Aa D} {us vs:Aa Ac} {n m i N M:Ai},xs.length=us.length->ys.length=vs.length ->
  (∀ (j:Ai) (x:D) (u:Ac),xs[j]? = Ab x->us[j]? = Ab u->TrV s.heap n x u)->(∀ (j:Ai) (x:D) (u:Ac),ys[j]? = Ab x->vs[j]? = Ab u->TrV s.heap m x u)->wU xs ys=true->A.units+n<Ee->((b&&i == 0)=true->∀ x,xs[0]? = Ab x->∃ j,x=.int j) ->
  N+vs.length=M+us.length->Q (_H.lexLt (qX xs) (qX ys)) s->KatLex prog w A b (decide (N<M)) Q (us.zip vs) i s
 |[],[],[],[],_,_,_,N,M,_,_,_,_,_,_,_,hl,h=>by
  have:decide (N<M)=false:=Cb (by simp at hl;omega)
  rw[this];exact h
 |[],y::ys,[],v::vs,_,_,_,N,M,_,_,_,h2,_,_,_,hl,h=>by
  have:decide (N<M)=true:=Cd (by simp at hl;omega)
  rw[this];obtain⟨k,t,e,p⟩:=yT (h2 0 y v rfl rfl).tr;rw[zQ,e] at h;have q:_H.lexLt (qX []) (k::t++qX ys)=true:=by
   show _H.lexLt [0] (k::_)=_;rw[_H.lexLt_cons,Bb om];exact Cd p
  rw[q] at h;exact h
 |x::xs,[],u::us,[],_,_,_,N,M,_,_,h1,_,_,_,_,hl,h=>by
  have:decide (N<M)=false:=Cb (by simp at hl;omega)
  rw[this];obtain⟨k,t,e,p⟩:=yT (h1 0 x u rfl rfl).tr;rw[zQ,e] at h;have q:_H.lexLt (k::t++qX xs) (qX []) = false:=by
   show _H.lexLt (k::_) [0]=_;rw[_H.lexLt_cons,Bb om];exact Cb om
  rw[q] at h;exact h
 |x::xs,y::ys,u::us,v::vs,n,m,i,N,M,l1,l2,h1,h2,hc,hu,hb,hl,h=>by
  have hc':(wJ x y&&wU xs ys)=true:=hc;rw[Av] at hc';have t1:=h1 0 x u rfl rfl;have t2:=h2 0 y v rfl rfl;rw[vP t1.tr t2.tr hc'.1] at h;rw[Gp];refine kat_cons (t1.eq t2 hc'.1 hu prog w _ _ ?_);refine kat_go (λe=>kat_yes ?_) λe=>kat_no ?_
  .rw[Bf e] at h
   refine eU (n:=n) (m:=m) (by simpa using l1) (by simpa using l2) (λj a b e1 e2=>h1 (j+1) a b (by simpa using e1) (by simpa using e2)) (λj a b e1 e2=>h2 (j+1) a b (by simpa using e1) (by simpa using e2)) hc'.2 hu (λz=>?_) (by simp at hl;omega) h
   simp at z
  .rw[Bb (by rw[e];simp)] at h
   cases hq:b&&i == 0 with
   |true =>
    obtain⟨j,rfl⟩:=hb hq x rfl;cases t1 with
    |int _ _ t =>
     cases t2 with
     |int _ k t' =>
      rw[bZ] at h;exact oneLt_int h
     |tup _ _ _ _ _ _ _=>exact Dg hc'.1
   |false=>exact kat_one _ _ (t1.lt t2 hc'.1 hu prog w _ _ h)
 |[],_,_::_,_,_,_,_,_,_,l1,_,_,_,_,_,_,_,_=>by simp at l1
 |_::_,_,[],_,_,_,_,_,_,l1,_,_,_,_,_,_,_,_=>by simp at l1
 |_,[],_,_::_,_,_,_,_,_,_,l2,_,_,_,_,_,_,_=>by simp at l2
 |_,_::_,_,[],_,_,_,_,_,_,l2,_,_,_,_,_,_,_=>by simp at l2
theorem MQ {ys:Aa D}(hc:wJ (.tup xs) (.tup ys)=true)(h1:xs≠[])(h2:ys≠[]){n m:Ai}(t1:Tr n (.tup xs))(t2:Tr m (.tup ys)):tyF (.tup xs)=tyF (.tup ys):=by
 cases xs with
 |nil=>exact absurd rfl h1
 |cons x xs =>
  cases ys with
  |nil=>exact absurd rfl h2
  |cons y ys =>
   have hc':(wJ x y&&wU xs ys)=true:=hc;rw[Av] at hc';cases t1 with
   |tup _ _ t1 =>
    cases t2 with
    |tup _ _ t2 =>
     have a1:=t1 x (by simp)
     have a2:=t2 y (by simp)
     cases a1 with
     |int _ i=>cases a2 with
      |int _ j=>rfl
      |tup _ _ _=>exact Dg hc'.1
     |tup _ _ _=>cases a2 with
      |int _ j=>exact Dg hc'.1
      |tup _ _ _=>rfl
theorem G8 {M:Nl}{T:Ac}:∀ {vs:Aa Ac},(∀ v∈vs,∃ d,TrV h 6 d v/\neT d=true/\tyF d=T)->∃ fs,KatTups h vs fs/\fs.length=vs.length/\∀ f∈fs,Looks M h (typeOf f) T
 |[],_=>⟨[],trivial,rfl,λf hf=>by simp at hf⟩
 |v::vs,hv=>by
  obtain⟨fs,a1,a2,a3⟩:=G8 (M:=M) (vs:=vs) λu hu=>hv u (by simp[hu])
  obtain⟨d,t,hn,ht⟩:=hv v (by simp)
  cases t with
  |int _ _ _=>cases hn
  |tup n a xs its hi hl hs =>
   cases xs with
   |nil=>cases hn
   |cons x xs =>
    cases its with
    |nil=>simp at hl
    |cons f its =>
     obtain⟨o,ho,hc,k,hd⟩:=hi;refine⟨f::fs,AaE ho hc hd rfl a1,by simp[a2],λg hg=>?_⟩
     rcases Az.mp hg with rfl|hg
     .have q:=hs 0 x g rfl rfl
      cases q with
      |int _ i tk =>
       rw[<- ht];exact Aa8 rfl
      |tup _ b ys jts hi2 _ _ =>
       obtain⟨o2,ho2,hc2,_⟩:=hi2;rw[<- ht,show tyF (.tup (.tup ys::xs))=o2.cls from hc2.symm]
       exact(Looks.ld ho2).andThen .now
     .exact a3 g hg
theorem X1 (ok:sOk xs=true){vs:Aa Ac}{ks:Aa (Aa Ak)}(hl:vs.length=ks.length)(hv:∀ i v,vs[i]? = Ab v->isN h0 (ks.getD i []) v)(hf:∀ k∈ks,∃ x∈xs,qZ x=k)(h2:2<=vs.length):_S.Cmps prog w h0 vs (_S.fU _H.lexLt ks []):=by
 have at':∀ i (hi:i<vs.length),∃ d,d∈xs/\TrV h0 6 d (vs.getD i Cz)/\qZ d=ks.getD i []:=λi hi=>by
  obtain⟨d,t,e⟩:=hv i vs[i] (Am hi);obtain⟨x,hx,e2⟩:=hf (ks.getD i []) (by simp[Hb,show i<ks.length by omega])
  have:=kT t.tr (yJ ok hx).2.1 (e.trans e2.symm);subst this;exact⟨d,hx,by simpa [Hb,hi] using t,e⟩
 obtain⟨d0,hd0,_,_⟩:=at' 0 om;have ty:∀ d∈xs,tyF d=tyF d0:=λd hd=>by
  obtain⟨n1,t1,c1⟩:=yJ ok hd;obtain⟨n2,t2,_⟩:=yJ ok hd0;have c:=c1 d0 hd0;cases d with
  |tup as =>
   cases d0 with
   |tup bs=>exact MQ c (λz=>by subst z;cases n1) (λz=>by subst z;cases n2) t1 t2
   |_=>cases n2
  |_=>cases n1
 refine⟨tuples' (tyF d0 != Hr "tuple"),λA hu s hS=>⟨λQ E h=>?_,λi j C hi hj h=>?_⟩⟩
 .obtain⟨fs,a1,a2,a3⟩:=G8 (M:=As prog w) (h:=s.heap) (T:=tyF d0) (vs:=vs) λv hm=>by
   obtain⟨i,hi,e⟩:=Cc.mp hm;obtain⟨d,q1,q2,_⟩:=at' i hi;have:vs.getD i Cz=v:=by simp[Hb,hi,e]
   rw[this] at q2;exact⟨d,q2.sup hS,(yJ ok q1).1,ty d q1⟩
  refine kat_kind a1 om a3 ?_ h;unfold tyF
  split <;> decide
 .obtain⟨a,a1,a2,a3⟩:=at' i hi
  obtain⟨b,b1,b2,b3⟩:=at' j hj;unfold _S.fU at h;unfold kas_ask;rw[<- a3,<- b3] at h;have t1:=a2.sup hS;have t2:=b2.sup hS;obtain⟨n1,_,c1⟩:=yJ ok a1;obtain⟨n2,_,_⟩:=yJ ok b1;have tya:=ty a a1;have c:=c1 b b1;generalize vs.getD i Cz=u at *;generalize vs.getD j Cz=v at *;cases t1 with
  |int _ _ _=>cases n1
  |tup n p ps its hi1 l1 s1 =>
   cases t2 with
   |int _ _ _=>cases n2
   |tup m q qs jts hi2 l2 s2 =>
    obtain⟨o1,ho1,_,k1,d1⟩:=hi1;obtain⟨o2,ho2,_,k2,d2⟩:=hi2;have h':C (_H.lexLt (qX ps) (qX qs)) s:=by
     have:=@f6 ps qs;unfold ltN at this;rw[this] at h;exact h
    refine kat_lt ho1 d1 ho2 d2 (eU (n:=5) (m:=5) l1 l2 s1 s2 c om (λz x hx=>?_) (by simp;omega) h')
    rw[<- tya] at z;cases ps with
    |nil=>cases hx
    |cons x' ps =>
     cases hx;cases x with
     |int i=>exact⟨i,rfl⟩
     |_=>exact absurd z (by simp[tyF])
theorem CF (ok:sOk xs=true):_S.Kind prog w (isN h0) (λ_=>0) _H.lexLt [] (λk=>∃ x∈xs,qZ x=k) h0:=
 ⟨_S.xG,λ{k k' v} ⟨d,t,e⟩ ⟨d',t',e'⟩=>by rw[<- e,<- e',t.det t'],λh1 h2 h3 h4=>X1 ok h1 h2 h3 h4⟩
end
def kY (xs:Aa D)(k:Aa Ak):D:=(xs.find? λx=>qZ x == k).getD .non
theorem kF (ok:sOk xs=true){x:D}(hx:x∈xs):kY xs (qZ x)=x:=by
 unfold kY;cases h:xs.find? λy=>qZ y == qZ x with
 |none=>exact absurd (Qq.mp h x hx) (by simp)
 |some y =>
  have:=Zu h;exact kT (yJ ok (Sc h)).2.1 (yJ ok hx).2.1 (by simpa using this)
def tG:DF:=λds S=>match ds with
 |[d]=>match cI d with
  |some xs=>if (decide (xs.length<=100000)&&sOk xs)=true then .ok (.lst (bH xs)) S else .bad
  |none=>.bad
 |_=>.bad
section
variable {X:Cx}{pins:Aa (Af × Cj)}{σ : _L.St}{H P:Hp}{α : Aa Af}{S:Sto}{s:Ag}
theorem YS (hu:X.A.units+64<Ee):xA X (.builtin "sorted") tG:=by
 intro pins σ H s P α S vs us ds Q I r rv rp af
 match ds,af,rp with
 |[],af,_=>exact Ao af
 |_::_::_,af,_=>exact Ao af
 |[d],af,rp =>
  simp only[tG] at af;cases hd:cI d with
  |none=>rw[hd] at af;exact Ao af
  |some xs =>
   rw[hd] at af;dsimp only at af;obtain⟨hl,af⟩:=xW (X:=X) af;rw[Av,Ce] at hl;obtain⟨hl,ok⟩:=hl;obtain⟨v,u,rfl,rfl,p,q⟩:=yA rp rv;obtain⟨a,vs,its,rfl,t1,rv1,e1,l1⟩:=nD I r p q hd;have at':∀ (i:Ai) (u:Ac),its[i]? = Ab u->∃ x vv,xs[i]? = Ab x/\TrV s.heap 6 x u/\qJ vv u/\Rep X.K P α x vv:=λi u hi=>by
    have hii:i<its.length:=(Bd.mp hi).1;have hx:xs[i]? = Ab xs[i]:=Am om;obtain⟨y,f1,f2⟩:=t1.get hx;obtain⟨z,g1,g2⟩:=rv1.get f1;cases g1.symm.trans hi;refine⟨_,y,hx,Y6 I r 6 ?_ f2 g2,g2,f2⟩;have:=Bo.mp ok _ (Lm (by omega:i<xs.length))
    simp only[Av] at this;exact this.1.2
   have e:(_S.xS _H.lexLt (xs.map qZ)).map (kY xs)=bH xs:=by
    rw[<- sF,Eh]
    conv=>rhs;rw[<- Je (bH xs)]
    exact Gg λy hy=>kF ok ((bI xs).mem_iff.mp hy)
   have G:=bG (X:=X) (pins:=pins) (σ:=σ) (H:=H) (P:=P) (α:=α) (S:=S) (E:=X.xe) (d:=[]) (CF (prog:=X.prog) (w:=X.w) (h0:=s.heap) ok) hu I r e1 (xs.map qZ) (by simpa using l1) (λi u hi=>by
     obtain⟨x,vv,q1,q2,_⟩:=at' i u hi;exact⟨x,q2,by simp[Hb,q1]⟩) (by simpa using hl) (λk hk=>by
     obtain⟨x,hx,e⟩:=Bj.mp hk;exact⟨x,hx,e⟩) (kY xs) λk u hk hm=>by
    obtain⟨i,hi,e⟩:=Cc.mp hm;obtain⟨x,vv,q1,q2,q3,q4⟩:=at' i u (by rw[Am hi,e])
    obtain⟨d',t',e'⟩:=hk;have:=t'.det q2;subst this;rw[<- e',kF ok (Bu q1)];exact⟨vv,q3,q4⟩
   rw[e] at G;refine thn G λu' s3 ⟨D,vs',e,hn,I',rp'⟩=>?_;subst e;exact⟨.ref D,_,I',rfl,wO r hn rp' af⟩
end
end _D
namespace _D
open PySem PySem.Spec PyProof.Rows _L
def w6 (d:D)(S:Sto):Al (Aa (Key × D)):=match d with
 |.loc n=>match S[n]? with
  |some (.dct kvs)=>Ab kvs
  |_=>none
 |_=>none
def bS:DF:=λds S=>match ds with
 |[d]=>match w6 d S with
  |some kvs=>.ok (.int kvs.length) S
  |none=>.bad
 |_=>.bad
def pV:G2:=λa b S=>match w6 a S,yF b with
 |some kvs,Ab k=>match x8 kvs k with
  |some d=>.ok d S
  |none=>.bad
 |_,_=>.bad
def yZ:Aa (Key × D)->Al (Aa Ak)
 |[]=>Ab []
 |(.inl i,_)::r=>(yZ r).map (i::·)
 |_::_=>none
theorem mK:∀ {kvs:Aa (Key × D)} {ns:Aa Ak},yZ kvs=Ab ns->kvs.map (·.1)=ns.map Gv
 |[],ns,h=>by cases h;rfl
 |(.inl i,d)::r,ns,h=>by
  obtain⟨m,h1,rfl⟩:=Co.mp (show (yZ r).map (i::·)=Ab ns from h)
  rw[Dc,mK h1];rfl
 |(.inr x,d)::r,ns,h=>by cases h
def bU:DF:=λds S=>match ds with
 |[d]=>match (w6 d S).bind yZ with
  |some (i::ns)=>.ok (.int (ns.foldl min i)) S
  |_=>.bad
 |_=>.bad
theorem mP {K:Aj}{P:Hp}{α : Aa Af}:∀ {kvs:Aa (Key × D)} {vs:Aa (Key × V)},KVs K P α kvs vs->kvs.map (·.1)=vs.map (·.1)
 |_,_,.nil=>rfl
 |_,_,.cons z t=>by rw[Dc,Dc,z.1,mP t]
theorem gH {prog:Bc}{w:Bx}{m:Ak}{v:Ac}(h:(zH prog w).is (.inl m) v=true):∃ t,v=.int m t:=by
 cases v with
 |int n t=>exact⟨t,by have:(n == m)=true:=h;rw[eq_of_beq this]⟩
 |_=>cases h
section
variable {X:Cx}{pins:Aa (Af × Cj)}{σ : _L.St}{H P:Hp}{α : Aa Af}{S:Sto}{s:Ag}
set_option tactic.hygienic true in
theorem t9 (r:Rel X.K H P α S){d:D}{kvs:Aa (Key × D)}{v:V}(h:w6 d S=Ab kvs)(p:Rep X.K P α d v):∃ a ws,v=.ref a/\H a=Ab (.dK ws)/\KVs X.K P α kvs ws:=by
 unfold w6 at h
 split at h
 .split at h
  .rename_i hS
   cases h;simp only[Rep] at p;obtain⟨b,rfl,q⟩:=p;obtain⟨ws,z,t⟩:=r.at' _ b _ q hS;exact⟨b,ws,rfl,z,t⟩
  .cases h
 .cases h
theorem GD:xA X (.builtin "len") bS:=by
 intro pins σ H s P α S vs us ds Q I r rv rp af
 match ds,af,rp with
 |[],af,_=>exact Ao af
 |_::_::_,af,_=>exact Ao af
 |[d],af,rp =>
  simp only[bS] at af;cases hd:w6 d S with
  |none=>rw[hd] at af;exact Ao af
  |some kvs =>
   rw[hd] at af;obtain⟨v,u,rfl,rfl,p,q⟩:=yA rp rv;obtain⟨a,ws,rfl,z,t⟩:=t9 r hd p;cases (show u=Cw a from q)
   refine HL I (.inl z) λtk s' I'=>⟨.int ws.length,H,I',⟨tk,rfl⟩,xr af r ?_⟩;simp only[Rep];rw[lC t]
set_option tactic.hygienic true in
theorem NL {o i:Bw}{fo fi:DE}{pos:Ey}(hu:X.A.units+1<Ee)(ho:PE X o (tD X fo))(hi:PE X i (tD X fi))(hs:YK i:=by intro _ _;rfl):PE X (.Subscript o i pos) (tD X (d2 pV fo fi)):=by
 intro pins s σ H Q I h;obtain⟨P,α,env,S,r,re,af⟩:=h;refine MJ PySem.F.slot_dict_getitem.lookup hs (thn (zN ho I r re af) λvv s1 ⟨v,H1,P1,α1,a,S1,G1,af1⟩=>?_);refine thn (zN hi G1.inv G1.rel G1.env (P:=P1) (α:=α1) (Ok:=OkV X P1 α1 Q) (g:=λy S2=>pV a y S2) (qP.base G1.same G1.pre af1)) λuu s2 ⟨u,H2,P2,α2,b,S2,G2,af2⟩=>?_;have pa:=Rep.mono G2.same G2.pre _ _ G1.rep;have pb:=G2.rep;have I2:=G2.inv;have r2:=G2.rel;have af3:=qP.base G2.same G2.pre af2;unfold pV at af3
 split at af3
 .rename_i kvs k hd hk
  split at af3
  .rename_i d hv
   obtain⟨p,ws,rfl,z,t⟩:=t9 r2 hd pa;have ei:=eP hk pb;subst ei;cases (show vv=Cw p from G1.val)
   obtain⟨w,h1,h2⟩:=(lD t).1 d hv;have g:fR H2 p (kV k) (Ab w):=.inl ⟨_,k,.inl z,rfl,h1.symm⟩;exact⟨cV I2 g,X6 hu I2 g G2.val λw' s3 I3 rw'=>⟨w,H2,I3,rw',xr af3 r2 h2⟩⟩
  .exact Ao af3
 .exact Ao af3
theorem GJ (hc:X.calm=true):xA X (.builtin "min") bU:=by
 intro pins σ H s P α S vs us ds Q I r rv rp af
 match ds,af,rp with
 |[],af,_=>exact Ao af
 |_::_::_,af,_=>exact Ao af
 |[d],af,rp =>
  simp only[bU] at af;cases hb:(w6 d S).bind yZ with
  |none=>rw[hb] at af;exact Ao af
  |some ms =>
   rw[hb] at af;obtain⟨kvs,hd,hi⟩:=Eg.mp hb;cases ms with
   |nil=>exact Ao af
   |cons i ns =>
    obtain⟨v,u,rfl,rfl,p,q⟩:=yA rp rv;obtain⟨a,ws,rfl,z,t⟩:=t9 r hd p;cases (show u=Cw a from q)
    obtain⟨hz,hm,us,rel,dd⟩:=tB I.hok z;obtain⟨ep,da⟩:=dd.dictAt;have hks:us.map (·.1)=(i::ns).map Gv:=by rw[<- rel.keys,<- mP t,mK hi]
    have hul:us.length=ns.length+1:=by simpa using congrArg Iy hks
    have old:a<s.heap.objs.size:=by obtain⟨o,_,ho,_⟩:=da;exact Ay ho
    have W:=wT (knd:=zH X.prog X.w) (A:=X.A.in1) (I.ok.hd hc) s.heap.objs.size a (Ci old) us ep;refine call_min_walk (Yk hm da ⟨s.heap.objs.size,_,_,_,_,_,λi' j'=>decide ((i::ns).getD i' 0<(i::ns).getD j' 0),rfl,W,⟨⟨_,AT _ rfl,rfl,rfl⟩,da.at' λo e=>Ah _ e⟩,λb hb'=>?_,by omega,AaA _ λj v hj=>?_,λv h' tk hv hk=>?_⟩)
    .show b<(s.heap.push _).objs.size
     rw[Dj];simp only[Az,Dq,Hc] at hb';rcases hb' with rfl|rfl
     .exact Ga _
     .exact Jo old
    .obtain⟨k,x,e,hkk⟩:=hj
     have e2:(us.map (·.1))[j]? = Ab k:=by rw[Cg,e];rfl
     rw[hks,Cg] at e2;obtain⟨m,e3,e4⟩:=Co.mp e2;subst e4;have:(i::ns).getD j 0=m:=by rw[Eb,e3];rfl
     rw[this];exact gH hkk
    .obtain⟨k,x,e,hkk⟩:=hv
     obtain⟨b1,b2⟩:=argBest_lt (λj=>(i::ns).getD j 0) (us.length-1);generalize argBest (λi' j'=>decide ((i::ns).getD i' 0<(i::ns).getD j' 0)) (us.length-1)=m at b1 b2 e;have e2:(us.map (·.1))[m]? = Ab k:=by rw[Cg,e];rfl
     rw[hks,Cg] at e2;obtain⟨y,e3,e4⟩:=Co.mp e2;subst e4;obtain⟨t',rfl⟩:=gH hkk;have hy:(i::ns).getD m 0=y:=by rw[Eb,e3];rfl
     rw[hy] at b2;obtain⟨f1,f2⟩:=tI ns i;have hM:y=ns.foldl min i:=by
      refine Ks ?_ (f2 _ (Bu e3));obtain⟨j,hj,ej⟩:=Cc.mp f1;have:=b2 j (by simp at hj;omega)
      rw[<- ej];rw[Eb,Am hj] at this;exact this
     refine⟨.int y,H,I.kept (t':=tk) λb o e=>hk b o (λhm'=>?_) (Ah _ e),⟨t',rfl⟩,xr af r (by simp only[Rep];rw[hM])⟩
     simp only[Az,Dq,Hc] at hm';subst hm';exact absurd (Ay e) (Du _)
end
end _D
section
end
section
end
namespace _D
open PySem PySem.Spec PyProof.Rows _L
inductive AccT {K:Type}(w:Bx)(hash:K->Ak)(enc:K->D)(Kf:Aj)(P:Hp)(α : Aa Af)(ds:Aa D)(o:Cj):Prop
 |mk (es:Aw (Ak × Ac)) (ep:Ai) (t:Fm) (ks:Aa K) (kv:Aa (K × Ac)) (ho:o=_S.setO es ep t) (T:_S.TabT t es) (led:t.led=_S.xX w) (hds:ds=ks.map enc) (hes:es.toList=kv.map λp=>(hash p.1,p.2)) (nd:(kv.map (·.1)).Nodup) (mem:∀ k,k∈kv.map (·.1)↔k∈ks) (rp:∀ p∈kv,∃ v,qJ v p.2/\Rep Kf P α (enc p.1) v):AccT w hash enc Kf P α ds o
section
variable {K:Type}{w:Bx}{hash:K->Ak}{enc:K->D}{Kf:Aj}{P P1:Hp}{α α1:Aa Af}{ds:Aa D}{o:Cj}
theorem AccT.cell (a:AccT w hash enc Kf P α ds o):∀ v,o.data≠.cell v:=by
 obtain⟨es,ep,t,ks,kv,rfl,_⟩:=a;intro v z;cases z
end
def rO (ds:Aa D):Ar:=match yB ds with
 |some ks=>decide ((_S.srt _H.lexLt ks).length<=1000)&&ks.all λk=>!k.isEmpty
 |none=>false
end _D
section
end
section
namespace _D
open PySem PySem.Spec PyProof.Rows _L
mutual
def jD:D->Ak
 |.int i=>hashInt i
 |.tup xs=>Vw (Hl (yY xs))
 |_=>0
def yY:Aa D->Aa Ak
 |[]=>[]
 |d::ds=>jD d::yY ds
end
theorem LD {n:Ai}{a:D}(ha:Tr n a):∀ {m:Ai} {b:D},Tr m b->eqD a b=true->a=b:=by
 induction ha with
 |int n i =>
  intro m b hb e;cases hb with
  |int _ j=>exact congrArg D.int (Lw.mp (show (i == j)=true from e))
  |tup _ ys _=>cases e
 |tup n xs hs ih =>
  intro m b hb e;cases hb with
  |int _ j=>cases e
  |tup m ys hy =>
   have key:∀ (xs ys:Aa D),(∀ x∈xs,∀ y∈ys,eqD x y=true->x=y)->zO xs ys=true->xs=ys:=by
    intro xs
    induction xs with
    |nil=>intro ys _ e;cases ys with
     |nil=>rfl
     |cons _ _=>cases e
    |cons x xs ih2 =>
     intro ys h e;cases ys with
     |nil=>cases e
     |cons y ys =>
      rw[jB,Av] at e;rw[h x (.head _) y (.head _) e.1,ih2 ys (λa ha b hb=>h a (.tail _ ha) b (.tail _ hb)) e.2]
   exact congrArg D.tup (key xs ys (λx hx y hyy e=>ih x hx (hy y hyy) e) e)
theorem tJ:∀ (xs ys:Aa D),yY (xs++ys)=yY xs++yY ys
 |[],_=>rfl
 |x::xs,ys=>congrArg (jD x::·) (tJ xs ys)
theorem cN {xs:Aa D}{its:Aa Ac}(hl:xs.length=its.length):∀ v∈its,∃ (j:Ai) (x:D),xs[j]? = Ab x/\its[j]? = Ab v:=λv hv=>by
 obtain⟨j,hj,e⟩:=Cc.mp hv;exact⟨j,_,Am om,by rw[Am hj,e]⟩
section
variable {prog:Bc}{w:Bx}{h:Bs}
theorem IsTuple.at {h:Bs}{a:Af}{xs:Aw Ac}(t:h.IsTuple a xs):∃ o m,h.get? a=Ab o/\o.cls=.type "tuple" /\ o.data=.seq xs m:=by
 obtain⟨o,e,c,m,d⟩:=t;exact⟨o,m,e,c,d⟩
theorem TrV.hash {n:Ai}{d:D}{v:Ac}(t:TrV h n d v):∀ {A:Bk} {E:Ac->Ag->Prop} {s:Ag} {Q:Ak->Ag->Prop},s.heap=h->A.units+n<Ee->(∀ tk,s.toks<=tk->Q (jD d) { s with toks:=tk }) -> Ap (As prog w) A (pyHash v) Q E s:=by
 induction t with
 |int n i t =>
  intro A E s Q hs hu k;exact(Is prog w).pyHash (k:=i) (v:=.int i t) (by simp[Is,Ym]) (k _ (On _ _))
 |tup n a xs its ht hl hs ih =>
  intro A E s Q hh hu k;subst hh;obtain⟨o,m,ho,hc,hd⟩:=IsTuple.at ht;have hT:s.TypeIs (.ref a) "tuple":=⟨o,ho,hc⟩;unfold pyHash;unfold pyHashByItsType;refine Ad (wpAny_cRoomFor_or (.inr om) ?_);refine Ad (Kk hT Ib.lookup ?_);show Ap _ _ (if (Ab (Value.builtin "tuple.__hash__") == Ab Cz)=true then _ else _) Q E s
  rw[Bb (by rw[beq_builtin_none];exact Go)]
  refine Ad (Kk hT Ib.lookup ?_);show Ap _ _ (callSpecialIfBoundUnlessNone? (.ref a) "__hash__" _ >>= _) Q E s;refine Ad (wpAny_callSpecialIfBoundUnlessNone?_slot hT Ib (Ea Ib hT PySem.F.entry_tuple_hash ?_ (PySem.F.args_tuple_hash_1 _)));show Ap _ _ (Ll (.ref a) >>= _) _ _ s;refine Ad (wpAny_tupleItemsOf ho hd ?_);refine Ad ?_;rw[<- Mu];refine Hk _ (λrest (b:Aw Ak) s'=>∃ i,rest=its.drop i/\b.toList=yY (xs.take i)/\∃ tk,s.toks<=tk/\s'={ s with toks:=tk }) _ ?_ ?_ _ _ ⟨0,rfl,rfl,_,Ax _,rfl⟩
  .rintro x rest b s' ⟨i,hr,hb,tk,htk,rfl⟩
   have hi:i<its.length:=Nat.lt_of_not_le λz=>by rw[Kl z] at hr;cases hr
   rw[Fk hi] at hr;cases hr;have hx:i<xs.length:=by omega
   refine Ad (ih i xs[i] its[i] (Am hx) (Am hi) (s:={ s with toks:=tk }) rfl ?_ λtk2 h2=>?_)
   .show A.units+1+n<Ee
    omega
   .have e:(b.push (jD xs[i])).toList=yY (xs.take (i+1)):=by
     rw[El,hb,List.take_succ_eq_append_getElem hx,tJ];rfl
    first
     |exact An ⟨i+1,rfl,e,tk2,Dm htk h2,rfl⟩
     |exact Ad (An (An ⟨i+1,rfl,e,tk2,Dm htk h2,rfl⟩))
  .rintro b s' ⟨i,hr,hb,tk,htk,rfl⟩
   have hi:its.length<=i:=Of λz=>by rw[Fk z] at hr;cases hr
   rw[Ir om] at hb;show Ap _ _ (retInt (Hl b.toList)) _ _ _;rw[hb];refine wpAny_ret_mkInt ?_;have k:=λt ht=>k t ht;rw[show jD (.tup xs)=Vw (Hl (yY xs)) from rfl] at k
   generalize Hl (yY xs)=H at k ⊢;show Ap _ _ (if (decide (-(2:Ak) ^ 63<=H)&&decide (H<2 ^ 63))=true then _ else _) Q E _
   unfold Vw at k;by_cases hr:(decide (-(2:Ak) ^ 63<=H)&&decide (H<2 ^ 63))=true
   .rw[Bf hr]
    rw[Bf hr] at k;exact An (k _ (by show s.toks<=tk+1;omega))
   .rw[Bb hr]
    rw[Bb hr] at k;exact Ad (Gs (An (k _ (by show s.toks<=tk+1;omega))))
theorem TrV.byV {n:Ai}{d:D}{v:Ac}(t:TrV h n d v):∀ {f:Ai} {A:Bk} {E:Ac->Ag->Prop} {s:Ag} {Q:Ar->Ag->Prop},s.heap=h->n<=f->Q true s->Ap (As prog w) A (Uh f v) Q E s:=by
 induction t with
 |int n i t =>
  intro f A E s Q hs hu k;rw[show Uh f (.int i t)=pure true from by cases f <;> rfl]
  exact An k
 |tup n a xs its ht hl hs ih =>
  intro f A E s Q hh hu k;subst hh;obtain⟨g,rfl⟩:∃ g,f=g+1:=⟨f-1,by omega⟩
  obtain⟨o,m,ho,hc,hd⟩:=IsTuple.at ht;have hT:s.TypeIs (.ref a) "tuple":=⟨o,ho,hc⟩;unfold Uh;refine Ad (Kk hT Ib.lookup ?_);show Ap _ _ (seqItems? (.ref a) >>= _) Q E s;refine Ad (Gk ho hd ?_);refine Ad ?_;show Ap _ _ (forIn its.toArray _ _) _ _ s;rw[<- Mu];refine Hk _ (λrest r s'=>r.1=none/\s'=s/\∀ v∈rest,∃ (j:Ai) (x:D),xs[j]? = Ab x/\its[j]? = Ab v) _ ?_ ?_ _ _ ⟨rfl,rfl,cN hl⟩
  .rintro v rest r s' ⟨hr,rfl,hall⟩
   obtain⟨j,x,h1,h2⟩:=hall v Cu;refine Ad (ih j x v h1 h2 rfl om ?_);simp only[Il,Br,Dw];exact An ⟨rfl,rfl,λu hu'=>hall u (Bl _ hu')⟩
  .rintro⟨r1,r2⟩ s' ⟨hr,rfl,_⟩
   simp only at hr;subst hr;exact An k
theorem TrV.cls {n:Ai}{d:D}{v:Ac}(t:TrV h n d v):∀ {f:Ai} {A:Bk} {E:Ac->Ag->Prop} {s:Ag} {Q:Ar->Ag->Prop},s.heap=h->n<=f->Q false s->Ap (As prog w) A (Nt f v) Q E s:=by
 induction t with
 |int n i t =>
  intro f A E s Q hs hu k;rw[show Nt f (.int i t)=pure false from by cases f <;> rfl]
  exact An k
 |tup n a xs its ht hl hs ih =>
  intro f A E s Q hh hu k;subst hh;obtain⟨g,rfl⟩:∃ g,f=g+1:=⟨f-1,by omega⟩
  obtain⟨o,m,ho,hc,hd⟩:=IsTuple.at ht;have hT:s.TypeIs (.ref a) "tuple":=⟨o,ho,hc⟩;unfold Nt;refine Ad (Mz hT ?_);dsimp only;refine Ad (An ?_);simp only[Il,Br,Dw];refine Ad (Gk ho hd ?_);refine Ad ?_;show Ap _ _ (forIn its.toArray _ _) _ _ s;rw[<- Mu];refine Hk _ (λrest r s'=>r.1=none/\s'=s/\∀ v∈rest,∃ (j:Ai) (x:D),xs[j]? = Ab x/\its[j]? = Ab v) _ ?_ ?_ _ _ ⟨rfl,rfl,cN hl⟩
  .rintro v rest r s' ⟨hr,rfl,hall⟩
   obtain⟨j,x,h1,h2⟩:=hall v Cu;refine Ad (ih j x v h1 h2 rfl om ?_);simp only[Br,Dw];exact An ⟨rfl,rfl,λu hu'=>hall u (Bl _ hu')⟩
  .rintro⟨r1,r2⟩ s' ⟨hr,rfl,_⟩
   simp only at hr;subst hr;exact An k
theorem TrV.quiet {n:Ai}{d:D}{v:Ac}(t:TrV h n d v):∀ {f:Ai} {A:Bk} {E:Ac->Ag->Prop} {s:Ag} {Q:Ar->Ag->Prop},s.heap=h->n<=f->Q true s->Ap (As prog w) A (Yd f v) Q E s:=by
 induction t with
 |int n i t =>
  intro f A E s Q hs hu k;rw[show Yd f (.int i t)=pure true from by cases f <;> rfl]
  exact An k
 |tup n a xs its ht hl hs ih =>
  intro f A E s Q hh hu k;subst hh;obtain⟨g,rfl⟩:∃ g,f=g+1:=⟨f-1,by omega⟩
  obtain⟨o,m,ho,hc,hd⟩:=IsTuple.at ht;have hT:s.TypeIs (.ref a) "tuple":=⟨o,ho,hc⟩;unfold Yd;refine Ad (Kk hT PySem.F.slot_tuple_eq.lookup ?_);show Ap _ _ (isInstance (.ref a) (.type "tuple") >>= _) _ _ s;refine Ad (Ln hT isSubtype_tuple_tuple ?_);simp only[Il,Br,Dw];refine Ad (Gk ho hd ?_);refine Ad ?_;show Ap _ _ (forIn its.toArray _ _) _ _ s;rw[<- Mu];refine Hk _ (λrest r s'=>r.1=none/\s'=s/\∀ v∈rest,∃ (j:Ai) (x:D),xs[j]? = Ab x/\its[j]? = Ab v) _ ?_ ?_ _ _ ⟨rfl,rfl,cN hl⟩
  .rintro v rest r s' ⟨hr,rfl,hall⟩
   obtain⟨j,x,h1,h2⟩:=hall v Cu;refine Ad (ih j x v h1 h2 rfl om ?_);simp only[Il,Br,Dw];exact An ⟨rfl,rfl,λu hu'=>hall u (Bl _ hu')⟩
  .rintro⟨r1,r2⟩ s' ⟨hr,rfl,_⟩
   simp only at hr;subst hr;exact An k
def isM (xs:Aa D)(h:Bs)(k:Aa Ak)(v:Ac):Prop:=∃ d,d∈xs/\TrV h 6 d v/\qZ d=k
variable {xs:Aa D}
theorem isM.ref (ok:sOk xs=true){k:Aa Ak}{v:Ac}(t:isM xs h k v):∃ a,v=.ref a:=by
 obtain⟨d,hd,t,_⟩:=t;have ne:=(yJ ok hd).1;cases t with
 |int _ _ _=>cases ne
 |tup _ a _ _ _ _ _=>exact⟨a,rfl⟩
theorem DN (ok:sOk xs=true):_S.Mem prog w (isM xs h) (λk=>jD (kY xs k)) h where
 inj:=λ⟨d,_,t,e⟩ ⟨d',_,t',e'⟩=>by rw[<- e,<- e',t.det t']
 ref:=isM.ref ok
 hsh:=λ{A E s k v Q} hu hS ⟨d,hd,t,e⟩ k=>by
  subst e;rw[kF ok hd] at k;exact(t.sup hS).hash rfl om k
 eq:=λ{A E s k k' v v' Q} hu hS ⟨d,hd,t,e⟩ ⟨d',hd',t',e'⟩ hq=>by
  subst e e';refine(t.sup hS).eq (t'.sup hS) ((yJ ok hd).2.2 d' hd') om _ _ _ _ ?_;have:eqD d d'=decide (qZ d=qZ d'):=by
   rw[TW,Ce];exact⟨λz=>by rw[LD t.tr t'.tr z],λz=>by rw[kT t.tr t'.tr z];exact XE t'.tr⟩
  rw[this];exact hq
 byV:=λhS ⟨d,hd,t,e⟩ hq=>(t.sup hS).byV rfl (by decide) hq
 cls:=λhS ⟨d,hd,t,e⟩ hq=>(t.sup hS).cls rfl (by decide) hq
 quiet:=λhS ⟨d,hd,t,e⟩ hq=>(t.sup hS).quiet rfl (by decide) hq
theorem TJ (ok:sOk xs=true):_S.AddS prog w (isM xs h) (λk=>jD (kY xs k)) h:=⟨λhu hS Z hx hV h1 h2 h3 h=>_S.OA (DN ok) hu hS Z hx hV h1 h2 h3 h⟩
theorem CD (ok:sOk xs=true):_S.Kind prog w (isM xs h) (λk=>jD (kY xs k)) _H.lexLt [] (λk=>∃ x∈xs,qZ x=k) h:=
 ⟨_S.xG,(DN (prog:=prog) (w:=w) ok).inj,λh1 h2 h3 h4=>X1 ok h1 (λi v hv=>let ⟨d,_,t,e⟩:=h2 i v hv;⟨d,t,e⟩) h3 h4⟩
end
def vF (xs:Aa D):Al (Aa D):=if (decide ((_S.srt _H.lexLt (xs.map qZ)).length<=1000)&&sOk xs)=true then Ab ((_S.srt _H.lexLt (xs.map qZ)).map (kY xs)) else none
def jA (mu:Ar)(f:DE):DE:=λenv S=>(f env S).bind λd S1=>match (cJ d S1).bind vF with
 |some ys=>if mu then .ok (.loc S1.length) (S1++[.lst ys]) else .ok (.lst ys) S1
 |none=>.bad
section
variable {X:Cx}{e:Bw}{fa:DE}{p1 p2 pos1 pos2:Ey}{mu:Ar}
set_option tactic.hygienic true in
theorem cU (hc:X.calm=true)(hu:X.A.units+64<Ee)(hg:Gl X "sorted")(hm:X.mg "sorted" = none)(hg2:Gl X "set")(hm2:X.mg "set" = none)(ha:PE X e (tD X fa))(he:Bm [e] X.env=(false,eval e X.env)::Bm [] X.env:=by rfl) :
  PE X (.Call (.Name "sorted" p1) [.Call (.Name "set" p2) [e] [] pos2] [] pos1) (tD X (jA mu fa)):=by
 intro pins s σ H Q I h;obtain⟨P,α,env,S,r,re,af⟩:=h;refine Ho (vO I hg hm ZW ?_);refine Ox ?_ rfl rfl;refine Mq ?_;refine Call_ (vO I hg2 hm2 YN (Ha ?_ he rfl));rw[he];refine Mq (thn (zN ha I r re af) λvv s1 ⟨v,H1,P1,α1,d,S1,G1,af1⟩=>Ri ?_);cases hq:(cJ d S1).bind vF with
 |none=>simp only[hq] at af1;exact Ao af1
 |some ys =>
   simp only[hq] at af1;obtain⟨xs,hd,hs⟩:=Eg.mp hq;obtain⟨a,vs,its,rfl,t1,rv1,e1,l1⟩:=MC G1.inv G1.rel G1.rep G1.val hd;have main:Ap (As X.prog X.w) X.A (call (.type "set") [.ref a]) (λu s1=>Ap (As X.prog X.w) X.A (call (.builtin "sorted") [u]) (NewR X pins σ H1 P1 α1 ys) X.xe s1) X.xe s1:=by
    unfold vF at hs
    split at hs
    .rename_i hlt
     cases hs;rw[Av,Ce] at hlt;obtain⟨hlt,ok⟩:=hlt;have at':∀ (i:Ai) (u:Ac),its[i]? = Ab u->∃ x vv,xs[i]? = Ab x/\x∈xs/\TrV s1.heap 6 x u/\qJ vv u/\Rep X.K P1 α1 x vv:=λi u hi=>by
      have hii:i<its.length:=(Bd.mp hi).1;have hx:xs[i]? = Ab xs[i]:=Am om;obtain⟨y,f1,f2⟩:=t1.get hx;obtain⟨z,g1,g2⟩:=rv1.get f1;cases g1.symm.trans hi;refine⟨_,y,hx,Lm _,Y6 G1.inv G1.rel 6 ?_ f2 g2,g2,f2⟩;have:=Bo.mp ok _ (Lm (by omega:i<xs.length))
      simp only[Av] at this;exact this.1.2
     refine a9 (d:=[]) (CD ok) (TJ ok) hc hu G1.inv G1.rel e1 (xs.map qZ) (by rw[Au];exact l1) (λi u hu'=>?_) hlt (λk hk=>?_) (kY xs) λk u hk hm'=>?_
     .obtain⟨x,_,ex,mx,tx,_⟩:=at' i u hu'
      refine⟨x,mx,tx,?_⟩;rw[Eb,Cg,ex];rfl
     .obtain⟨x,hx,rfl⟩:=Bj.mp hk
      exact⟨x,hx,rfl⟩
     .obtain⟨i,hi',rfl⟩:=Cc.mp hm'
      obtain⟨x,w,ex,mx,tx,rw',pw⟩:=at' i _ (Am hi');obtain⟨d,_,td,rfl⟩:=hk;have:=td.det tx;subst this;rw[kF ok mx];exact⟨w,rw',pw⟩
    .cases hs
   refine thn main λu s2 h2=>Ri (thn h2 λu' s3 ⟨D,vs',e,hn,I',rp'⟩=>?_);subst e;cases mu with
   |true=>exact⟨.ref D,_,I',rfl,lO G1.rel hn rp' λv' H' P' α' r' e1 e2 rp=>af1 v' H' P' α' r' (G1.same.trans e1) (G1.pre.trans e2) rp⟩
   |false=>exact⟨.ref D,_,I',rfl,wO G1.rel hn rp' λv' H' P' α' r' e1 e2 rp=>af1 v' H' P' α' r' (G1.same.trans e1) (G1.pre.trans e2) rp⟩
end
section
variable {X:Cx}{cm:Ar}{k:Ai}{e:Bw}{fa:DE}{p1 p2 pos1 pos2:Ey}{mu:Ar}
theorem cZ (hc:X.calm=true)(hr:RoomC cm k X.A)(hg:Gl X "sorted")(hm:X.mg "sorted" = none)(hg2:Gl X "set")(hm2:X.mg "set" = none)(ha:QE X e fa)(he:Bm [e] X.env=(false,eval e X.env)::Bm [] X.env:=by rfl) :
  QE X (.Call (.Name "sorted" p1) [.Call (.Name "set" p2) [e] [] pos2] [] pos1) (jA mu fa):=⟨cU hc hr.units hg hm hg2 hm2 ha.1 he⟩
end
end _D
end
namespace _D
open PySem PySem.Spec PyProof.Rows _L
theorem BV {prog:Bc}{w:Bx}{A:Bk}{E:Ac->Ag->Prop}{s:Ag}{l:Af}{xs:Aw (Ak × Qf)}{Q:Ac->Ag->Prop}(hh:A.handled=none)(hl:s.heap.IsTuple l (Re xs))(hne:0<xs.size)
  (h:∀ v h' tk,(Re xs)[argBest (λi j=>decide (Us xs i<Us xs j)) (xs.size-1)]? = Ab v->(∀ b o,s.heap.get? b=Ab o->h'.get? b=Ab o)->Q v { s with heap:=h',toks:=tk }) :
  Ap (As prog w) A (call (.builtin "min") [.ref l]) Q E s:=by
 have hlt:l<s.heap.objs.size:=by obtain⟨_,e,_⟩:=hl;exact Ay e
 refine call_min_walk (Fx hl ⟨_,_,_,_,_,_,_,rfl,Yw (A:=A.in1) hh _ l (Ci hlt) (Re xs),⟨⟨_,AT _ rfl,rfl,rfl⟩,?_⟩,λb hb=>?_,by simpa [Re] using hne,AaA (Us xs) (λ_ _=>intItems_at),λv h' tk hP hk=>?_⟩)
 .obtain⟨o,e,r⟩:=hl
  exact⟨o,Ah _ e,r⟩
 .show b<(s.heap.push _).objs.size
  rw[Dj];rcases Az.mp hb with rfl|hb
  .exact Ga _
  .rw[Dn.mp hb]
   exact Jo hlt
 .refine h v h' tk (by simpa [Re] using hP) λb o e=>hk b o (λhm=>?_) (Ah _ e)
  rw[Dn.mp hm] at e;exact absurd (Ay e) (Du _)
def sV:DF:=λds S=>match ds with
 |[.tup (.int i::xs)]=>match xI xs with
  |some ns=>.ok (.int (ns.foldl min i)) S
  |none=>.bad
 |_=>.bad
section
variable {X:Cx}
set_option tactic.hygienic true in
theorem GK (hc:X.calm=true):xA X (.builtin "min") sV:=by
 intro pins σ H s P α S vs us ds Q I r rv rp af;unfold sV at af
 split at af
 .rename_i i xs
  cases hi:xI xs with
  |none=>rw[hi] at af;exact Ao af
  |some ns =>
   rw[hi] at af;have:=uO hi;subst this;obtain⟨v,u,rfl,rfl,p,q⟩:=yA rp rv;obtain⟨a,ws,its,rfl,_,t,rvi,hT,_⟩:=vQ I r p;cases (show u=Cw a from q)
   have t':qC X.K P α ((i::ns).map D.int) ws:=t;cases vN t';obtain⟨ps,rfl,hps⟩:=QL (show Gw its (i::ns) by simpa using gD rvi)
   have hpl:0<ps.length:=by
    have:=congrArg Iy hps;simp at this
    lia
   have hL:s.heap.IsTuple a (Re ps.toArray):=by
    obtain⟨o,ho,hc,m,hd⟩:=hT;exact⟨o,ho,hc,m,by simpa [Re] using hd⟩
   refine BV (I.ok.hd hc) hL (by simpa using hpl) λv h' tk hv hk=>?_
   obtain⟨tk',rfl⟩:=intItems_at hv;obtain⟨b1,b2⟩:=argBest_lt (Us ps.toArray) (ps.toArray.size-1);have hz:ps.toArray.size=ps.length:=by simp
   generalize argBest (λi j=>decide (Us ps.toArray i<Us ps.toArray j)) (ps.toArray.size-1)=m at b1 b2 hv;have hm:m<ps.length:=by lia
   obtain⟨f1,f2⟩:=tI ns i;have hM:Us ps.toArray m=ns.foldl min i:=by
    have h1:Us ps.toArray m∈i::ns:=by rw[iU ps m hm,hps];exact Lm _
    refine Ks ?_ (f2 _ h1);rw[hps] at f1;obtain⟨j,hj,ej⟩:=Cc.mp f1;have hj':j<ps.length:=by simpa using hj
    have:=b2 j li;rw[iU ps j hj',ej] at this;exact this
   exact⟨.int _,H,I.kept (t':=tk) hk,⟨tk',rfl⟩,xr af r (by simp only[Rep];rw[hM])⟩
 .exact Ao af
theorem HF (hc:X.calm=true):ZCall X (.builtin "min") sV:=⟨GK hc⟩
end
section
variable {X:Cx}{cm:Ar}{k:Ai}{o i:Bw}{fo fi:DE}{pos:Ey}
theorem T4 (hr:RoomC cm k X.A):ZCall X (.builtin "sorted") tG:=⟨YS hr.units⟩
theorem HA:ZCall X (.builtin "len") bS:=⟨GD⟩
theorem HE (hc:X.calm=true):ZCall X (.builtin "min") bU:=⟨GJ hc⟩
theorem RO (hr:RoomC cm k X.A)(ho:QE X o fo)(hi:QE X i fi)(hs:YK i:=by intro _ _;rfl):QE X (.Subscript o i pos) (d2 pV fo fi):=⟨NL (hu1 hr) ho.1 hi.1 hs⟩
end
end _D
namespace _D
open PySem PySem.Spec PyProof.Rows _L PySem.SeqAt
def bT:DF:=λds S=>match ds with
 |[d]=>match (w6 d S).bind yZ with
  |some (i::ns)=>.ok (.int (ns.foldl max i)) S
  |_=>.bad
 |_=>.bad
section
variable {X:Cx}
theorem GF (hc:X.calm=true):xA X (.builtin "max") bT:=by
 intro pins σ H s P α S vs us ds Q I r rv rp af
 match ds,af,rp with
 |[],af,_=>exact Ao af
 |_::_::_,af,_=>exact Ao af
 |[d],af,rp =>
  simp only[bT] at af;cases hb:(w6 d S).bind yZ with
  |none=>rw[hb] at af;exact Ao af
  |some ms =>
   rw[hb] at af;obtain⟨kvs,hd,hi⟩:=Eg.mp hb;cases ms with
   |nil=>exact Ao af
   |cons i ns =>
    obtain⟨v,u,rfl,rfl,p,q⟩:=yA rp rv;obtain⟨a,ws,rfl,z,t⟩:=t9 r hd p;cases (show u=Cw a from q)
    obtain⟨hz,hm,us,rel,dd⟩:=tB I.hok z;obtain⟨ep,da⟩:=dd.dictAt;have hks:us.map (·.1)=(i::ns).map Gv:=by rw[<- rel.keys,<- mP t,mK hi]
    have hul:us.length=ns.length+1:=by simpa using congrArg Iy hks
    have old:a<s.heap.objs.size:=by obtain⟨o,_,ho,_⟩:=da;exact Ay ho
    have W:=wT (knd:=zH X.prog X.w) (A:=X.A.in1) (I.ok.hd hc) s.heap.objs.size a (Ci old) us ep;refine call_max_walk (Yk hm da ⟨s.heap.objs.size,_,_,_,_,_,λi' j'=>decide ((i::ns).getD i' 0>(i::ns).getD j' 0),rfl,W,⟨⟨_,AT _ rfl,rfl,rfl⟩,da.at' λo e=>Ah _ e⟩,λb hb'=>?_,by omega,CmpOf.ints_gt _ λj v hj=>?_,λv h' tk hv hk=>?_⟩)
    .show b<(s.heap.push _).objs.size
     rw[Dj];simp only[Az,Dq,Hc] at hb';rcases hb' with rfl|rfl
     .exact Ga _
     .exact Jo old
    .obtain⟨k,x,e,hkk⟩:=hj
     have e2:(us.map (·.1))[j]? = Ab k:=by rw[Cg,e];rfl
     rw[hks,Cg] at e2;obtain⟨m,e3,e4⟩:=Co.mp e2;subst e4;have:(i::ns).getD j 0=m:=by rw[Eb,e3];rfl
     rw[this];exact gH hkk
    .obtain⟨k,x,e,hkk⟩:=hv
     obtain⟨b1,b2⟩:=argBest_gt (λj=>(i::ns).getD j 0) (us.length-1);generalize argBest (λi' j'=>decide ((i::ns).getD i' 0>(i::ns).getD j' 0)) (us.length-1)=m at b1 b2 e;have e2:(us.map (·.1))[m]? = Ab k:=by rw[Cg,e];rfl
     rw[hks,Cg] at e2;obtain⟨y,e3,e4⟩:=Co.mp e2;subst e4;obtain⟨t',rfl⟩:=gH hkk;have hy:(i::ns).getD m 0=y:=by rw[Eb,e3];rfl
     rw[hy] at b2;obtain⟨f1,f2⟩:=eI ns i;have hM:y=ns.foldl max i:=by
      refine Ks (f2 _ (Bu e3)) ?_;obtain⟨j,hj,ej⟩:=Cc.mp f1;have:=b2 j (by simp at hj;omega)
      rw[<- ej];rw[Eb,Am hj] at this;exact this
     refine⟨.int y,H,I.kept (t':=tk) λb o e=>hk b o (λhm'=>?_) (Ah _ e),⟨t',rfl⟩,xr af r (by simp only[Rep];rw[hM])⟩
     simp only[Az,Dq,Hc] at hm';subst hm';exact absurd (Ay e) (Du _)
end
end _D
namespace _D
open PySem PySem.Spec PyProof.Rows _L
section
variable {X:Cx}{cm:Ar}{k:Ai}
theorem HC (hc:X.calm=true):ZCall X (.builtin "max") bT:=⟨GF hc⟩
end
end _D
namespace _D
open PySem
variable {ds:Aa D}{n:Ai}{o2:Al (Ai × MO)}{lo hi:Al Ak}{f1 f2:DE}{F:DF}{S1 S' S2:Sto}
def Nx (o:Out)(Q:qB->Sto->Prop):Prop:=∃ env S,o=.nx env S/\Q env S
def Rt (o:Out)(Q:D->Sto->Prop):Prop:=∃ d S,o=.rt d S/\Q d S
def Ok {β:Type}(r:Res β)(Q:β->Sto->Prop):Prop:=∃ d S,r=.ok d S/\Q d S
theorem qO {β:Type}{r:Res β}{Q:β->Sto->Prop}{d:β}{S:Sto}(h:r=.ok d S)(q:Q d S):Ok r Q:=⟨d,S,h,q⟩
theorem v8 {f g:DS}{env:qB}{S:Sto}{Q:D->Sto->Prop}(h:Nx (f env S) λenv1 S1=>Rt (g env1 S1) Q):Rt (qY f g env S) Q:=by
 obtain⟨env1,S1,e,env2,S2,e2,q⟩:=h;exact⟨env2,S2,by unfold qY;rw[e];exact e2,q⟩
theorem bB {f:DE}{i:Ai}{env:qB}{S:Sto}{Q:qB->Sto->Prop}(h:Ok (f env S) λd S1=>Q (env.set i (Ab d)) S1):Nx (zP f (gNm i) env S) Q:=by
 obtain⟨d,S1,e,q⟩:=h;exact⟨_,S1,by unfold zP gNm;rw[e];rfl,q⟩
theorem fB {f:DE}{env:qB}{S:Sto}{Q:qB->Sto->Prop}(h:Ok (f env S) λ_ S1=>Q env S1):Nx (w9 f env S) Q:=by
 obtain⟨d,S1,e,q⟩:=h;exact⟨_,S1,by unfold w9;rw[e];rfl,q⟩
theorem n8 {f:DE}{env:qB}{S:Sto}{Q:D->Sto->Prop}(h:Ok (f env S) Q):Rt (qW f env S) Q:=by
 obtain⟨d,S1,e,q⟩:=h;exact⟨_,S1,by unfold qW;rw[e];rfl,q⟩
theorem WG {fi:DI}{g:DG}{f:DS}{env:qB}{S:Sto}{Q:qB->Sto->Prop}(h:fi env S=.ok ds S1)(k:Nx (yN g f ds env S1) Q):Nx (uW fi g f env S) Q:=by
 obtain⟨env2,S2,e2,q⟩:=k;exact⟨env2,S2,by unfold uW;rw[h];exact e2,q⟩
theorem lP {g:DG}{f:DS}{Q:qB->Sto->Prop}(I:Aa D->qB->Sto->Prop)(turn:∀ d ds env S,I (d::ds) env S->∃ env1 S1,g d env S=.ok env1 S1/\Nx (f env1 S1) (I ds))(last:∀ env S,I [] env S->Q env S) :
  ∀ {ds:Aa D} {env:qB} {S:Sto},I ds env S->Nx (yN g f ds env S) Q
 |[],env,S,h=>⟨env,S,rfl,last env S h⟩
 |d::ds,env,S,h=>by
  obtain⟨env1,S1,e1,env2,S2,e2,h2⟩:=turn d ds env S h;obtain⟨env3,S3,e3,q⟩:=lP I turn last (ds:=ds) h2;refine⟨env3,S3,?_,q⟩;unfold yN;simp only[e1,Res.toS,e2];exact e3
theorem bV {o:Al (Ai × MO)}{g:DG}{t:DT}{k:DK}(out:D->Aa D)(C:qB->Sto->Prop)(hC:∀ env S,C env S->stn o S) :
  ∀ (items:Aa D) (env:qB) (S:Sto) (acc:Aa D),C env S->acc.length+(items.flatMap out).length<=lim ->
  (∀ d∈items,∀ env S acc,C env S->acc.length+(out d).length<=lim->∃ env1 S1 b S2,g d env S=.ok env1 S1/\t env1 S1=.ok b S2/\((b=false/\out d=[]/\C env1 S2)\/(b=true/\∃ env3 S3,k env1 S2 acc=.ok (env3,acc++out d) S3/\C env3 S3))) ->
  ∃ env' S',goL o g t k items env S acc=.ok (env',acc++items.flatMap out) S'/\C env' S'
 |[],env,S,acc,h,hl,_=>⟨env,S,by simp[goL,yQ.mpr (hC _ _ h)],h⟩
 |d::ds,env,S,acc,h,hl,step=>by
  rw[Gh,De] at hl;obtain⟨env1,S1,b,S2,e1,e2,r⟩:=step d (Cu ..) env S acc h om;have hst:=yQ.mpr (hC _ _ h);rcases r with⟨rfl,h0,h2⟩|⟨rfl,env3,S3,e3,h3⟩
  .obtain⟨env',S',e,q⟩:=bV out C hC ds env1 S2 acc h2 om λd hd=>step d (Bl _ hd)
   refine⟨env',S',?_,q⟩;simp only[goL,hst,Dp,e1,e2,Res.bind,Br,Dw,Gh,h0,Hw];exact e
  .obtain⟨env',S',e,q⟩:=bV out C hC ds env3 S3 (acc++out d) h3 (by rw[De];omega) λd hd=>step d (Bl _ hd)
   refine⟨env',S',?_,q⟩;simp only[goL,hst,Dp,e1,e2,Res.bind,e3,Gh];rw[e,Cf]
theorem gG {fe:DE}{env:qB}{S:Sto}{acc:Aa D}{x:D}(h:fe env S=.ok x S1)(hl:acc.length<lim):zM fe env S acc=.ok (env,acc++[x]) S1:=by
 unfold zM;rw[h];simp[Res.bind,hl]
theorem j9 {cap:Aa (Al Ai)}{fi:DI2}{g:DG}{t:DT}{k:DK}{env env':qB}{S:Sto}{o:Al (Ai × MO)}{items:Aa D}(h:fi env S=.ok (o,items) S1)(e:goL o g t k items (zY cap env) S1 [] = .ok (env',ds) S'):zK false cap fi g t k env S=.ok (.lst ds) S':=by
 unfold zK;rw[h];simp only[Res.bind,e,mkM];rfl
theorem vE {f:DE}{S:Sto}{d:D}{env:qB}(hs:yK n ds=env)(h:f env S=.ok d S'):qM n (qW f) ds S=.ok d S':=by
 subst hs;unfold qM qW;rw[h];rfl
theorem n9 {g:DS}{S:Sto}{d:D}{env:qB}(hs:yK n ds=env)(h:g env S=.rt d S'):qM n g ds S=.ok d S':=by
 subst hs;unfold qM;rw[h];rfl
theorem aZ {S:Sto}{i:Ai}{m:MO}(h:S[i]? = Ab m)(e:S<+:S'):S'[i]? = Ab m:=by
 obtain⟨r,rfl⟩:=e;rw[Be (Bd.mp h).1];exact h
theorem uA {α β:Type}(sel:α->Ar)(val:α->β)(l:Aa α) : (l.flatMap λd=>if sel d then [val d] else []) = (l.filter sel).map val:=by
 induction l with
 |nil=>rfl
 |cons d l ih =>
  rw[Gh,ih];cases h:sel d <;> simp[h]
theorem cW {α β:Type}(f:α->Aa β)(n:Ai)(l:Aa α)(h:∀ x∈l,(f x).length<=n):(l.flatMap f).length<=l.length*n:=by
 induction l with
 |nil=>simp
 |cons d l ih =>
  rw[Gh,De,By,Nat.succ_mul];have h1:=h d (Cu ..);have h2:=ih λx hx=>h x (Bl _ hx);omega
section
variable {cap:Aa (Al Ai)}{fi:DI2}{g:DG}{t:DT}{fe:DE}{env:qB}{S S0:Sto}{o:Al (Ai × MO)}{items:Aa D}
theorem NA {fi2:DI2}{g2:DG}{t2:DT}(h:fi env S=.ok (o,items) S)(hst:stn o S)(hst2:stn o2 S)(its2:D->Aa D)(sel:D->D->Ar)(val:D->D->D)(C:qB->Prop)(C2:D->qB->Prop)(h0:C (zY cap env))(hC2:∀ d env,C2 d env->C env)
  (hl:(items.flatMap λd=>((its2 d).filter (sel d)).map (val d)).length<=lim)
  (step:∀ d∈items,∀ env,C env->∃ env1,g d env S=.ok env1 S/\C2 d env1/\t env1 S=.ok true S/\fi2 env1 S=.ok (o2,its2 d) S)
  (step2:∀ d∈items,∀ x∈its2 d,∀ env,C2 d env->∃ env1,g2 x env S=.ok env1 S/\C2 d env1/\t2 env1 S=.ok (sel d x) S/\(sel d x=true->fe env1 S=.ok (val d x) S)) :
  zK false cap fi g t (kIn fi2 g2 t2 (zM fe)) env S=.ok (.lst (items.flatMap λd=>((its2 d).filter (sel d)).map (val d))) S:=by
 obtain⟨env',S',e,_,q⟩:=bV (o:=o) (g:=g) (t:=t) (k:=kIn fi2 g2 t2 (zM fe)) (λd=>((its2 d).filter (sel d)).map (val d)) (λenv S'=>C env/\S'=S) (λ_ _ h=>h.2▸hst) items (zY cap env) S [] ⟨h0,rfl⟩ (by simpa using hl) (λd hd env S' acc hC hl=>by
  obtain⟨hc,rfl⟩:=hC;obtain⟨env1,e1,c1,e2,e3⟩:=step d hd env hc;obtain⟨env2,S2,e4,q,r⟩:=bV (o:=o2) (g:=g2) (t:=t2) (k:=zM fe) (λx=>if sel d x then [val d x] else []) (λenv S''=>C2 d env/\S''=S') (λ_ _ h=>h.2▸hst2) (its2 d) env1 S' acc ⟨c1,rfl⟩ (by rw[uA];exact hl) (λx hx env S'' acc hC hl=>by
   obtain⟨hc,rfl⟩:=hC;obtain⟨env3,f1,f2,f3,f4⟩:=step2 d hd x hx env hc;refine⟨env3,S'',sel d x,S'',f1,f3,?_⟩;cases hs:sel d x with
   |false=>exact .inl ⟨rfl,by simp,f2,rfl⟩
   |true =>
    refine .inr ⟨rfl,env3,S'',?_,f2,rfl⟩;simp only[Dp];exact gG (f4 hs) (by simp only[hs,Dp,Kt] at hl;omega))
  subst r;refine⟨env1,S2,true,S2,e1,e2,.inr ⟨rfl,env2,S2,?_,hC2 d _ q,rfl⟩⟩;unfold kIn;rw[e3];simp only[Res.bind];rw[e4,uA])
 subst q;have:=j9 (cap:=cap) h e
 rwa [Hw] at this
end
theorem goT {α:Type}{enc:α->D}{o:Al (Ai × MO)}{g:DG}{t:DT}{k:DK}(out:α->Aa D)(C:qB->Sto->Prop)(hC:∀ env S,C env S->stn o S) :
  ∀ (xs:Aa α) (env:qB) (S:Sto) (acc:Aa D),C env S->acc.length+(xs.flatMap out).length<=lim ->
  (∀ x∈xs,∀ env S acc,C env S->acc.length+(out x).length<=lim->∃ env1 S1 b S2,g (enc x) env S=.ok env1 S1/\t env1 S1=.ok b S2/\((b=false/\out x=[]/\C env1 S2)\/(b=true/\∃ env3 S3,k env1 S2 acc=.ok (env3,acc++out x) S3/\C env3 S3))) ->
  ∃ env' S',goL o g t k (xs.map enc) env S acc=.ok (env',acc++xs.flatMap out) S'/\C env' S'
 |[],env,S,acc,h,hl,_=>⟨env,S,by simp[goL,yQ.mpr (hC _ _ h)],h⟩
 |x::xs,env,S,acc,h,hl,step=>by
  rw[Gh,De] at hl;obtain⟨env1,S1,b,S2,e1,e2,r⟩:=step x (Cu ..) env S acc h om;have hst:=yQ.mpr (hC _ _ h);rcases r with⟨rfl,h0,h2⟩|⟨rfl,env3,S3,e3,h3⟩
  .obtain⟨env',S',e,q⟩:=goT out C hC xs env1 S2 acc h2 om λd hd=>step d (Bl _ hd)
   refine⟨env',S',?_,q⟩;simp only[Dc,goL,hst,Dp,e1,e2,Res.bind,Br,Dw,Gh,h0,Hw];exact e
  .obtain⟨env',S',e,q⟩:=goT out C hC xs env3 S3 (acc++out x) h3 (by rw[De];omega) λd hd=>step d (Bl _ hd)
   refine⟨env',S',?_,q⟩;simp only[Dc,goL,hst,Dp,e1,e2,Res.bind,e3,Gh];rw[e,Cf]
section
variable {α β:Type}{enc:α->D}{enc2:β->D}{cap:Aa (Al Ai)}{fi:DI2}{g:DG}{t:DT}{fe:DE}{env:qB}{S S0:Sto}{o:Al (Ai × MO)}{xs:Aa α}
theorem C7 (hst:stn o S)(sel:α->Ar)(val:α->D)(C:qB->Prop)(h0:C env)(hl:xs.length<=lim)
  (step:∀ x∈xs,∀ env,C env->∃ env1,g (enc x) env S=.ok env1 S/\C env1/\t env1 S=.ok (sel x) S/\(sel x=true->fe env1 S=.ok (val x) S)) :
  ∃ env',goL o g t (zM fe) (xs.map enc) env S [] = .ok (env',(xs.filter sel).map val) S:=by
 have lf:(xs.flatMap λd=>if sel d then [val d] else []).length<=lim:=by
  rw[uA,Au];exact Dm (Ov _ _) hl
 obtain⟨env',S',e,_,q⟩:=goT (enc:=enc) (o:=o) (g:=g) (t:=t) (k:=zM fe) (λd=>if sel d then [val d] else []) (λenv S'=>C env/\S'=S) (λ_ _ h=>h.2▸hst) xs env S [] ⟨h0,rfl⟩ (by simpa using lf) (λd hd env S' acc hC hl=>by
  obtain⟨hc,rfl⟩:=hC;obtain⟨env1,e1,c1,e2,k⟩:=step d hd env hc;refine⟨env1,S',sel d,S',e1,e2,?_⟩;cases hs:sel d with
  |false=>exact .inl ⟨rfl,by simp,c1,rfl⟩
  |true =>
   refine .inr ⟨rfl,env1,S',?_,c1,rfl⟩;simp only[Dp];exact gG (k hs) (by simp only[hs,Dp,Kt] at hl;omega))
 subst q;refine⟨env',?_⟩;rw[e,Hw,uA]
theorem aQ (h:fi env S=.ok (o,xs.map enc) S)(hst:stn o S)(sel:α->Ar)(val:α->D)(C:qB->Prop)(h0:C (zY cap env))(hl:xs.length<=lim)
  (step:∀ x∈xs,∀ env,C env->∃ env1,g (enc x) env S=.ok env1 S/\C env1/\t env1 S=.ok (sel x) S/\(sel x=true->fe env1 S=.ok (val x) S)) :
  zK false cap fi g t (zM fe) env S=.ok (.lst ((xs.filter sel).map val)) S:=by
 obtain⟨env',e⟩:=C7 hst sel val C h0 hl step;exact j9 h e
theorem GO {fi2:DI2}{g2:DG}{t2:DT}(h:fi env S=.ok (o,xs.map enc) S)(hst:stn o S)(hst2:stn o2 S)(ys:α->Aa β)(sel:α->β->Ar)(val:α->β->D)(C:qB->Prop)(C2:α->qB->Prop)(h0:C (zY cap env))(hC2:∀ x env,C2 x env->C env)
  (hl:(xs.flatMap λx=>((ys x).filter (sel x)).map (val x)).length<=lim)
  (step:∀ x∈xs,∀ env,C env->∃ env1,g (enc x) env S=.ok env1 S/\C2 x env1/\t env1 S=.ok true S/\fi2 env1 S=.ok (o2,(ys x).map enc2) S)
  (step2:∀ x∈xs,∀ y∈ys x,∀ env,C2 x env->∃ env1,g2 (enc2 y) env S=.ok env1 S/\C2 x env1/\t2 env1 S=.ok (sel x y) S/\(sel x y=true->fe env1 S=.ok (val x y) S)) :
  zK false cap fi g t (kIn fi2 g2 t2 (zM fe)) env S=.ok (.lst (xs.flatMap λx=>((ys x).filter (sel x)).map (val x))) S:=by
 obtain⟨env',S',e,_,q⟩:=goT (enc:=enc) (o:=o) (g:=g) (t:=t) (k:=kIn fi2 g2 t2 (zM fe)) (λx=>((ys x).filter (sel x)).map (val x)) (λenv S'=>C env/\S'=S) (λ_ _ h=>h.2▸hst) xs (zY cap env) S [] ⟨h0,rfl⟩ (by simpa using hl) (λd hd env S' acc hC hl=>by
  obtain⟨hc,rfl⟩:=hC;obtain⟨env1,e1,c1,e2,e3⟩:=step d hd env hc;obtain⟨env2,S2,e4,q,r⟩:=goT (enc:=enc2) (o:=o2) (g:=g2) (t:=t2) (k:=zM fe) (λx=>if sel d x then [val d x] else []) (λenv S''=>C2 d env/\S''=S') (λ_ _ h=>h.2▸hst2) (ys d) env1 S' acc ⟨c1,rfl⟩ (by rw[uA];exact hl) (λx hx env S'' acc hC hl=>by
   obtain⟨hc,rfl⟩:=hC;obtain⟨env3,f1,f2,f3,f4⟩:=step2 d hd x hx env hc;refine⟨env3,S'',sel d x,S'',f1,f3,?_⟩;cases hs:sel d x with
   |false=>exact .inl ⟨rfl,by simp,f2,rfl⟩
   |true =>
    refine .inr ⟨rfl,env3,S'',?_,f2,rfl⟩;simp only[Dp];exact gG (f4 hs) (by simp only[hs,Dp,Kt] at hl;omega))
  subst r;refine⟨env1,S2,true,S2,e1,e2,.inr ⟨rfl,env2,S2,?_,hC2 d _ q,rfl⟩⟩;unfold kIn;rw[e3];simp only[Res.bind];rw[e4,uA])
 subst q;have:=j9 (cap:=cap) h e
 rwa [Hw] at this
end
theorem kW {o:G2}{f g:DE}{env:qB}{S:Sto}{a b:D}(h1:f env S=.ok a S1)(h2:g env S1=.ok b S2):d2 o f g env S=o a b S2:=by
 unfold d2;rw[h1];simp only[Res.bind];rw[h2]
theorem Q1 {env:qB}{S:Sto}{a:D}(h1:f1 env S=.ok a S1):qI 1 F (q8 f1 (qA)) env S=F [a] S1:=by
 simp only[qI,q8,qA,h1,Res.bind,By,Ec,Dp]
theorem Q2 {env:qB}{S:Sto}{a b:D}(h1:f1 env S=.ok a S1)(h2:f2 env S1=.ok b S2):qI 2 F (q8 f1 (q8 f2 (qA))) env S=F [a,b] S2:=by
 simp only[qI,q8,qA,h1,h2,Res.bind,By,Ec,Dp]
theorem vI {f3:DE}{env:qB}{S S3:Sto}{a b c:D}(h1:f1 env S=.ok a S1)(h2:f2 env S1=.ok b S2)(h3:f3 env S2=.ok c S3):qI 3 F (q8 f1 (q8 f2 (q8 f3 (qA)))) env S=F [a,b,c] S3:=by
 simp only[qI,q8,qA,h1,h2,h3,Res.bind,By,Ec,Dp]
theorem k9 {env:qB}{S:Sto}{a:D}(h1:f1 env S=.ok a S1):qS F (q8 f1 (qA)) env S=F [a] S1:=by
 simp only[qS,q8,qA,h1,Res.bind]
theorem TY {env:qB}{S:Sto}{a b:D}(h1:f1 env S=.ok a S1)(h2:f2 env S1=.ok b S2):qS F (q8 f1 (q8 f2 (qA))) env S=F [a,b] S2:=by
 simp only[qS,q8,qA,h1,h2,Res.bind]
theorem rZ {env:qB}{S:Sto}{a:D}(h1:f1 env S=.ok a S1):q8 f1 (qA) env S=.ok [a] S1:=by
 simp only[q8,qA,h1,Res.bind]
theorem NC {env:qB}{S:Sto}{a b:D}(h1:f1 env S=.ok a S1)(h2:f2 env S1=.ok b S2):q8 f1 (q8 f2 (qA)) env S=.ok [a,b] S2:=by
 simp only[q8,qA,h1,h2,Res.bind]
theorem bM {env:qB}{i:Ai}{d:D}{S:Sto}(h:env[i]? = Ab (Ab d)):q9 i env S=.ok d S:=by simp only[q9,h]
theorem pU {α:Type}(l:Aa α) : l.filter (λ_=>true)=l:=by simp
theorem ZV {α:Type}(p:α->Ar)(l:Aa α) : wI (l.map λx=>D.bl (p x))=Ab (l.map p):=by
 induction l with
 |nil=>rfl
 |cons x l ih =>
  show (wI (l.map λx=>D.bl (p x))).map (p x::·)=_
  rw[ih];rfl
section
variable {β γ:Type}{env:qB}{S:Sto}
theorem qT {r:Res β}{k:β->Sto->Res γ}{Q:γ->Sto->Prop}(h:Ok r λd S1=>Ok (k d S1) Q):Ok (r.bind k) Q:=by
 obtain⟨d,S1,rfl,h⟩:=h;exact h
theorem y8 {r:Res β}{d:β}(h:Ok r λd' S'=>d'=d/\S'=S):r=.ok d S:=by
 obtain⟨_,_,e,rfl,rfl⟩:=h;exact e
theorem zB {r:Res β}{Q Q':β->Sto->Prop}(h:Ok r Q)(k:∀ d S,Q d S->Q' d S):Ok r Q':=by
 obtain⟨d,S,e,q⟩:=h;exact⟨d,S,e,k d S q⟩
variable {Q:D->Sto->Prop}{f g:DE}{fa:DA}{o:G2}{i j:Ai}
theorem o_c {d:D}(h:Q d S):Ok (dC d env S) Q:=⟨_,_,rfl,h⟩
theorem o_v {d:D}(e:env[i]? = Ab (Ab d))(h:Q d S):Ok (q9 i env S) Q:=⟨_,_,bM e,h⟩
theorem o_2 (h:Ok (f env S) λa S1=>Ok (g env S1) λb S2=>Ok (o a b S2) Q):Ok (d2 o f g env S) Q:=qT (zB h λ_ _=>qT)
theorem o_1 {u:D->Sto->Res D}(h:Ok (f env S) λa S1=>Ok (u a S1) Q):Ok (d1 u f env S) Q:=qT h
theorem CY {Q:Aa D->Sto->Prop}(h:Q [] S):Ok (qA env S) Q:=⟨_,_,rfl,h⟩
theorem h9 {Q:Aa D->Sto->Prop}(h:Ok (f env S) λa S1=>Ok (fa env S1) λas S2=>Q (a::as) S2):Ok (q8 f fa env S) Q:=qT (zB h λ_ _ k=>qT (zB k λ_ _ q=>⟨_,_,rfl,q⟩))
theorem qA1 (h:Ok (fa env S) λas S1=>as.length<=lim/\Q (.tup as) S1):Ok (vS fa env S) Q:=qT (zB h λ_ _ k=>⟨_,_,Bf k.1,k.2⟩)
theorem CU (h:Ok (fa env S) λas S1=>as.length<=lim/\Q (.lst as) S1):Ok (nQ fa env S) Q:=qT (zB h λ_ _ k=>⟨_,_,Bf k.1,k.2⟩)
theorem qAj (h:Ok (fa env S) λas S1=>as.length<=lim/\Q (.loc S1.length) (S1++[.lst as])):Ok (kX fa env S) Q:=qT (zB h λ_ _ k=>⟨_,_,Bf k.1,k.2⟩)
theorem qAt (h:Q (.loc S.length) (S++[.dct []])) : Ok (rY env S) Q:=⟨_,_,rfl,h⟩
theorem DZ (h:Ok (fa env S) λas S1=>as.length=n/\Ok (F as S1) Q):Ok (qI n F fa env S) Q:=qT (zB h λ_ _ k=>by rw[Bf k.1];exact k.2)
theorem qAx {as:Aa D}(h:Ok (F as S) Q):Ok (okO F as S) Q:=by
 obtain⟨d,S1,e,q⟩:=h;exact⟨d,S1,SO e,q⟩
theorem qA9 (h:Ok (fa env S) λas S1=>Ok (F as S1) Q):Ok (qS F fa env S) Q:=qT h
theorem qAs {a b:Ak}(h:Q (.int (a+b)) S):Ok (zW (.int a) (.int b) S) Q:=⟨_,_,rfl,h⟩
theorem WH {a b:Aa D}(l:a.length+b.length<=lim)(h:Q (.lst (a++b)) S):Ok (zW (.lst a) (.lst b) S) Q:=⟨_,_,Bf l,h⟩
theorem qA0 {a b:Ak}(h:Q (.int (a-b)) S):Ok (yD (.int a) (.int b) S) Q:=⟨_,_,rfl,h⟩
theorem qAw {a:Ak}(h:Q (.int (-a)) S):Ok (mG (.int a) S) Q:=⟨_,_,rfl,h⟩
theorem CW {a b:Ak}(l : -(2 ^ 64)<a/\a<2 ^ 64)(h:Q (.int (a*b)) S):Ok (zR (.int a) (.int b) S) Q:=by
 refine⟨_,_,?_,h⟩;unfold zR i2;rw[fY];unfold nN;simp only[l,and_self,Jb,Xc,Dp]
theorem qAv {a b:Ak}(l:0<b)(h:Q (.int (a % b)) S):Ok (gB (.int a) (.int b) S) Q:=by
 refine⟨_,_,?_,h⟩;unfold gB i2;simp[l]
theorem qAu {a b:Ak}(l:0<b/\b<1073741824)(h:Q (.int (a/b)) S):Ok (uN (.int a) (.int b) S) Q:=by
 refine⟨_,_,?_,h⟩;unfold uN i2 TX;simp[l]
theorem qBI {a b:Ak}(h:Q (.bl (decide (a<b))) S):Ok (gLt (.int a) (.int b) S) Q:=⟨_,_,rfl,h⟩
theorem qBH {a b:Ak}(h:Q (.bl (decide (a<=b))) S):Ok (gLe (.int a) (.int b) S) Q:=⟨_,_,rfl,h⟩
theorem qBG {a b:Ak}(h:Q (.bl (decide (b<a))) S):Ok (gGt (.int a) (.int b) S) Q:=⟨_,_,rfl,h⟩
theorem qBE {a b:Ak}(h:Q (.bl (decide (b<=a))) S):Ok (gGe (.int a) (.int b) S) Q:=⟨_,_,rfl,h⟩
theorem qBC {a b:Ak}(h:Q (.bl (decide (a=b))) S):Ok (gEq (.int a) (.int b) S) Q:=⟨_,_,by kernel_rfl!,h⟩
theorem qBJ {a b:Ak}(h:Q (.bl (!decide (a=b))) S):Ok (gNe (.int a) (.int b) S) Q:=⟨_,_,by kernel_rfl!,h⟩
theorem CT {a:Aa D}{k:Ak}{d:D}(e:_L.atI a k=Ab d)(h:Q d S):Ok (gIx (.lst a) (.int k) S) Q:=⟨d,S,by show _D.yG (_L.atI a k) S=_;rw[e];rfl,h⟩
theorem qAi {a:Aa D}(h:Q (.int a.length) S):Ok (wY [.tup a] S) Q:=⟨_,_,rfl,h⟩
theorem qAh {a:Aa D}(h:Q (.int a.length) S):Ok (wY [.lst a] S) Q:=⟨_,_,rfl,h⟩
theorem qAl {a:Aa D}(h:Q (.tup a) S):Ok (tH [.lst a] S) Q:=⟨_,_,rfl,h⟩
theorem KL (h:Ok (f env S) λd S1=>∃ b,d=.bl b/\(b=true->Ok (g env S1) Q)/\(b=false->Q (.bl false) S1)):Ok (nP f g env S) Q:=qT (zB h λd S1 ⟨b,e,k1,k2⟩=>by
 subst e;cases b with
 |true=>exact k1 rfl
 |false=>exact⟨_,_,rfl,k2 rfl⟩)
theorem qBO {fl fh:DO}(h:Ok (f env S) λd S1=>Ok (fl env S1) λlo S2=>Ok (fh env S2) λhi S3=>Ok (gSl d lo hi S3) Q):Ok (dSl f fl fh env S) Q:=qT (zB h λ_ _ k=>qT (zB k λ_ _=>qT))
theorem qAz {a:Aa D}(h:Q (.tup (xR a lo hi)) S):Ok (gSl (.tup a) lo hi S) Q:=⟨_,_,rfl,h⟩
theorem qAy {a:Aa D}(h:Q (.lst (xR a lo hi)) S):Ok (gSl (.lst a) lo hi S) Q:=⟨_,_,rfl,h⟩
theorem qBA {Q:Al Ak->Sto->Prop}(h:Q none S):Ok (vM env S) Q:=⟨_,_,rfl,h⟩
theorem qBB {Q:Al Ak->Sto->Prop}(h:Ok (f env S) λd S1=>∃ k,d=.int k/\Q (Ab k) S1):Ok (wB f env S) Q:=qT (zB h λ_ _ ⟨_,e,q⟩=>by subst e;exact⟨_,_,rfl,q⟩)
theorem qA8 {T:Em}{m:D->Aa D->Sto->Res D}(h:Ok (f env S) λa S1=>tyD a S1=Ab T/\Ok (fa env S1) λas S2=>Ok (m a as S2) Q):Ok (dBm T m f fa env S) Q:=qT (zB h λ_ _ k=>by rw[k.1,Bf (by simp)];exact qT k.2)
theorem CP {xs:Aa D}{d:D}(e:S[i]? = Ab (.lst xs))(l:xs.length<lim)(h:Q .non (S.set i (.lst (xs++[d])))):Ok (wC (.loc i) [d] S) Q:=by
 refine⟨_,_,?_,h⟩;show (match S[i]? with|some (.lst xs)=>(if xs.length<lim then Res.ok D.non (S.set i (.lst (xs++[d]))) else .bad)|_=>.bad)=_
 rw[e];exact Bf l
theorem OX {t:DT}(h:Ok (t env S) λb S1=>(b=true->Ok (f env S1) Q)/\(b=false->Ok (g env S1) Q)):Ok (dIf t f g env S) Q:=qT (zB h λb S1 k=>by
 cases b with
 |true=>exact k.1 rfl
 |false=>exact k.2 rfl)
variable {Q:Ar->Sto->Prop}{t u:DT}
theorem qBP (h:Ok (f env S) λd S1=>∃ b,x5 d S1=Ab b/\Q b S1):Ok (dTr f env S) Q:=qT (zB h λd S1 ⟨b,e,k⟩=>by
 rw[e];exact⟨_,_,rfl,k⟩)
theorem qAk (h:Ok (t env S) λb S1=>Q (!b) S1):Ok (yX t env S) Q:=qT (zB h λ_ _ k=>⟨_,_,rfl,k⟩)
theorem qA2 (h:Q true S):Ok (xM env S) Q:=⟨_,_,rfl,h⟩
theorem y7 (h:Ok (t env S) λb S1=>(b=true->Q true S1)/\(b=false->Ok (u env S1) Q)):Ok (yC t u env S) Q:=qT (zB h λb S1 k=>by
 cases b with
 |true=>exact⟨_,_,rfl,k.1 rfl⟩
 |false=>exact k.2 rfl)
theorem bC (h:Ok (t env S) λb S1=>(b=true->Ok (u env S1) Q)/\(b=false->Q false S1)):Ok (wV t u env S) Q:=qT (zB h λb S1 k=>by
 cases b with
 |true=>exact k.1 rfl
 |false=>exact⟨_,_,rfl,k.2 rfl⟩)
theorem OC {xs:Aa D}{a:Ai}(h:a<xs.length):_L.atI xs (a:Ak)=Ab xs[a]:=by
 have e:_L.ixN xs.length (a:Ak)=Ab a:=by simp[_L.ixN];lia
 simp[_L.atI,e,h]
theorem aH (S:Sto)(m:MO):(S++[m])[S.length]? = Ab m:=by simp
theorem G9 {xs:Aa D}(h:S[j]? = Ab (.lst xs)):tyD (.loc j) S=Ab "list":=by
 show (match S[j]? with|some (.lst _)=>Ab "list" | some (.dct _)=>Ab "dict" | _=>none)=_
 rw[h]
theorem qAg {Q:Aa D->Sto->Prop}(h:Ok (f env S) λd S1=>∃ xs,d=.tup xs/\Q (yL xs) S1):Ok (sS (q8 f qA) env S) Q:=qT (h9 (zB h λ_ _ ⟨xs,e,q⟩=>CY ⟨_,_,by rw[e];rfl,q⟩))
theorem F2 {Q:Aa D->Sto->Prop}(h:Ok (f env S) λd S1=>∃ ds,x9 d=Ab ds/\Q ds S1):Ok (yH f env S) Q:=qT (zB h λd S1 ⟨ds,e,k⟩=>⟨ds,S1,by rw[e];rfl,k⟩)
theorem gO {Q:D->Sto->Prop}{xs:Aa D}{k:Ak}{d:D}(e:S[i]? = Ab (.lst xs))(e':_L.atI xs k=Ab d)(h:Q d S):Ok (gIx (.loc i) (.int k) S) Q:=by
 refine⟨d,S,?_,h⟩;show (match S[i]? with|some (.lst xs)=>_D.yG (_L.atI xs k) S|_=>.bad)=_
 rw[e];show _D.yG (_L.atI xs k) S=_;rw[e'];rfl
theorem SB {Q:D->Sto->Prop}{xs:Aa D}(e:S[i]? = Ab (.lst xs))(h:Q (.int xs.length) S):Ok (wY [.loc i] S) Q:=by
 refine⟨_,_,?_,h⟩;have e':eR (.loc i) S=Ab xs.length:=by
  show (match S[i]? with|some (.lst xs)=>Ab xs.length|_=>none)=_
  rw[e]
 show (match eR (.loc i) S with|some n=>Res.ok (D.int n) S|none=>.bad)=_
 rw[e']
theorem WL {Q:Uv->Sto->Prop}{xs:Aa D}{d:D}{n:Ak}(e:S[i]? = Ab (.lst xs))(e':_L.ixN xs.length n=Ab j)(h:Q () (S.set i (.lst (xs.set j d)))):Ok (vJ (.loc i) (.int n) d S) Q:=by
 refine⟨_,_,?_,h⟩;simp[vJ,l7,e,e']
theorem QP {xs:Aa D}(h:env[i]? = Ab (Ab (.tup xs))):dIt (q9 i) env S=.ok (none,xs) S:=by
 unfold dIt;rw[bM h];rfl
theorem OS {xs:Aa D}(h:env[i]? = Ab (Ab (.loc j)))(e:S[j]? = Ab (.lst xs)):dIt (q9 i) env S=.ok (Ab (j,.lst xs),xs) S:=by
 unfold dIt;rw[bM h];show (match S[j]? with|some (.lst xs)=>Res.ok (Ab (j,MO.lst xs),xs) S|_=>.bad)=_
 rw[e]
theorem eG {α:Type}(f:α->β):∀ l:Aa α,l.flatMap (λx=>[f x])=l.map f
 |[]=>rfl
 |x::l=>by rw[Gh,eG f l];rfl
theorem uT {α:Type}{enc:α->D}{o:Al (Ai × MO)}{cap:Aa (Al Ai)}{fi:DI2}{tg:DG}{fe:DE}{Q:D->Sto->Prop}(xs:Aa α)(val:α->D)(C:qB->Sto->Prop)(hi:fi env S=.ok (o,xs.map enc) S1)(h0:C (zY cap env) S1)(hl:xs.length<=lim)(hst:∀ env S,C env S->stn o S)
  (step:∀ x∈xs,∀ env S,C env S->Ok (tg (enc x) env S) λenv1 S1=>Ok (t env1 S1) λb S2=>b=true/\Ok (fe env1 S2) λd S3=>d=val x/\C env1 S3) (q:∀ env' S',C env' S'->Q (.lst (xs.map val)) S'):Ok (zK false cap fi tg t (zM fe) env S) Q:=by
 have fm:=eG val xs;obtain⟨env',S',e,c⟩:=goT (enc:=enc) (o:=o) (g:=tg) (t:=t) (k:=zM fe) (λx=>[val x]) C hst xs (zY cap env) S1 [] h0 (by rw[fm,Au];simpa using hl) (λx hx env S acc hC hl=>by
  obtain⟨env1,S1,e1,b,S2,e2,rfl,d,S3,e3,rfl,c3⟩:=step x hx env S hC;exact⟨env1,S1,true,S2,e1,e2,.inr ⟨rfl,env1,S3,gG e3 (by simp at hl;lia),c3⟩⟩)
 rw[fm,Hw] at e;exact⟨_,_,j9 hi e,q env' S' c⟩
theorem QZ {α:Type}{Q:D->Sto->Prop}{l:Aa α}{p:α->Ar}(h:Q (.bl (l.all p)) S):Ok (mD false [.lst (l.map λx=>.bl (p x))] S) Q:=by
 refine⟨_,_,?_,h⟩;show (match (x9 (.lst (l.map λx=>D.bl (p x)))).bind wI with|some bs=>Res.ok (D.bl (bs.all id)) S|none=>.bad)=_
 rw[show (x9 (.lst (l.map λx=>D.bl (p x)))).bind wI=Ab (l.map p) from ZV p l]
 simp only[HT];rfl
theorem hW {Q:D->Sto->Prop}{gg:G2}{a b x y:D}{z:D}(e1:wD kZ S a=Ab x)(e2:wD kZ S b=Ab y)(e3:gg x y (vX S)=.ok z (vX S))(ha:oY z=true)(h:Q z S):Ok (u3 gg a b S) Q:=by
 refine⟨z,S,?_,h⟩;unfold u3;rw[e1,e2];show QR (gg x y (vX S)) S=_;rw[e3];exact Bf ha
theorem lJ {f:D->Al D}{xs:Aa D}(h:∀ x∈xs,f x=Ab x):mapO f xs=Ab xs:=by
 induction xs with
 |nil=>rfl
 |cons x xs ih=>simp[mapO,h x (Cu ..),ih λy hy=>h y (Bl _ hy)]
theorem JE {xs:Aa D}(e:S[i]? = Ab (.lst xs))(h:∀ x∈xs,wD 19 S x=Ab x):wD kZ S (.loc i)=Ab (.lst xs):=by
 show (match S[i]? with|some (.lst xs)=>(mapO (wD 19 S) xs).map D.lst|_=>none)=_
 rw[e];show (mapO (wD 19 S) xs).map D.lst=_;rw[lJ h];rfl
theorem qBN {Q:qB->Sto->Prop}{h:G3}{d:D}(k:Ok (f env S) λa S1=>Ok (g env S1) λb S2=>Ok (h a b d S2) λ_ S3=>Q env S3):Ok (gSb f g h d env S) Q:=qT (zB k λ_ _ k=>qT (zB k λ_ _ k=>qT (zB k λ_ _ q=>⟨_,_,rfl,q⟩)))
variable {Q:qB->Sto->Prop}
theorem qBK {d:D}(h:Q (env.set i (Ab d)) S):Ok (gNm i d env S) Q:=⟨_,_,rfl,h⟩
theorem OZ {gs:DGs}{xs:Aa D}(h:xs.length=n/\Ok (gs xs env S) Q):Ok (gTp n gs (.tup xs) env S) Q:=by
 obtain⟨d,S1,e,q⟩:=h.2;exact⟨d,S1,by show (if xs.length=n then gs xs env S else .bad)=_;rw[Bf h.1];exact e,q⟩
theorem qBF (h:Q env S):Ok (vY [] env S) Q:=⟨_,_,rfl,h⟩
theorem qBD {t:DG}{gs:DGs}{x:D}{xs:Aa D}(h:Ok (t x env S) λenv1 S1=>Ok (gs xs env1 S1) Q):Ok (xF t gs (x::xs) env S) Q:=qT h
def Wo (P:Out->Prop)(o:Out):Prop:=P o
def JG (g:DS)(P:Out->Prop):Out->Prop
 |.nx env S=>P (g env S)
 |o=>P o
def cD (b:Ar)(f g:DS):DS:=match b with
 |true=>f
 |false=>g
def LC (Q:D->Sto->Prop):Out->Prop
 |.rt d S=>Q d S
 |.nx _ S=>Q .non S
 |_=>Fh
def QV {α:Type}(I:Aa α -> qB->Sto->Prop)(xs:Aa α)(P:Out->Prop):Out->Prop
 |.nx env S=>I xs env S
 |.ct env S=>I xs env S
 |.bk env S=>P (.nx env S)
 |o=>P o
variable {P:Out->Prop}{sf sg:DS}{fi:DI}{tg:DG}{d:D}
theorem qA7 (h:Wo (JG sg P) (sf env S)):Wo P (qY sf sg env S):=by
 unfold qY;unfold Wo at h ⊢;cases e:sf env S <;> rw[e] at h <;> exact h
theorem qBS (h:Wo P (sg env S)):Wo (JG sg P) (.nx env S):=h
theorem qBT (h:Wo P (.rt d S)):Wo (JG sg P) (.rt d S):=h
theorem qAn (h:Wo P (.nx env S)):Wo P (xD env S):=h
theorem pA {r:Res β}{k:β->Sto->Out}(h:Ok r λd S1=>Wo P (k d S1)):Wo P (r.toS env k):=by
 obtain⟨d,S1,rfl,h⟩:=h;exact h
theorem qA3 (h:Ok (f env S) λd S1=>Ok (tg d env S1) λenv' S2=>Wo P (.nx env' S2)):Wo P (zP f tg env S):=pA (zB h λ_ _=>pA)
theorem qAm (h:Ok (f env S) λ_ S1=>Wo P (.nx env S1)):Wo P (w9 f env S):=pA h
theorem qA6 (h:Ok (f env S) λd S1=>Wo P (.rt d S1)):Wo P (qW f env S):=pA h
theorem qA5 (h:Ok (fa env S) λds S1=>∃ a b,ds=[a,b]/\Wo P (.nx ((env.set i (Ab a)).set j (Ab b)) S1)):Wo P (lY i j fa env S):=pA (zB h λ_ _ ⟨_,_,e,q⟩=>by subst e;exact q)
theorem qBR (h:Ok (t env S) λb S1=>Wo P (cD b sf sg env S1)):Wo P (sIf t sf sg env S):=pA (zB h λb S1 q=>by cases b <;> exact q)
theorem w_t (h:Wo P (sf env S)):Wo P (cD true sf sg env S):=h
theorem w_f (h:Wo P (sg env S)):Wo P (cD false sf sg env S):=h
theorem qA4 {b:Ar}(h:Wo P (cD b sg sf env S)):Wo P (cD (!b) sf sg env S):=by cases b <;> exact h
theorem rB {p:Prop}[Jl p](h1:p->Wo P (sf env S))(h2:¬ p->Wo P (sg env S)):Wo P (cD (decide p) sf sg env S):=by
 by_cases h:p
 .rw[Cd h];exact h1 h
 .rw[Cb h];exact h2 h
theorem IE (h:Ok (fi env S) λds S1=>Wo P (yN tg sf ds env S1)):Wo P (uW fi tg sf env S):=pA h
theorem kK {α:Type}{enc:α->D}(I:Aa α -> qB->Sto->Prop)(turn:∀ x xs env S,I (x::xs) env S->Ok (tg (enc x) env S) λenv1 S1=>Wo (QV I xs P) (sf env1 S1))(last:∀ env S,I [] env S->Wo P (.nx env S)) :
  ∀ {xs:Aa α} {env:qB} {S:Sto},I xs env S->Wo P (yN tg sf (xs.map enc) env S)
 |[],env,S,h=>last env S h
 |x::xs,env,S,h=>by
  obtain⟨env1,S1,e1,h1⟩:=turn x xs env S h;rw[Dc,yN];unfold Wo at h1 ⊢;simp only[e1,Res.toS];cases e2:sf env1 S1 with
  |nx env2 S2=>rw[e2] at h1;exact kK I turn last h1
  |ct env2 S2=>rw[e2] at h1;exact kK I turn last h1
  |bk env2 S2=>rw[e2] at h1;exact h1
  |rt d2 S2=>rw[e2] at h1;exact h1
  |ex c2 x2 env2 S2=>rw[e2] at h1;exact h1
  |bad=>rw[e2] at h1;exact h1
theorem MS (I:Aa D->qB->Sto->Prop)(turn:∀ x xs env S,I (x::xs) env S->Ok (tg x env S) λenv1 S1=>Wo (QV I xs P) (sf env1 S1))(last:∀ env S,I [] env S->Wo P (.nx env S)){xs:Aa D}{env:qB}{S:Sto}(h:I xs env S):Wo P (yN tg sf xs env S):=by
 have:=kK (enc:=id) I turn last h
 rwa [Je] at this
def whQ (I:Ai->qB->Sto->Prop)(n:Ai)(P:Out->Prop):Out->Prop
 |.nx env S=>∃ m,m<n/\I m env S
 |.ct env S=>∃ m,m<n/\I m env S
 |.bk env S=>P (.nx env S)
 |o=>P o
theorem MT (I:Ai->qB->Sto->Prop)(turn:∀ n env S,I n env S->Ok (t env S) λb S1=>(b=true->Wo (whQ I n P) (sf env S1))/\(b=false->Wo P (.nx env S1))){n:Ai}(hn:n<big)(h:I n env S):Wo P (nB t sf env S):=by
 have key:∀ N n env S,n<N->I n env S->Wo P (vR t sf N env S):=by
  intro N
  induction N with
  |zero=>intro n env S h;lia
  |succ N ih =>
   intro n env S h hI;obtain⟨b,S1,e1,k1,k2⟩:=turn n env S hI;unfold vR;rw[e1];cases b with
   |false=>exact k2 rfl
   |true =>
    have k:=k1 rfl;unfold Wo at k ⊢;simp only[Res.toS,Dp];cases e2:sf env S1 with
    |nx env2 S2=>rw[e2] at k;obtain⟨m,hm,hI2⟩:=k;exact ih m env2 S2 li hI2
    |ct env2 S2=>rw[e2] at k;obtain⟨m,hm,hI2⟩:=k;exact ih m env2 S2 li hI2
    |bk env2 S2=>rw[e2] at k;exact k
    |rt d2 S2=>rw[e2] at k;exact k
    |ex c2 x2 env2 S2=>rw[e2] at k;exact k
    |bad=>rw[e2] at k;exact k
 exact key big n env S hn h
theorem YC {I:Ai->qB->Sto->Prop}(m:Ai)(hm:m<n)(h:I m env S):Wo (whQ I n P) (.nx env S):=⟨m,hm,h⟩
theorem rC {α:Type}{I:Aa α -> qB->Sto->Prop}{xs:Aa α}(h:I xs env S):Wo (QV I xs P) (.nx env S):=h
theorem GA {Q:D->Sto->Prop}(h:Q d S):Wo (LC Q) (.rt d S):=h
theorem zI {Q:D->Sto->Prop}(hs:yK n ds=env)(h:Wo (LC Q) (sf env S)):Ok (qM n sf ds S) Q:=by
 subst hs;unfold qM;unfold Wo at h;cases e:sf (yK n ds) S <;> rw[e] at h <;> first|exact⟨_,_,rfl,h⟩|exact Ao h
end
abbrev Pt:=Ak × Ak
variable {ps:Aa Pt}{p:Pt}
def ptD (p:Pt):D:=.tup [.int p.1,.int p.2]
def qE (l:Aa Pt):D:=.tup (l.map ptD)
def kP (p:Pt):Aa Ak:=[p.1,p.2]
def pK (k:Aa Ak):Pt:=(k.getD 0 0,k.getD 1 0)
theorem b9 (ps:Aa Pt):ps.map ptD=(ps.map kP).map tpD:=by
 rw[Eh];rfl
def ltP (p q:Pt):Ar:=_H.lexLt [p.1,p.2] [q.1,q.2]
abbrev Up (l:Aa Pt):Prop:=l.Pairwise λp q=>ltP p q=true
theorem aI {ks:Aa (Aa Ak)}(h:∀ k∈ks,k∈ps.map kP):ks.map tpD=(ks.map pK).map ptD/\(ks.map pK).map kP=ks:=by
 have e:∀ k∈ks,kP (pK k)=k:=λk hk=>by
  obtain⟨p,_,rfl⟩:=Bj.mp (h k hk);rfl
 have e2:(ks.map pK).map kP=ks:=by
  rw[Eh]
  conv=>rhs;rw[<- Je ks]
  exact Gg e
 exact⟨by rw[b9,e2],e2⟩
theorem D1 {q:Pt}(h:kP p=kP q):p=q:=by
 injection h with h1 h2
 injection h2 with h2 _
 exact Wg h1 h2
def bJ (ps:Aa Pt):Aa Pt:=(_S.xS _H.lexLt (ps.map kP)).map pK
theorem oI (ps:Aa Pt):∀ k∈_S.xS _H.lexLt (ps.map kP),k∈ps.map kP:=λk hk=>(_S.w4 _).mem_iff.mp hk
theorem EK (ps:Aa Pt):(bJ ps).map kP=_S.xS _H.lexLt (ps.map kP):=(aI (oI ps)).2
theorem jI (ps:Aa Pt):(bJ ps).Perm ps:=by
 have h:=(_S.w4 (lt':=_H.lexLt) (ps.map kP)).map pK;rw[Eh] at h;have e:ps.map (pK∘kP)=ps:=by
  conv=>rhs;rw[<- Je ps]
  exact Gg λq _=>rfl
 rw[e] at h;exact h
theorem MH (nd:ps.Nodup):Up (bJ ps):=by
 have h:=_S.fG _S.xG (ps.map kP);unfold _S.Nf at h;rw[<- EK,Df] at h;have nd':(bJ ps).Nodup:=(jI ps).nodup_iff.mpr nd;refine(List.pairwise_and_iff.mpr ⟨h,nd'⟩).imp λ{a b} ⟨h1,h2⟩=>?_;rcases _S.xG.tri h1 with z|z
 .exact absurd (D1 z).symm h2
 .exact z
theorem JJ (ps:Aa Pt)(hl:ps.length<=100000):vL (ps.map ptD)=Ab ((bJ ps).map ptD):=by
 unfold bJ;rw[<- (aI (oI ps)).1];unfold vL;cases ps with
 |nil =>
  have e1:_S.xS _S.ltI [] = []:=Mv;have e2:_S.xS _H.lexLt [] = []:=Mv;show (if ([] : Aa Ak).length<=100000 then Ab ((_S.xS _S.ltI []).map D.int) else none)=_
  rw[e1];show Ab [] = Ab ((_S.xS _H.lexLt []).map tpD);rw[e2];rfl
 |cons p ps =>
  have h0:xI ((p::ps).map ptD)=none:=rfl;rw[h0,b9,jK];have h2:(((p::ps).map kP).all λk=>!k.isEmpty)=true:=by
   rw[HT,Bo];intro q _;rfl
  exact Bf (by rw[h2,Cd (by rw[Au];exact hl)];rfl)
theorem qBL {Q:D->Sto->Prop}{S:Sto}(h:Q (.int p.1) S):Ok (gIx (ptD p) (.int 0) S) Q:=⟨_,_,rfl,h⟩
theorem qBM {Q:D->Sto->Prop}{S:Sto}(h:Q (.int p.2) S):Ok (gIx (ptD p) (.int 1) S) Q:=⟨_,_,rfl,h⟩
theorem A3 {Q:D->Sto->Prop}{S:Sto}(l:ps.length<=100000)(h:Q (.lst ((bJ ps).map ptD)) S):Ok (u9 [.lst (ps.map ptD)] S) Q:=by
 refine⟨_,_,?_,h⟩;show (match (Ab (ps.map ptD)).bind vL with|some ys=>Res.ok (D.lst ys) S|none=>.bad)=_
 rw[Lo,JJ ps l]
theorem eC:∀ (a b:Aa Pt),zO (a.map ptD) (b.map ptD)=decide (a=b)
 |[],[]=>rfl
 |[],_::_=>by simp[zO]
 |_::_,[]=>by simp[zO]
 |x::a,y::b=>by
  show ((x.1 == y.1&&(x.2 == y.2&&true))&&zO (a.map ptD) (b.map ptD))=_;rw[eC a b,TW];simp[Prod.ext_iff,and_assoc]
theorem MD {S:Sto}{a:Ai}{xs:Aa D}(h:S[a]? = Ab (.lst xs)):cJ (.loc a) S=Ab xs:=by
 show (match S[a]? with|some (.lst xs)=>Ab xs|_=>none)=_
 rw[h]
def InB (B:Ak)(q:Pt):Prop:=-B<=q.1/\q.1<=B /\ -B<=q.2/\q.2<=B
instance (B:Ak)(q:Pt):Jl (InB B q):=by unfold InB;exact inferInstance
structure Lot (M:Ai)(l:Aa Pt):Prop where
 ne:l≠[]
 len:l.length<=M
 up:Up l
 box:∀ q∈l,InB 1000 q
theorem ID {l:Aa Pt}(h:Up l):l.Nodup:=h.imp λ{a b} h e=>by
 subst e;rw[show ltP a a=false from _S.xG.irr _] at h
 cases h
def oR (S:Sto)(p:Ai):Prop:=∃ v f:Ak,S[p]? = Ab (.lst [.int v,.int f])
structure Kp (p:Ai)(S S':Sto):Prop where
 pen:oR S' p
 len:S.length<=S'.length
 same:∀ m,m<S.length->m≠p->S'[m]? = S[m]?
theorem Kp.set {p j:Ai}{S:Sto}(h:Kp p S S')(hj:S.length<=j)(m:MO)(hp:p≠j):Kp p S (S'.set j m):=by
 obtain⟨v,f,e⟩:=h.pen;exact⟨⟨v,f,by rw[Cq (Fy hp)];exact e⟩,by rw[Zl];exact h.len,λi hi hn=>by rw[Cq om];exact h.same i hi hn⟩
end _D
local macro_rules|`(tactic|array_get_dec)=>`(tactic| first | (with_reducible first | apply _D.qA7 | apply _D.qBS | apply _D.qA3 | apply _D.o_2 | apply _D.o_c | apply _D.h9 | apply _D.CY | apply _D.qAs | apply _D.qA0 | apply _D.qA1 | apply _D.CU | apply _D.DZ | apply _D.qA9 | apply _D.qAx | apply _D.qBP | apply _D.qAk | apply _D.qBR | apply _D.w_t | apply _D.w_f | apply _D.qA4 | apply _D.qAn | apply _D.qAm | apply _D.qA6 | apply _D.qBT | apply _D.qA5 | apply _D.IE | apply _D.qBI | apply _D.qBH | apply _D.qBG | apply _D.qBE | apply _D.qBC | apply _D.qBJ | apply _D.o_1 | apply _D.qAw | apply _D.qAi | apply _D.qAh | apply _D.qAl | apply _D.qAj | apply _D.qBO | apply _D.qAz | apply _D.qAy | apply _D.qBA | apply _D.qBB | apply _D.qA8 | apply _D.qAt | apply _D.OZ | apply _D.qBD | apply _D.qBF | apply _D.qA2 | apply _D.qBL | apply _D.qBM | apply _D.qBN | apply _D.qAg | apply _D.F2 ) | ((with_reducible apply _D.o_v); exact rfl) | ((with_reducible apply _D.qBK); dsimp only [List.set_cons_succ, List.set_cons_zero]) | ((with_reducible (first | apply _D.CW | apply _D.qAv | apply _D.qAu)); omega) | ((with_reducible apply And.intro); (first | exact rfl | exact Nat.le_of_ble_eq_true rfl)) | ((with_reducible apply Exists.intro); (with_reducible apply And.intro); exact rfl) | ((with_reducible apply Exists.intro); (with_reducible apply Exists.intro); (with_reducible apply And.intro); exact rfl; dsimp only [List.set_cons_succ, List.set_cons_zero]) | ((with_reducible apply Exists.intro); (with_reducible apply Exists.intro); (with_reducible apply Exists.intro); (with_reducible apply And.intro); exact rfl; dsimp only [List.set_cons_succ, List.set_cons_zero]))
local macro_rules|`(tactic|rfl')=>`(tactic| repeat array_get_dec)
namespace _D
open PySem
variable {kvs:Aa (_L.Key × D)}{ks:Aa Ak}{xs:Aa D}{n:Ai}{i:D}{S:Sto}
def Pn (d:D):Prop:=∃ p,pyD d=Ab p
theorem pns:∀ {ps:Aa PyData},mS xs=Ab ps->∀ x∈xs,Pn x:=by
 induction xs with
 |nil=>intro ps _ x hx;cases hx
 |cons d ds ih =>
  intro ps h x hx;simp only[mS] at h;obtain⟨p,h1,h2⟩:=Eg.mp h;obtain⟨ps',h3,_⟩:=Co.mp h2;rcases Az.mp hx with rfl|hx
  .exact⟨p,h1⟩
  .exact ih h3 x hx
theorem WR (h:Pn (.tup xs)):∀ x∈xs,Pn x:=by
 obtain⟨p,h⟩:=h;simp only[pyD] at h;obtain⟨ps,h1,_⟩:=Co.mp h;exact pns h1
theorem WS:∀ {xs:Aa D},(∀ x∈xs,Pn x)->∃ l,mS xs=Ab l
 |[],_=>⟨[],rfl⟩
 |x::xs,h=>by
  obtain⟨l,e⟩:=WS (xs:=xs) λy hy=>h y (Bl _ hy);obtain⟨q,e'⟩:=h x (Cu ..);refine⟨q::l,?_⟩;show (pyD x).bind (λx=>(mS xs).map (x::·))=_
  rw[e,e'];rfl
theorem qAF (h:∀ x∈xs,Pn x):Pn (.tup xs):=by
 obtain⟨l,e⟩:=WS h;exact⟨.tuple l,by simp only[pyD,e,Tt]⟩
theorem AE (q:Pt):Pn (ptD q):=⟨.tuple [.int q.1,.int q.2],rfl⟩
theorem c7 (l:Aa Pt):Pn (qE l):=qAF λx hx=>by
 obtain⟨q,_,rfl⟩:=Bj.mp hx;exact AE q
def inR (a b:Ak):D->Ar
 |.int i=>decide (a<=i/\i<=b)
 |_=>false
def isW:D->Ar
 |.int _=>true
 |_=>false
def isT:D->Ar
 |.tup _=>true
 |_=>false
theorem KA {d:D}(h:Pn d)(S:Sto):uK [d,.ty "tuple"] S=.ok (.bl (isT d)) S:=by
 obtain⟨p,h⟩:=h;cases d <;> first|kernel_rfl!|simp[pyD] at h
theorem iV {Q:D->Sto->Prop}{fa fb fc:DE}{env:qB}{a b c:Ak}(h1:fa env S=.ok (.int a) S)(h2:fb env S=.ok (.int b) S)(h3:fc env S=.ok (.int c) S)(q:Q (.bl (decide (a<=b/\b<=c))) S):Ok (xU gLe gLe fa fb fc env S) Q:=by
 refine⟨_,_,?_,q⟩;unfold xU;rw[h1,Res.bind_ok,h2,Res.bind_ok];show (match x5 (.bl (decide (a<=b))) S with|some true=>(fc env S).bind λw S4=>gLe (.int b) w S4|some false=>Res.ok (.bl (decide (a<=b))) S|none=>.bad)=_
 by_cases h:a<=b
 .rw[Cd h]
  show (fc env S).bind _=_;rw[h3];simp only[h,true_and];rfl
 .rw[Cb h,Cb λz=>h z.1]
  rfl
abbrev isI:D->Ar:=inR (-1000) 1000
def yE:D->Ar
 |.tup [a,b]=>isI a&&isI b
 |_=>false
theorem B8 (q:Pt):yE (ptD q)=decide (InB 1000 q):=by
 show (decide (-1000<=q.1/\q.1<=1000)&&decide (-1000<=q.2/\q.2<=1000))=_;rw[<- Bool.decide_and];exact decide_eq_decide.mpr ⟨λh=>⟨h.1.1,h.1.2,h.2.1,h.2.2⟩,λh=>⟨⟨h.1,h.2.1⟩,h.2.2.1,h.2.2.2⟩⟩
theorem LO (h:xs.length=2):yE (.tup xs)=xs.all isI:=by
 match xs,h with
 |[a,b],_=>simp[yE]
theorem LP (h:xs.length≠2):yE (.tup xs)=false:=by
 match xs,h with
 |[],_=>rfl
 |[_],_=>rfl
 |[_,_],h=>exact absurd rfl h
 |_::_::_::_,_=>rfl
theorem LQ {d:D}(h:isT d=false):yE d=false:=by
 cases d <;> first|rfl|cases h
def upB (ks:Aa (Aa Ak)):Ar:=(ks.zip (ks.drop 1)).all λp=>_H.lexLt p.1 p.2
def sW:D->Ar
 |.tup xs=>decide (1<=xs.length/\xs.length<=40)&&xs.all yE&&(match yB xs with|some ks=>upB ks|none=>false)
 |_=>false
theorem i8 {a b:Ak}{d:D}(h:inR a b d=true):∃ i,d=.int i/\a<=i/\i<=b:=by
 cases d <;> first|exact⟨_,rfl,Ca h⟩|cases h
theorem VV {d:D}(h:yE d=true):∃ q,d=ptD q/\InB 1000 q:=by
 unfold yE at h
 split at h
 .rw[Av] at h
  obtain⟨x,rfl,hx⟩:=i8 h.1;obtain⟨y,rfl,hy⟩:=i8 h.2;exact⟨(x,y),rfl,hx.1,hx.2,hy.1,hy.2⟩
 .cases h
theorem WV:∀ {xs:Aa D},xs.all yE=true->∃ qs:Aa Pt,xs=qs.map ptD/\∀ q∈qs,InB 1000 q
 |[],_=>⟨[],rfl,λ_ h=>by cases h⟩
 |d::ds,h=>by
  rw[Ro,Av] at h;obtain⟨qs,rfl,hq⟩:=WV h.2;obtain⟨q,rfl,hb⟩:=VV h.1;refine⟨q::qs,rfl,λz hz=>?_⟩;rcases Az.mp hz with rfl|hz
  .exact hb
  .exact hq z hz
theorem CI (a b:Aa Ak)(S:Sto):l6 (tpD a) (tpD b) S=.ok (.bl (_H.lexLt a b)) S:=by
 unfold l6 tpD;simp only[dP]
theorem YA:∀ (ks:Aa (Aa Ak)),upB ks=true↔ks.Pairwise (λa b=>_H.lexLt a b=true)
 |[]=>by simp[upB]
 |[a]=>by simp[upB]
 |a::b::r=>by
  have ih:=YA (b::r);have e:upB (a::b::r)=(_H.lexLt a b&&upB (b::r)):=by simp[upB]
  rw[e,Av,ih,Ev (a:=a)];constructor
  .rintro⟨h1,h2⟩
   refine⟨λx hx=>?_,h2⟩;rcases Az.mp hx with rfl|hx
   .exact h1
   .exact _S.xG.tr h1 ((Ev.mp h2).1 x hx)
  .rintro⟨h1,h2⟩
   exact⟨h1 b (by simp),h2⟩
theorem HH (ks ms:Aa (Aa Ak)):vG (ks.map tpD) (ms.map tpD)=(ks.zip ms).map λp=>D.tup [tpD p.1,tpD p.2]:=by
 unfold vG
 induction ks generalizing ms with
 |nil=>rfl
 |cons k ks ih =>
  cases ms with
  |nil=>rfl
  |cons m ms=>exact congrArg (_::·) (ih ms)
theorem B7 {d:D}(h:isT d=false):sW d=false:=by
 cases d <;> first|rfl|cases h
theorem mM {M:Ai}(hM:M<=40){l:Aa Pt}(h:Lot M l):sW (qE l)=true:=by
 show (decide (1<=(l.map ptD).length/\(l.map ptD).length<=40)&&(l.map ptD).all yE&&(match yB (l.map ptD) with|some ks=>upB ks|none=>false))=true
 have h1:1<=(l.map ptD).length/\(l.map ptD).length<=40:=by
  rw[Au];exact⟨Wf.mpr h.ne,by have:=h.len;lia⟩
 have h2:(l.map ptD).all yE=true:=by
  rw[HT];exact Bo.mpr λq hq=>(B8 q).trans (Cd (h.box q hq))
 have h3:upB (l.map kP)=true:=by
  rw[YA,Df];exact h.up
 rw[Cd h1,h2,b9,jK];exact h3
theorem HK (xs:Aa D):xR xs (Ab 1) none=xs.drop 1:=by
 unfold xR;have h1:_H.sIx xs.length 0 (Ab 1)=min 1 xs.length:=rfl;have h2:_H.sIx xs.length xs.length none=xs.length:=rfl;rw[h1,h2];cases xs with
 |nil=>rfl
 |cons x r=>simp
theorem YW (xs:Aa D)(i:Ai):xR xs (Ab ((i:Ak)+1)) none=xs.drop (i+1):=by
 unfold xR;have e1:_H.sIx xs.length 0 (Ab ((i:Ak)+1))=min (i+1) xs.length:=by
  have:((i:Ak)+1)=((i+1:Ai):Ak):=by lia
  rw[this,_H.sIx_nat]
 rw[e1,_H.sIx_none];by_cases h:i+1<=xs.length
 .rw[Nat.min_eq_left h,Ir (by simp)]
 .have:xs.drop (i+1)=[]:=Kl li
  rw[this,Nat.min_eq_right li];simp
def eL:Ai->Aa D->Aa D
 |_,[]=>[]
 |k,x::xs=>D.tup [.int (k:Ak),x]::eL (k+1) xs
theorem VG (xs:Aa D):yL xs=eL 0 xs:=by
 have key:∀ (xs:Aa D) (k:Ai),(xs.mapIdx λi x=>D.tup [.int ((i+k:Ai):Ak),x])=eL k xs:=by
  intro xs
  induction xs with
  |nil=>intro k;rfl
  |cons x xs ih =>
   intro k;rw[List.mapIdx_cons];show _::_=D.tup [.int (k:Ak),x]::eL (k+1) xs
   congr 1
   .simp
   .rw[<- ih (k+1)]
    congr 1
    funext i y
    congr 4
    lia
 have:=key xs 0;simpa [yL] using this
def far (p q:Pt):Ak:=(p.1-q.1)*(p.1-q.1)+(p.2-q.2)*(p.2-q.2)
def xJ:Aa Pt->Aa (Pt × Pt)
 |[]=>[]
 |p::ps=>ps.map (λq=>(p,q))++xJ ps
def uL (x:Pt × Pt):Ak:=far x.1 x.2
def fars (l:Aa Pt):Aa Ak:=(xJ l).map uL
def prD (x:Pt × Pt):D:=.tup [ptD x.1,ptD x.2]
structure GI {β : Type}(key:β->Ak)(enc:β->D)(n:Ai)(prs:Aa β)(kvs:Aa (_L.Key × D))(S:Sto):Prop where
 dict:S[n]? = Ab (.dct kvs)
 lists:∀ kv∈kvs,∃ (f:Ak) (j:Ai),kv=(.inl f,.loc j)/\n<j/\S[j]? = Ab (.lst ((prs.filter λx=>key x == f).map enc))
 nd:(kvs.map (·.2)).Nodup
 keys:kvs.map (·.1)=((prs.map key).foldl Bi []).map Gv
set_option tactic.hygienic true in
theorem JM {l:Aa Ak}{k x:Ak}:x∈Bi l k↔x∈l\/x=k:=by
 unfold Bi
 split
 .rename_i h
  simp at h;constructor
  .exact λz=>.inl z
  .rintro (z|rfl)
   .exact z
   .exact h
 .simp
theorem MI {l:Aa Ak}{k:Ak}(h:k∈l):Bi l k=l:=by
 unfold Bi;rw[Bf (by simpa using h)]
theorem JN {l:Aa Ak}{k:Ak}(h:k ∉ l):Bi l k=l++[k]:=by
 unfold Bi;rw[Bb (by simpa using h)]
theorem xE:∀ {l:Aa Ak} {x:Ak},x∈ks.foldl Bi l↔x∈l\/x∈ks:=by
 induction ks with
 |nil=>intro l x;simp
 |cons k ks ih =>
  intro l x;rw[Hd,ih,JM,Az];constructor
  .rintro ((h|h)|h)
   .exact .inl h
   .exact .inr (.inl h)
   .exact .inr (.inr h)
  .rintro (h|h|h)
   .exact .inl (.inl h)
   .exact .inl (.inr h)
   .exact .inr h
theorem mF:∀ {l:Aa Ak},(ks.foldl Bi l).length<=l.length+ks.length:=by
 induction ks with
 |nil=>intro l;simp
 |cons k ks ih =>
  intro l;rw[Hd];have h1:=ih (l:=Bi l k);have h2:(Bi l k).length<=l.length+1:=by
   unfold Bi
   split <;> simp
  rw[By]
  lia
theorem mW {k:_L.Key}{d:D}(h:x8 kvs k=Ab d):(k,d)∈kvs:=by
 unfold x8 at h;obtain⟨kv,h1,rfl⟩:=Co.mp h;have h2:=Zu h1;have h3:=Sc h1;have h4:kv.1=k:=by simpa using h2
 subst h4;exact h3
theorem mV {k:_L.Key}(h:x8 kvs k=none):∀ kv∈kvs,kv.1≠k:=by
 unfold x8 at h;have h1:=Option.map_eq_none_iff.mp h;intro kv hk e;have:=Qq.mp h1 kv hk;simp[e] at this
theorem KZ {x:D}{k:_L.Key}(hd:S[n]? = Ab (.dct kvs))(hk:yF i=Ab k):xV (.loc n) [i,x] S=(match x8 kvs k with|some d=>.ok d S|none=>if kvs.length<lim then .ok x (S.set n (.dct (yO kvs k x))) else .bad):=by
 show (match S[n]? with|some (.dct kvs)=>(match yF i with|some k=>(match x8 kvs k with|some d=>Res.ok d S|none=>if kvs.length<lim then .ok x (S.set n (.dct (yO kvs k x))) else .bad)|none=>.bad)|_=>.bad)=_
 rw[hd,hk]
theorem MB {x d:D}{k:_L.Key}(hd:S[n]? = Ab (.dct kvs))(hk:yF i=Ab k)(hv:x8 kvs k=Ab d):xV (.loc n) [i,x] S=.ok d S:=by
 rw[KZ hd hk,hv]
theorem MA {x:D}{k:_L.Key}(hd:S[n]? = Ab (.dct kvs))(hk:yF i=Ab k)(hv:x8 kvs k=none)(hl:kvs.length<lim):xV (.loc n) [i,x] S=.ok x (S.set n (.dct (yO kvs k x))):=by
 rw[KZ hd hk,hv];exact Bf hl
theorem WC {β γ:Type}{l:Aa β}{f:β->γ}(nd:(l.map f).Nodup){x y:β}(hx:x∈l)(hy:y∈l)(e:f x=f y):x=y:=by
 obtain⟨a,ha,rfl⟩:=Cc.mp hx;obtain⟨b,hb,rfl⟩:=Cc.mp hy;have:a=b:=(Sl nd (h₀:=by simpa using ha) (h₁:=by simpa using hb)).mp (by simpa using e)
 subst this;rfl
set_option tactic.hygienic true in
theorem aY:∀ (ks l:Aa Ak),l.Nodup->(ks.foldl Bi l).Nodup:=by
 intro ks
 induction ks with
 |nil=>exact λl h=>h
 |cons k ks ih =>
  intro l h;rw[Hd];apply ih;unfold Bi
  split
  .exact h
  .rename_i hn
   rw[No];refine⟨h,by simp,?_⟩
   intro a ha b hb hab;simp at hb hn;subst hb;subst hab;exact hn ha
theorem BD (h:kvs.map (·.1)=(ks.foldl Bi []).map Gv):(kvs.map (·.1)).Nodup:=by
 rw[h,ZB,Df];exact(aY ks [] Nk).imp λhne e=>hne (Ub e)
theorem TN {j:Ai}(h:S[j]? = Ab (.lst xs))(hl:xs.length<lim)(d:D):wC (.loc j) [d] S=.ok .non (S.set j (.lst (xs++[d]))):=y8 (CP h hl ⟨rfl,rfl⟩)
theorem i3 {β:Type}{key:β->Ak}{enc:β->D}{prs:Aa β}(I:GI key enc n prs kvs S)(x:β)(hl:prs.length<lim) :
  ∃ (j:Ai) (S1 S2:Sto) (kvs':Aa (_L.Key × D)),xV (.loc n) [.int (key x),.loc S.length] (S++[.lst []]) = .ok (.loc j) S1/\tyD (.loc j) S1=Ab "list" /\ wC (.loc j) [enc x] S1=.ok .non S2/\GI key enc n (prs++[x]) kvs' S2/\∀ m,m<n->S2[m]? = S[m]?:=by
 have hnS:n<S.length:=(Bd.mp I.dict).1;have hd:(S++[MO.lst []])[n]? = Ab (.dct kvs):=by rw[Be hnS];exact I.dict
 have hkl:kvs.length<=prs.length:=by
  have h1:kvs.length=(kvs.map (·.1)).length:=by simp
  rw[h1,I.keys,Au];have:=mF (ks:=prs.map key) (l:=[]);simpa using this
 have hlim:kvs.length<lim:=by lia
 have jlt:∀ {f:Ak} {j:Ai},((Gv f:_L.Key),D.loc j)∈kvs->n<j/\j<S.length/\S[j]? = Ab (.lst ((prs.filter λx=>key x == f).map enc)):=by
  intro f j hm;obtain⟨f',j',e,h1,h2⟩:=I.lists _ hm;cases e;exact⟨h1,(Bd.mp h2).1,h2⟩
 cases hv:x8 kvs (.inl (key x)) with
 |some d =>
  have hm:=mW hv;obtain⟨f,j,e,h1,h2⟩:=I.lists _ hm;have e1:f=key x:=by
   have:=congrArg Prod.fst e;exact(Ub this).symm
  have e2:d=.loc j:=congrArg Prod.snd e;subst e1;subst e2;have hjS:=(Bd.mp h2).1;have h2':(S++[MO.lst []])[j]? = Ab (.lst ((prs.filter λy=>key y == key x).map enc)):=by rw[Be hjS];exact h2
  have hll:((prs.filter λy=>key y == key x).map enc).length<lim:=by
   rw[Au];have:=Ov (λy=>key y == key x) prs
   lia
  refine⟨j,S++[MO.lst []],(S++[MO.lst []]).set j (.lst ((prs.filter λy=>key y == key x).map enc++[enc x])),kvs,?_,?_,?_,⟨?_,?_,I.nd,?_⟩,?_⟩
  .exact MB hd rfl hv
  .exact G9 h2'
  .exact TN h2' hll _
  .rw[Cq li];exact hd
  .intro kv hk
   obtain⟨f',j',rfl,h3,h4⟩:=I.lists kv hk;refine⟨f',j',rfl,h3,?_⟩;have hj':=(Bd.mp h4).1;by_cases hjj:j=j'
   .subst hjj
    have hff:f'=key x:=Ub (congrArg Prod.fst (WC (f:=(·.2)) I.nd hk hm rfl))
    subst hff;rw[Er (by simp;lia)]
    rw[Mw];simp
   .rw[Cq hjj,Be hj',h4]
    have hne:(key x == f')=false:=by
     rw[Jv];rintro rfl;exact hjj (D.loc.inj (congrArg Prod.snd (WC (f:=(·.1)) (BD I.keys) hm hk rfl)))
    rw[Mw];simp[hne]
  .rw[Hx,Yl]
   show _=(Bi ((prs.map key).foldl Bi []) (key x)).map Gv;have hin:key x∈(prs.map key).foldl Bi []:=by
    have:(Gv (key x):_L.Key)∈kvs.map (·.1):=Bj.mpr ⟨_,hm,rfl⟩
    rw[I.keys] at this;obtain⟨y,hy,e⟩:=Bj.mp this;cases e;exact hy
   rw[MI hin];exact I.keys
  .intro m hm
   rw[Cq li,Be li]
 |none =>
  have hno:=mV hv;have hput:yO kvs (.inl (key x)) (.loc S.length)=kvs++[(.inl (key x),.loc S.length)]:=by
   unfold yO;rw[Bb];rw[List.any_eq_true];rintro⟨kv,hk,e⟩;exact hno kv hk (by simpa using e)
  have hfn:key x ∉ prs.map key:=by
   intro hin;have:(Gv (key x):_L.Key)∈kvs.map (·.1):=by
    rw[I.keys];exact Bj.mpr ⟨_,xE.mpr (.inr hin),rfl⟩
   obtain⟨kv,hk,e⟩:=Bj.mp this;exact hno kv hk e
  have hS1:((S++[MO.lst []]).set n (.dct (kvs++[(Gv (key x),.loc S.length)])))[S.length]? = Ab (.lst []):=by
   rw[Cq li];simp
  refine⟨S.length,(S++[MO.lst []]).set n (.dct (kvs++[(.inl (key x),.loc S.length)])),((S++[MO.lst []]).set n (.dct (kvs++[(.inl (key x),.loc S.length)]))).set S.length (.lst [enc x]),kvs++[(.inl (key x),.loc S.length)],?_,?_,?_,⟨?_,?_,?_,?_⟩,?_⟩
  .rw[<- hput]
   exact MA hd rfl hv hlim
  .exact G9 hS1
  .have:(0:Ai)<lim:=by decide
   exact TN hS1 this _
  .rw[Cq li,Er (by simp;lia)]
  .intro kv hk
   rcases Cn.mp hk with hk|hk
   .obtain⟨f',j',rfl,h3,h4⟩:=I.lists kv hk
    have hj':=(Bd.mp h4).1;refine⟨f',j',rfl,h3,?_⟩;rw[Cq li,Cq li,Be hj',h4];have hne:(key x == f')=false:=by
     rw[Jv];intro e;exact hno _ hk (by rw[e])
    rw[Mw];simp[hne]
   .have:kv=(.inl (key x),.loc S.length):=by simpa using hk
    subst this;refine⟨key x,S.length,rfl,hnS,?_⟩;rw[Er (by simp)]
    have:(prs.filter λy=>key y == key x)=[]:=by
     rw[Ua];intro y hy e;exact hfn (by rw[<- (by simpa using e:key y=key x)];exact Bj.mpr ⟨y,hy,rfl⟩)
    rw[Mw,this];simp
  .rw[Hx,No]
   refine⟨I.nd,by simp,?_⟩
   intro a ha b hb hab;simp at hb;subst hb;subst hab;obtain⟨kv,hk,e⟩:=Bj.mp ha;obtain⟨f',j',rfl,h3,h4⟩:=I.lists kv hk;have hj':=(Bd.mp h4).1;have:j'=S.length:=D.loc.inj e
   lia
  .rw[Hx,I.keys,Hx,Yl]
   show _=(Bi ((prs.map key).foldl Bi []) (key x)).map Gv;have hin:key x ∉ (prs.map key).foldl Bi []:=by
    intro h;rcases xE.mp h with h|h
    .simp at h
    .exact hfn h
   rw[JN hin,Hx];rfl
  .intro m hm
   rw[Cq li,Cq li,Be li]
theorem fS (l:Aa Pt):(xJ l).length<=l.length*l.length:=by
 induction l with
 |nil=>simp[xJ]
 |cons p l ih =>
  have e:(p::l).length*(p::l).length=l.length*l.length+l.length+l.length+1:=by
   simp only[By,Nat.add_mul,Nat.mul_add]
   lia
  rw[e];simp only[xJ,De,Au]
  lia
theorem c9 {S':Sto}(h:∀ m,m<S.length->S'[m]? = S[m]?):S<+:S':=by
 rw[List.prefix_iff_getElem?];intro i hi;rw[h i hi,Am hi]
theorem CL {l:Aa Pt}(h:l.length<=41):(xJ l).length<4000:=by
 have h1:=fS l;have h2:l.length*l.length<=41*41:=Ht h h
 lia
def kys (fs:Aa Ak):Aa Ak:=fs.foldl Bi []
def tbK (fs:Aa Ak):Aa (Aa Ak):=(kys fs).map λf=>[f,(fs.count f:Ak)]
def tbl (fs:Aa Ak):Aa (Aa Ak):=_S.xS _H.lexLt (tbK fs)
theorem VO (prs:Aa (Pt × Pt))(f:Ak):(prs.filter λx=>uL x == f).length=(prs.map uL).count f:=by
 rw[List.count,List.countP_map,List.countP_eq_length_filter];rfl
def ctD (fs:Aa Ak)(k:_L.Key):D:=match k with
 |.inl f=>.tup [.int f,.int (fs.count f:Ak)]
 |.inr _=>.non
theorem MF (ks:Aa (Aa Ak))(hl:ks.length<=100000)(he:∀ k∈ks,k≠[]):vL (ks.map tpD)=Ab ((_S.xS _H.lexLt ks).map tpD):=by
 unfold vL;cases ks with
 |nil =>
  have e1:_S.xS _S.ltI [] = []:=Mv;have e2:_S.xS _H.lexLt [] = []:=Mv;show (if ([] : Aa Ak).length<=100000 then Ab ((_S.xS _S.ltI []).map D.int) else none)=_
  rw[e1,e2,Bf (by simp)]
  rfl
 |cons k r =>
  have h0:xI ((k::r).map tpD)=none:=rfl;rw[h0,jK];have h2:((k::r).all λk=>!k.isEmpty)=true:=Bo.mpr λq hq=>by
   have:=he q hq;cases q with
   |nil=>exact absurd rfl this
   |cons _ _=>rfl
  have h3:(decide ((k::r).length<=100000)&&(k::r).all λk=>!k.isEmpty)=true:=by rw[h2,Cd hl];rfl
  show (if (decide ((k::r).length<=100000)&&(k::r).all λk=>!k.isEmpty)=true then _ else _)=_
  rw[Bf h3]
theorem PU (p q:Pt):far p q=far q p:=by
 have e:∀ a b:Ak,(a-b)*(a-b)=(b-a)*(b-a):=λa b=>by
  rw[<- Int.neg_sub b a,Int.neg_mul_neg]
 unfold far;rw[e p.1 q.1,e p.2 q.2]
theorem zX (p:Pt)(l:Aa Pt):fars (p::l)=l.map (far p)++fars l:=by
 unfold fars;rw[xJ,Hx,Eh];rfl
theorem XF {l m:Aa Pt}(h:l.Perm m):(fars l).Perm (fars m):=by
 induction h with
 |nil=>exact Lf _
 |cons x h ih=>rw[zX,zX];exact(h.map _).append ih
 |swap x y l =>
  rw[zX,zX,zX,zX,Dc,Dc,PU y x,Ka,Ka];refine List.Perm.cons _ ?_;rw[<- Cf,<- Cf];exact Iq _ Jd
 |trans _ _ h1 h2=>exact h1.trans h2
end _D
namespace _K
open PySem _D
theorem ET (b:Ar)(S:Sto):x5 (.bl b) S=Ab b:=rfl
theorem qAe (i:Ak)(S:Sto):x5 (.int i) S=Ab (i != 0):=rfl
theorem qAf (C:Ak->Ak->Ar)(f:Ak->Ak->D)(i j:Ak)(S:Sto):i2 C f (.int i) (.int j) S=if C i j=true then .ok (f i j) S else .bad:=rfl
theorem PY (i j:Ak)(S:Sto)(h : -(2 ^ 64)<i/\i<2 ^ 64):zR (.int i) (.int j) S=.ok (.int (i*j)) S:=by
 unfold zR i2;rw[fY];unfold nN;simp only[h,and_self,Jb,Xc,Dp]
theorem qAd (d:D)(S:Sto):Z4 (.rt d S)=.ok d S:=rfl
theorem qAc (e:qB)(S:Sto):Z4 (.nx e S)=.ok .non S:=rfl
theorem qAb (c:Ac)(x:D)(e:qB)(S:Sto):Z4 (.ex c x e S)=.ex c x S:=rfl
theorem qAC (i j:Ai)(env:qB)(S:Sto)(x y:D):c6 i j env S [x,y]=.nx ((env.set i (Ab x)).set j (Ab y)) S:=rfl
theorem qAZ (x:Aa D):x9 (.lst x)=Ab x:=rfl
theorem qAa (x:Aa D):x9 (.tup x)=Ab x:=rfl
end _K
open PySem _D _K
namespace _K
open PySem PySem.Spec PyProof.Rows _L _D
def top (i:Ai):Fq:=Qc.main.body.getD i (.Pass ⟨0,0,0,0⟩)
structure Cl where
 (FarError NoLot NoNumber:Af)
def Q4 (c:Cl):Aa Af:=[c.NoLot,c.NoNumber]
def N0 (c:Cl):Aa Ac:=[.ref c.NoLot,.ref c.NoNumber]
abbrev clt (c:Cl):Aa (Aq × Af):=[("FarError",c.FarError),("NoLot",c.NoLot),("NoNumber",c.NoNumber)]
abbrev plt (c:Cl):Aa (Aq × Af):=[("NoLot",c.NoLot),("NoNumber",c.NoNumber)]
abbrev cst:Aa (Aq × Ak):=[("LEAST_NUMBER",-1000),("MOST_NUMBER",1000),("MOST_POINTS_points",40),("MOST_SIDE",4),("MOST_POINTS_few",6)]
abbrev bl:Aa Aq:=["ValueError","all","bool","divmod","enumerate","int","isinstance","len","max","min","range","set","sorted","tuple","zip"]
abbrev tab:Aa (Aq × Ai × Aa Aq):=[(("board_points" : Aq),(1:Ai),[("w" : Aq),("h" : Aq)]),(("grown" : Aq),(2:Ai),[("lots" : Aq),("points" : Aq)]),(("lots_of" : Aq),(3:Ai),[("points" : Aq),("n" : Aq)]),(("is_whole" : Aq),(9:Ai),[("thing" : Aq)]),(("is_within" : Aq),(10:Ai),[("thing" : Aq),("least" : Aq),("most" : Aq)]),(("is_rising" : Aq),(11:Ai),[("some" : Aq)]),(("need_within" : Aq),(12:Ai),[("thing" : Aq),("least" : Aq),("most" : Aq)]),(("is_point" : Aq),(17:Ai),[("thing" : Aq)]),(("is_lot" : Aq),(18:Ai),[("thing" : Aq)]),(("need_lot" : Aq),(19:Ai),[("thing" : Aq)]),(("far_between" : Aq),(20:Ai),[("one" : Aq),("other" : Aq)]),(("pairs_by_far" : Aq),(21:Ai),[("points" : Aq)]),(("far_table" : Aq),(22:Ai),[("lot" : Aq)]),(("fars" : Aq),(23:Ai),[("lot" : Aq)]),(("lots_by_fars" : Aq),(27:Ai),[("w" : Aq),("h" : Aq),("n" : Aq)]),(("fewest" : Aq),(28:Ai),[("w" : Aq),("h" : Aq),("n" : Aq)]),(("few_lots" : Aq),(29:Ai),[("w" : Aq),("h" : Aq),("n" : Aq)]),(("first_few" : Aq),(30:Ai),[("w" : Aq),("h" : Aq),("n" : Aq)]),(("most_fars" : Aq),(31:Ai),[("w" : Aq),("h" : Aq),("n" : Aq)]),(("lots_of_most" : Aq),(32:Ai),[("w" : Aq),("h" : Aq),("n" : Aq)]),(("many_lots" : Aq),(33:Ai),[("w" : Aq),("h" : Aq),("n" : Aq)]),(("first_many" : Aq),(34:Ai),[("w" : Aq),("h" : Aq),("n" : Aq)]),(("many_fars" : Aq),(36:Ai),[("lot" : Aq)]),(("least_where" : Aq),(38:Ai),[("holds" : Aq),("most" : Aq)]),(("many_pairs" : Aq),(39:Ai),[("n" : Aq)]),(("by_hull" : Aq),(40:Ai),[("n" : Aq)]),(("pairs_of_shares" : Aq),(41:Ai),[("whole" : Aq),("n" : Aq)]),(("pair_bound" : Aq),(42:Ai),[("n" : Aq)]),(("by_pairs" : Aq),(43:Ai),[("n" : Aq)]),(("bar" : Aq),(44:Ai),[("n" : Aq)]),(("mirrored" : Aq),(46:Ai),[("lot" : Aq)]),(("_law_cell" : Aq),(48:Ai),[("_law_script" : Aq),("_law_k" : Aq)]),(("_law_pen" : Aq),(49:Ai),[("_law_cell_here" : Aq)]),(("_law_draw" : Aq),(50:Ai),[("_law_pen_here" : Aq),("_law_many" : Aq)]),(("_law_lots_right" : Aq),(51:Ai),[("_law_w" : Aq),("_law_h" : Aq),("_law_n" : Aq),("_law_least" : Aq)]),(("law" : Aq),(52:Ai),[("_law_script" : Aq)])]
abbrev Txt (K:Aj)(mg:Aq->Al Ac)(c:Cl):Prop:=TxS K mg top tab bl (clt c) (plt c) (N0 c) (Q4 c) cst
abbrev D7:Aa Aq:=["by_hull","pair_bound"]
@[reducible] def b_board_points:DS:=qW (zK false [none,none,Ab 1] (wG (uI (q8 (q9 0) (qA)))) (gNm 0) (xM) (kIn (wG (uI (q8 (q9 2) (qA)))) (gNm 1) (xM) (zM (vS (q8 (q9 0) (q8 (q9 1) (qA)))))))
@[irreducible] def S_board_points:DF:=sh (qM 2 b_board_points)
theorem vT:S_board_points=qM 2 b_board_points:=by delta S_board_points;exact zE _
@[reducible] def b_grown:DS:=qW (zK false [none,none,Ab 1] (dIt (q9 0)) (gNm 0) (xM) (kIn (dIt (q9 2)) (gNm 1) (wV (dTr (d2 l4 (q9 1) (d2 gIx (q9 0) (d1 mG (dC (.int 1)))))) (xM)) (zM (d2 zW (q9 0) (vS (q8 (q9 1) (qA)))))))
@[irreducible] def S_grown:DF:=sh (qM 2 b_grown)
theorem mY:S_grown=qM 2 b_grown:=by delta S_grown;exact zE _
@[reducible] def b_lots_of:DS:=qY (zP (zK false [none] (dIt (q9 0)) (gNm 0) (xM) (zM (vS (q8 (q9 0) (qA))))) (gNm 2)) (qY (uW (uI (q8 (d2 yD (q9 1) (dC (.int 1))) (qA))) (gNm 3) (zP (qI 2 S_grown (q8 (q9 2) (q8 (q9 0) (qA)))) (gNm 2))) (qW (q9 2)))
@[irreducible] def S_lots_of:DF:=sh (qM 4 b_lots_of)
theorem pP:S_lots_of=qM 4 b_lots_of:=by delta S_lots_of;exact zE _
@[reducible] def b_is_whole:DS:=qW (nP (qS uK (q8 (q9 0) (q8 (dC (.ty "int")) (qA)))) (YZ (qS uK (q8 (q9 0) (q8 (dC (.ty "bool")) (qA))))))
@[irreducible] def S_is_whole:DF:=sh (qM 1 b_is_whole)
theorem pF:S_is_whole=qM 1 b_is_whole:=by delta S_is_whole;exact zE _
@[reducible] def b_is_within:DS:=qW (nP (qI 1 S_is_whole (q8 (q9 0) (qA))) (xU gLe gLe (q9 1) (q9 0) (q9 2)))
@[irreducible] def S_is_within:DF:=sh (qM 3 b_is_within)
theorem jX:S_is_within=qM 3 b_is_within:=by delta S_is_within;exact zE _
@[reducible] def b_is_rising:DS:=qW (qS (mD false) (q8 (zK false [none,none] (wG (Q7 (q8 (q9 0) (q8 (dSl (q9 0) (wB (dC (.int 1))) (vM)) (qA))))) (gTp 2 (xF (gNm 0) (xF (gNm 1) (vY)))) (xM) (zM (d2 l6 (q9 0) (q9 1)))) (qA)))
@[irreducible] def S_is_rising:DF:=sh (qM 1 b_is_rising)
theorem jW:S_is_rising=qM 1 b_is_rising:=by delta S_is_rising;exact zE _
@[reducible] def b_need_within (c:Cl):DS:=sIf (yX (dTr (qI 3 S_is_within (q8 (q9 0) (q8 (q9 1) (q8 (q9 2) (qA))))))) (bF (.ref c.NoNumber) (q8 (Q6 [dC (.str "a whole number from "),d1 l3 (q9 1),dC (.str " to "),d1 l3 (q9 2),dC (.str " is needed")]) (qA))) (xD)
@[irreducible] def S_need_within (c:Cl):DF:=sh (qM 3 (b_need_within c))
theorem uG (c:Cl):S_need_within c=qM 3 (b_need_within c):=by delta S_need_within;exact zE _
@[reducible] def b_is_point:DS:=qY (sIf (yC (yX (dTr (qS uK (q8 (q9 0) (q8 (dC (.ty "tuple")) (qA)))))) (dTr (d2 gNe (qS wY (q8 (q9 0) (qA))) (dC (.int 2))))) (qW (dC (.bl false))) (xD)) (qW (qS (mD false) (q8 (zK false [none] (dIt (q9 0)) (gNm 0) (xM) (zM (qI 3 (okO S_is_within) (q8 (q9 0) (q8 (dC (.int (-1000))) (q8 (dC (.int (1000))) (qA))))))) (qA))))
@[irreducible] def S_is_point:DF:=sh (qM 1 b_is_point)
theorem pE:S_is_point=qM 1 b_is_point:=by delta S_is_point;exact zE _
@[reducible] def b_is_lot:DS:=qY (sIf (yC (yX (dTr (qS uK (q8 (q9 0) (q8 (dC (.ty "tuple")) (qA)))))) (yX (dTr (xU gLe gLe (dC (.int 1)) (qS wY (q8 (q9 0) (qA))) (dC (.int (40))))))) (qW (dC (.bl false))) (xD)) (qW (nP (qS (mD false) (q8 (zK false [none] (dIt (q9 0)) (gNm 0) (xM) (zM (qI 1 (okO S_is_point) (q8 (q9 0) (qA))))) (qA))) (qI 1 S_is_rising (q8 (q9 0) (qA)))))
@[irreducible] def S_is_lot:DF:=sh (qM 1 b_is_lot)
theorem fL:S_is_lot=qM 1 b_is_lot:=by delta S_is_lot;exact zE _
@[reducible] def b_need_lot (c:Cl):DS:=sIf (yX (dTr (qI 1 S_is_lot (q8 (q9 0) (qA))))) (bF (.ref c.NoLot) (q8 (dC (.str "a lot is needed")) (qA))) (xD)
@[irreducible] def S_need_lot (c:Cl):DF:=sh (qM 1 (b_need_lot c))
theorem pH (c:Cl):S_need_lot c=qM 1 (b_need_lot c):=by delta S_need_lot;exact zE _
@[reducible] def b_far_between:DS:=qY (zP (d2 yD (d2 gIx (q9 0) (dC (.int 0))) (d2 gIx (q9 1) (dC (.int 0)))) (gNm 2)) (qY (zP (d2 yD (d2 gIx (q9 0) (dC (.int 1))) (d2 gIx (q9 1) (dC (.int 1)))) (gNm 3)) (qW (d2 zW (d2 zR (q9 2) (q9 2)) (d2 zR (q9 3) (q9 3)))))
@[irreducible] def S_far_between:DF:=sh (qM 4 b_far_between)
theorem uF:S_far_between=qM 4 b_far_between:=by delta S_far_between;exact zE _
@[reducible] def b_pairs_by_far:DS:=qY (zP (rY) (gNm 1)) (qY (uW (sS (q8 (q9 0) (qA))) (gTp 2 (xF (gNm 2) (xF (gNm 3) (vY)))) (uW (yH (dSl (q9 0) (wB (d2 zW (q9 2) (dC (.int 1)))) (vM))) (gNm 4) (w9 (dBm "list" wC (dBm "dict" xV (q9 1) (q8 (qI 2 S_far_between (q8 (q9 3) (q8 (q9 4) (qA)))) (q8 (kX (qA)) (qA)))) (q8 (vS (q8 (q9 3) (q8 (q9 4) (qA)))) (qA)))))) (qW (q9 1)))
@[irreducible] def S_pairs_by_far:DF:=sh (qM 5 b_pairs_by_far)
theorem vW:S_pairs_by_far=qM 5 b_pairs_by_far:=by delta S_pairs_by_far;exact zE _
@[reducible] def b_far_table (c:Cl):DS:=qY (w9 (qI 1 (S_need_lot c) (q8 (q9 0) (qA)))) (qW (qS u9 (q8 (zK false [none,none] (wG (t7 (qI 1 S_pairs_by_far (q8 (q9 0) (qA))))) (gTp 2 (xF (gNm 0) (xF (gNm 1) (vY)))) (xM) (zM (vS (q8 (q9 0) (q8 (qS wY (q8 (q9 1) (qA))) (qA)))))) (qA))))
@[irreducible] def S_far_table (c:Cl):DF:=sh (qM 1 (b_far_table c))
theorem jU (c:Cl):S_far_table c=qM 1 (b_far_table c):=by delta S_far_table;exact zE _
@[reducible] def b_fars (c:Cl):DS:=qW (zK false [none,none] (dIt (qI 1 (S_far_table c) (q8 (q9 0) (qA)))) (gTp 2 (xF (gNm 0) (xF (gNm 1) (vY)))) (xM) (zM (q9 0)))
@[irreducible] def S_fars (c:Cl):DF:=sh (qM 1 (b_fars c))
theorem d7 (c:Cl):S_fars c=qM 1 (b_fars c):=by delta S_fars;exact zE _
@[reducible] def b_lots_by_fars (c:Cl):DS:=qY (w9 (qI 3 (S_need_within c) (q8 (q9 0) (q8 (dC (.int 1)) (q8 (dC (.int (4))) (qA)))))) (qY (w9 (qI 3 (S_need_within c) (q8 (q9 1) (q8 (dC (.int 1)) (q8 (dC (.int (4))) (qA)))))) (qY (w9 (qI 3 (S_need_within c) (q8 (q9 2) (q8 (dC (.int 1)) (q8 (qS jC (q8 (dC (.int (6))) (q8 (d2 zR (q9 0) (q9 1)) (qA)))) (qA)))))) (qY (zP (rY) (gNm 3)) (qY (uW (yH (qI 2 S_lots_of (q8 (qI 2 S_board_points (q8 (q9 0) (q8 (q9 1) (qA)))) (q8 (q9 2) (qA))))) (gNm 4) (w9 (dBm "list" wC (dBm "dict" xV (q9 3) (q8 (qS bS (q8 (qI 1 S_pairs_by_far (q8 (q9 4) (qA))) (qA))) (q8 (kX (qA)) (qA)))) (q8 (q9 4) (qA))))) (qW (q9 3))))))
@[irreducible] def S_lots_by_fars (c:Cl):DF:=sh (qM 5 (b_lots_by_fars c))
theorem vU (c:Cl):S_lots_by_fars c=qM 5 (b_lots_by_fars c):=by delta S_lots_by_fars;exact zE _
@[reducible] def b_fewest (c:Cl):DS:=qW (qS bU (q8 (qI 3 (S_lots_by_fars c) (q8 (q9 0) (q8 (q9 1) (q8 (q9 2) (qA))))) (qA)))
@[irreducible] def S_fewest (c:Cl):DF:=sh (qM 3 (b_fewest c))
theorem fK (c:Cl):S_fewest c=qM 3 (b_fewest c):=by delta S_fewest;exact zE _
@[reducible] def b_few_lots (c:Cl):DS:=qY (zP (qI 3 (S_lots_by_fars c) (q8 (q9 0) (q8 (q9 1) (q8 (q9 2) (qA))))) (gNm 3)) (qW (d2 pV (q9 3) (qS bU (q8 (q9 3) (qA)))))
@[irreducible] def S_few_lots (c:Cl):DF:=sh (qM 4 (b_few_lots c))
theorem pD (c:Cl):S_few_lots c=qM 4 (b_few_lots c):=by delta S_few_lots;exact zE _
@[reducible] def b_first_few (c:Cl):DS:=qW (d2 gIx (qI 3 (S_few_lots c) (q8 (q9 0) (q8 (q9 1) (q8 (q9 2) (qA))))) (dC (.int 0)))
@[irreducible] def S_first_few (c:Cl):DF:=sh (qM 3 (b_first_few c))
theorem jV (c:Cl):S_first_few c=qM 3 (b_first_few c):=by delta S_first_few;exact zE _
@[reducible] def b_most_fars (c:Cl):DS:=qW (qS bT (q8 (qI 3 (S_lots_by_fars c) (q8 (q9 0) (q8 (q9 1) (q8 (q9 2) (qA))))) (qA)))
@[irreducible] def S_most_fars (c:Cl):DF:=sh (qM 3 (b_most_fars c))
theorem k8 (c:Cl):S_most_fars c=qM 3 (b_most_fars c):=by delta S_most_fars;exact zE _
@[reducible] def b_lots_of_most (c:Cl):DS:=qY (zP (qI 3 (S_lots_by_fars c) (q8 (q9 0) (q8 (q9 1) (q8 (q9 2) (qA))))) (gNm 3)) (qW (d2 pV (q9 3) (qS bT (q8 (q9 3) (qA)))))
@[irreducible] def S_lots_of_most (c:Cl):DF:=sh (qM 4 (b_lots_of_most c))
theorem vV (c:Cl):S_lots_of_most c=qM 4 (b_lots_of_most c):=by delta S_lots_of_most;exact zE _
@[reducible] def b_many_lots (c:Cl):DS:=qW (qS wY (q8 (qI 3 (S_lots_of_most c) (q8 (q9 0) (q8 (q9 1) (q8 (q9 2) (qA))))) (qA)))
@[irreducible] def S_many_lots (c:Cl):DF:=sh (qM 3 (b_many_lots c))
theorem jZ (c:Cl):S_many_lots c=qM 3 (b_many_lots c):=by delta S_many_lots;exact zE _
@[reducible] def b_first_many (c:Cl):DS:=qW (d2 gIx (qI 3 (S_lots_of_most c) (q8 (q9 0) (q8 (q9 1) (q8 (q9 2) (qA))))) (dC (.int 0)))
@[irreducible] def S_first_many (c:Cl):DF:=sh (qM 3 (b_first_many c))
theorem uZ (c:Cl):S_first_many c=qM 3 (b_first_many c):=by delta S_first_many;exact zE _
@[reducible] def b_many_fars (c:Cl):DS:=qW (qS wY (q8 (qI 1 (S_fars c) (q8 (q9 0) (qA))) (qA)))
@[irreducible] def S_many_fars (c:Cl):DF:=sh (qM 1 (b_many_fars c))
theorem jY (c:Cl):S_many_fars c=qM 1 (b_many_fars c):=by delta S_many_fars;exact zE _
@[reducible] def b_least_where (G:Aa D->DF)(a:Af)(cv:Aa V):DS:=qY (zP (dC (.int 0)) (gNm 2)) (qY (zP (q9 1) (gNm 3)) (qY (nB (dTr (d2 gLt (q9 2) (q9 3))) (qY (zP (d2 uN (d2 zW (q9 2) (q9 3)) (dC (.int 2))) (gNm 4)) (sIf (dTr (mB 0 (q8 (q9 4) (qA)) a cv 1 G)) (zP (q9 4) (gNm 3)) (zP (d2 zW (q9 4) (dC (.int 1))) (gNm 2))))) (qW (q9 2))))
@[reducible] def b_many_pairs:DS:=qW (d2 uN (d2 zR (q9 0) (d2 yD (q9 0) (dC (.int 1)))) (dC (.int 2)))
@[irreducible] def S_many_pairs:DF:=sh (qM 1 b_many_pairs)
theorem j3:S_many_pairs=qM 1 b_many_pairs:=by delta S_many_pairs;exact zE _
@[reducible] def b_by_hull (c:Cl):DS:=qY (w9 (qI 3 (S_need_within c) (q8 (q9 0) (q8 (dC (.int 1)) (q8 (d2 pW (dC (.int 10)) (dC (.int 18))) (qA)))))) (qW (kA false [0] 2 5 (q8 (d2 pW (dC (.int 10)) (dC (.int 9))) (qA)) (b_least_where (lG (d2 gGe (d2 zW (d2 zR (q9 0) (q9 0)) (q9 0)) (d2 yD (q9 1) (dC (.int 1))))))))
@[irreducible] def S_by_hull (c:Cl):DF:=sh (qM 1 (b_by_hull c))
theorem pO (c:Cl):S_by_hull c=qM 1 (b_by_hull c):=by delta S_by_hull;exact zE _
@[reducible] def b_pairs_of_shares:DS:=qY (zP (qS bR (q8 (q9 0) (q8 (q9 1) (qA)))) (gTp 2 (xF (gNm 2) (xF (gNm 3) (vY))))) (qW (d2 zW (d2 zR (q9 1) (qI 1 S_many_pairs (q8 (q9 2) (qA)))) (d2 zR (q9 3) (q9 2))))
@[irreducible] def S_pairs_of_shares:DF:=sh (qM 4 b_pairs_of_shares)
theorem yW:S_pairs_of_shares=qM 4 b_pairs_of_shares:=by delta S_pairs_of_shares;exact zE _
@[reducible] def b_pair_bound (c:Cl):DS:=qY (w9 (qI 3 (S_need_within c) (q8 (q9 0) (q8 (dC (.int 1)) (q8 (d2 pW (dC (.int 10)) (dC (.int 6))) (qA)))))) (qW (d2 yD (kA false [0] 2 5 (q8 (d2 zR (q9 0) (q9 0)) (qA)) (b_least_where (lG (d2 gGt (qI 2 S_pairs_of_shares (q8 (d2 zR (dC (.int 2)) (q9 0)) (q8 (q9 1) (qA)))) (d2 zR (q9 1) (d2 yD (q9 1) (dC (.int 1)))))))) (dC (.int 1))))
@[irreducible] def S_pair_bound (c:Cl):DF:=sh (qM 1 (b_pair_bound c))
theorem j6 (c:Cl):S_pair_bound c=qM 1 (b_pair_bound c):=by delta S_pair_bound;exact zE _
@[reducible] def b_by_pairs (c:Cl):DS:=qY (zP (qI 1 (S_pair_bound c) (q8 (q9 0) (qA))) (gNm 1)) (qW (dIf (dTr (d2 gEq (q9 0) (dC (.int 1)))) (dC (.int 0)) (d2 uN (d2 yD (d2 zW (qI 1 S_many_pairs (q8 (q9 0) (qA))) (q9 1)) (dC (.int 1))) (q9 1))))
@[irreducible] def S_by_pairs (c:Cl):DF:=sh (qM 2 (b_by_pairs c))
theorem pC (c:Cl):S_by_pairs c=qM 2 (b_by_pairs c):=by delta S_by_pairs;exact zE _
@[reducible] def b_bar (c:Cl):DS:=qY (w9 (qI 3 (S_need_within c) (q8 (q9 0) (q8 (dC (.int 1)) (q8 (d2 pW (dC (.int 10)) (dC (.int 6))) (qA)))))) (qW (qS sU (q8 (qI 1 (S_by_hull c) (q8 (q9 0) (qA))) (q8 (qI 1 (S_by_pairs c) (q8 (q9 0) (qA))) (qA)))))
@[irreducible] def S_bar (c:Cl):DF:=sh (qM 1 (b_bar c))
theorem rF (c:Cl):S_bar c=qM 1 (b_bar c):=by delta S_bar;exact zE _
@[reducible] def b_mirrored (c:Cl):DS:=qY (w9 (qI 1 (S_need_lot c) (q8 (q9 0) (qA)))) (qW (qS tH (q8 (qS u9 (q8 (zK false [none,none] (dIt (q9 0)) (gTp 2 (xF (gNm 0) (xF (gNm 1) (vY)))) (xM) (zM (vS (q8 (q9 1) (q8 (q9 0) (qA)))))) (qA))) (qA))))
@[irreducible] def S_mirrored (c:Cl):DF:=sh (qM 1 (b_mirrored c))
theorem pG (c:Cl):S_mirrored c=qM 1 (b_mirrored c):=by delta S_mirrored;exact zE _
@[reducible] def b__law_cell:DS:=qY (sIf (dTr (d2 gLt (q9 1) (qS wY (q8 (q9 0) (qA))))) (qW (d2 gIx (q9 0) (q9 1))) (xD)) (qW (dC (.int 0)))
@[irreducible] def S__law_cell:DF:=sh (qM 2 b__law_cell)
theorem jS:S__law_cell=qM 2 b__law_cell:=by delta S__law_cell;exact zE _
@[reducible] def b__law_pen:DS:=qW (kX (q8 (q9 0) (q8 (qS QD (q8 (d2 gGe (q9 0) (d2 pW (dC (.int 10)) (dC (.int 18)))) (qA))) (qA))))
@[irreducible] def S__law_pen:DF:=sh (qM 1 b__law_pen)
theorem pB:S__law_pen=qM 1 b__law_pen:=by delta S__law_pen;exact zE _
@[reducible] def b__law_draw:DS:=qY (sIf (dTr (d2 gEq (d2 gIx (q9 0) (dC (.int 1))) (dC (.int 1)))) (qY (zP (d2 gB (d2 gIx (q9 0) (dC (.int 0))) (q9 1)) (gNm 2)) (qY (zP (d2 uN (d2 gIx (q9 0) (dC (.int 0))) (q9 1)) (gSb (q9 0) (dC (.int 0)) vJ)) (qW (q9 2)))) (xD)) (qY (zP (d2 gB (d2 zW (d2 zR (d2 gB (d2 gIx (q9 0) (dC (.int 0))) (dC (.int 2147483629))) (dC (.int 48271))) (dC (.int 11))) (dC (.int 2147483629))) (gSb (q9 0) (dC (.int 0)) vJ)) (qW (d2 gB (d2 uN (d2 gB (d2 zW (d2 zR (d2 gIx (q9 0) (dC (.int 0))) (d2 gIx (q9 0) (dC (.int 0)))) (d2 zR (dC (.int 40692)) (d2 gIx (q9 0) (dC (.int 0))))) (dC (.int 2147483647))) (dC (.int 8))) (q9 1))))
@[irreducible] def S__law_draw:DF:=sh (qM 3 b__law_draw)
theorem jT:S__law_draw=qM 3 b__law_draw:=by delta S__law_draw;exact zE _
@[reducible] def b__law_lots_right (c:Cl):DS:=qY (zP (qI 3 (S_few_lots c) (q8 (q9 0) (q8 (q9 1) (q8 (q9 2) (qA))))) (gNm 4)) (qY (sIf (yC (dTr (d2 (u3 gNe) (q9 4) (jA false (q9 4)))) (dTr (d2 (u3 gNe) (qI 3 (S_first_few c) (q8 (q9 0) (q8 (q9 1) (q8 (q9 2) (qA))))) (d2 gIx (q9 4) (dC (.int 0)))))) (qW (dC (.bl false))) (xD)) (qY (uW (yH (d2 zW (dSl (q9 4) (vM) (wB (dC (.int 20)))) (dSl (q9 4) (wB (d1 mG (dC (.int 20)))) (vM)))) (gNm 5) (qY (sIf (yC (dTr (d2 l5 (qI 1 S_is_lot (q8 (q9 5) (qA))) (dC (.bl true)))) (yC (dTr (d2 gNe (qS wY (q8 (q9 5) (qA))) (q9 2))) (dTr (d2 gNe (qI 1 (S_many_fars c) (q8 (q9 5) (qA))) (q9 3))))) (qW (dC (.bl false))) (xD)) (sIf (dTr (d2 gNe (zK false [none,Ab 1,Ab 0] (dIt (q9 5)) (gNm 0) (wV (yC (dTr (d2 gGe (d2 gIx (q9 0) (dC (.int 0))) (q9 2))) (yC (dTr (d2 gGe (d2 gIx (q9 0) (dC (.int 1))) (q9 1))) (dTr (d2 gLt (qS sV (q8 (q9 0) (qA))) (dC (.int 0)))))) (xM)) (zM (q9 0))) (nQ (qA)))) (qW (dC (.bl false))) (xD)))) (qW (d2 (u3 gEq) (qS tG (q8 (zK false [none] (dIt (q9 4)) (gNm 0) (xM) (zM (qI 1 (okO (S_mirrored c)) (q8 (q9 0) (qA))))) (qA))) (qI 3 (S_few_lots c) (q8 (q9 1) (q8 (q9 0) (q8 (q9 2) (qA)))))))))
@[irreducible] def S__law_lots_right (c:Cl):DF:=sh (qM 6 (b__law_lots_right c))
theorem yV (c:Cl):S__law_lots_right c=qM 6 (b__law_lots_right c):=by delta S__law_lots_right;exact zE _
@[reducible] def b_law (c:Cl):DS:=qY (sIf (yX (dTr (xU gLe gLe (dC (.int 2)) (qI 3 (S_fewest c) (q8 (dC (.int 4)) (q8 (dC (.int 4)) (q8 (dC (.int 6)) (qA))))) (qI 3 (S_most_fars c) (q8 (dC (.int 4)) (q8 (dC (.int 4)) (q8 (dC (.int 6)) (qA)))))))) (qW (dC (.bl false))) (xD)) (qY (uW (yH (d2 zW (nQ (q8 (qI 2 S__law_cell (q8 (q9 0) (q8 (dC (.int 0)) (qA)))) (qA))) (dSl (q9 0) (wB (dC (.int 1))) (wB (dC (.int 2)))))) (gNm 1) (qY (zP (qI 1 S__law_pen (q8 (q9 1) (qA))) (gNm 2)) (qY (lY 3 4 (q8 (d2 zW (dC (.int 1)) (qI 2 S__law_draw (q8 (q9 2) (q8 (dC (.int 4)) (qA))))) (q8 (d2 zW (dC (.int 1)) (qI 2 S__law_draw (q8 (q9 2) (q8 (dC (.int 4)) (qA))))) (qA)))) (qY (zP (d2 zW (dC (.int 1)) (qI 2 S__law_draw (q8 (q9 2) (q8 (qS jC (q8 (dC (.int 4)) (q8 (d2 zR (q9 3) (q9 4)) (qA)))) (qA))))) (gNm 5)) (qY (lY 6 7 (q8 (qI 3 (S_fewest c) (q8 (q9 3) (q8 (q9 4) (q8 (q9 5) (qA))))) (q8 (qI 3 (S_most_fars c) (q8 (q9 3) (q8 (q9 4) (q8 (q9 5) (qA))))) (qA)))) (qY (sIf (yC (yX (dTr (d2 gLe (q9 6) (q9 7)))) (yC (dTr (d2 gLt (q9 6) (qI 1 (S_bar c) (q8 (q9 5) (qA))))) (yC (wV (dTr (d2 gGt (q9 5) (dC (.int 2)))) (dTr (d2 gLt (q9 6) (dC (.int 2))))) (dTr (d2 gGt (q9 7) (d2 uN (d2 zR (q9 5) (d2 yD (q9 5) (dC (.int 1)))) (dC (.int 2)))))))) (qW (dC (.bl false))) (xD)) (qY (sIf (yC (yX (dTr (qI 4 (S__law_lots_right c) (q8 (q9 3) (q8 (q9 4) (q8 (q9 5) (q8 (q9 6) (qA)))))))) (dTr (d2 gNe (qI 1 (S_many_fars c) (q8 (qI 3 (S_first_many c) (q8 (q9 3) (q8 (q9 4) (q8 (q9 5) (qA))))) (qA))) (q9 7)))) (qW (dC (.bl false))) (xD)) (qY (sIf (yC (dTr (d2 gNe (qI 3 (S_most_fars c) (q8 (q9 4) (q8 (q9 3) (q8 (q9 5) (qA))))) (q9 7))) (yC (dTr (d2 gNe (qI 3 (S_many_lots c) (q8 (q9 4) (q8 (q9 3) (q8 (q9 5) (qA))))) (qI 3 (S_many_lots c) (q8 (q9 3) (q8 (q9 4) (q8 (q9 5) (qA))))))) (dTr (d2 gLt (qI 3 (S_many_lots c) (q8 (q9 3) (q8 (q9 4) (q8 (q9 5) (qA))))) (dC (.int 1)))))) (qW (dC (.bl false))) (xD)) (qY (sIf (wV (dTr (d2 gLt (q9 5) (qS jC (q8 (dC (.int 6)) (q8 (d2 zR (q9 3) (q9 4)) (qA)))))) (dTr (d2 gLt (qI 3 (S_fewest c) (q8 (q9 3) (q8 (q9 4) (q8 (d2 zW (q9 5) (dC (.int 1))) (qA))))) (q9 6)))) (qW (dC (.bl false))) (xD)) (qY (sIf (wV (dTr (d2 gLt (q9 3) (dC (.int 4)))) (dTr (d2 gGt (qI 3 (S_fewest c) (q8 (d2 zW (q9 3) (dC (.int 1))) (q8 (q9 4) (q8 (q9 5) (qA))))) (q9 6)))) (qW (dC (.bl false))) (xD)) (sIf (wV (dTr (d2 gLt (q9 3) (dC (.int 4)))) (dTr (d2 gLt (qI 3 (S_most_fars c) (q8 (d2 zW (q9 3) (dC (.int 1))) (q8 (q9 4) (q8 (q9 5) (qA))))) (q9 7)))) (qW (dC (.bl false))) (xD)))))))))))) (qW (dC (.bl true))))
end _K
namespace _K
open PySem _D
variable {L:Aa (Aa Pt)}{kvs:Aa (_L.Key × D)}{ds:Aa Ak}{caps:Aa D}{m pts:Aa Pt}{n j:Ai}{d:D}{f:DE}{q:Pt}{env:qB}
theorem M5 (h:Pn d)(S:Sto):S_is_whole [d] S=.ok (.bl (isW d)) S:=by
 rw[pF];obtain⟨p,h⟩:=h;cases d <;> first|kernel_rfl!|simp[pyD] at h
theorem cC (h:Pn d)(a b:Ak)(S:Sto):S_is_within [d,.int a,.int b] S=.ok (.bl (inR a b d)) S:=by
 rw[jX];refine y8 (zI (env:=[Ab d,Ab (.int a),Ab (.int b)]) rfl ?_);rfl';refine KL ?_;rfl';refine qO (M5 h S) ⟨_,rfl,λe=>?_,λe=>?_⟩
 .cases d with
  |int i=>exact iV rfl rfl rfl ⟨rfl,rfl⟩
  |_=>cases e
 .cases d <;> first|exact⟨rfl,rfl⟩|cases e
theorem Z6 (h:Pn d)(S:Sto):S_is_point [d] S=.ok (.bl (yE d)) S:=by
 rw[pE];refine y8 (zI (env:=[Ab d]) rfl ?_);rfl';refine y7 ?_;rfl';refine qO (KA h S) ?_;rfl';refine⟨λe=>?_,λe=>?_⟩
 .rfl'
  exact⟨by rw[LQ (by simpa using e)],rfl⟩
 .cases d with
  |tup xs =>
   rfl';refine rB (λe=>?_) λe=>?_
   .rfl'
    refine uT (enc:=id) (o:=none) xs (λx=>.bl (isI x)) (λenv S'=>S'=S/\∃ a,env=[a]) ((QP rfl).trans (by rw[Je])) ⟨rfl,none,rfl⟩ (by unfold lim;lia) (λ_ _ _=>trivial) (λx hx env S' ⟨e1,a,e2⟩=>?_) λenv S' ⟨e1,_⟩=>?_
    .subst e1 e2
     rfl';exact qO (cC (WR h x hx) _ _ _) ⟨rfl,rfl,_,rfl⟩
    .subst e1
     rfl';exact QZ ⟨by rw[LO li],rfl⟩
   .rfl'
    exact⟨by rw[LP li],rfl⟩
  |_=>cases e
theorem J9 (qs:Aa Pt)(hl:qs.length<=1000)(S:Sto):S_is_rising [qE qs] S=.ok (.bl (upB (qs.map kP))) S:=by
 rw[jW];refine y8 (zI (env:=[Ab (.tup (qs.map ptD))]) rfl ?_);rfl';have hz:wG (Q7 (q8 (q9 0) (q8 (dSl (q9 0) (wB (dC (.int 1))) (vM)) (qA)))) [Ab (.tup (qs.map ptD))] S=.ok (none,(((qs.map kP).zip ((qs.map kP).drop 1)).map λp=>D.tup [tpD p.1,tpD p.2])) S:=by
  show Res.ok (none,vG (qs.map ptD) (xR (qs.map ptD) (Ab 1) none)) S=_;rw[HK,b9,<- Sd,HH]
 refine uT _ (λp=>.bl (_H.lexLt p.1 p.2)) (λenv S'=>S'=S/\∃ a b,env=[a,b]) hz ⟨rfl,none,none,rfl⟩ ?_ (λ_ _ _=>trivial) (λx hx env S' ⟨e1,a,b,e2⟩=>?_) λenv S' ⟨e1,_⟩=>?_
 .rw[TD,Au]
  unfold lim
  lia
 .subst e1 e2
  rfl';exact qO (CI _ _ _) ⟨rfl,rfl,_,_,rfl⟩
 .subst e1
  rfl';exact QZ ⟨rfl,rfl⟩
theorem cA (h:Pn d)(S:Sto):S_is_lot [d] S=.ok (.bl (sW d)) S:=by
 rw[fL];refine y8 (zI (env:=[Ab d]) rfl ?_);rfl';refine y7 ?_;rfl';refine qO (KA h S) ?_;rfl';refine⟨λe=>?_,λe=>?_⟩
 .rfl'
  exact⟨by rw[B7 (by simpa using e)],rfl⟩
 .cases d with
  |tup xs =>
   rfl';refine iV (b:=(xs.length:Ak)) rfl rfl rfl ?_;rfl';refine rB (λz=>?_) λz=>?_
   .have hl:1<=xs.length/\xs.length<=40:=by lia
    rfl';refine KL ?_;rfl';refine uT (enc:=id) (o:=none) xs (λx=>.bl (yE x)) (λenv S'=>S'=S/\∃ a,env=[a]) ((QP rfl).trans (by rw[Je])) ⟨rfl,none,rfl⟩ (by unfold lim;lia) (λ_ _ _=>trivial) (λx hx env S' ⟨e1,a,e2⟩=>?_) λenv S' ⟨e1,_⟩=>?_
    .subst e1 e2
     rfl';exact qO (Z6 (WR h x hx) _) ⟨rfl,rfl,_,rfl⟩
    .subst e1
     rfl';refine QZ ⟨_,rfl,λha=>?_,λha=>?_⟩
     .obtain⟨qs,rfl,_⟩:=WV ha
      rw[Au] at hl;rfl';refine qO (J9 qs li _) ⟨?_,rfl⟩;show _=D.bl (decide (1<=(qs.map ptD).length/\(qs.map ptD).length<=40)&&(qs.map ptD).all yE&&(match yB (qs.map ptD) with|some ks=>upB ks|none=>false))
      rw[ha,Au,Cd hl,b9,jK];rfl
     .refine⟨?_,rfl⟩
      show _=D.bl (decide (1<=xs.length/\xs.length<=40)&&xs.all yE&&(match yB xs with|some ks=>upB ks|none=>false))
      rw[ha,Vb,Lb]
   .rfl'
    refine⟨?_,rfl⟩;show _=D.bl (decide (1<=xs.length/\xs.length<=40)&&xs.all yE&&(match yB xs with|some ks=>upB ks|none=>false))
    rw[Cb li,Lb,Lb]
  |_=>cases e
theorem fO (c:Cl){d:D}(S:Sto)(h:Pn d)(k:sW d=true):S_need_lot c [d] S=.ok .non S:=by
 rw[pH];refine y8 (zI (env:=[Ab d]) rfl ?_);rfl';refine qO (cA h S) ?_;rw[k];rfl';exact⟨rfl,rfl⟩
theorem f7 (c:Cl){i a b:Ak}(S:Sto)(h:a<=i/\i<=b):S_need_within c [.int i,.int a,.int b] S=.ok .non S:=by
 rw[uG];refine y8 (zI (env:=[Ab (.int i),Ab (.int a),Ab (.int b)]) rfl ?_);rfl';refine qO (cC ⟨.int i,rfl⟩ a b S) ?_;rw[show inR a b (.int i)=true from Cd h]
 rfl';exact⟨rfl,rfl⟩
theorem hJ {Q:D->Sto->Prop}{S:Sto}{p:Ai}{m:Ak}(h:oR S p)(hm:0<m/\m<1073741824)(q:∀ (r:Ai) S1,Kp p S S1->(r:Ak)<m->Q (.int r) S1):Ok (S__law_draw [.loc p,.int m] S) Q:=by
 have fin:∀ r v f:Ak,0<=r->r<m->Q (.int r) (S.set p (.lst [.int v,.int f])):=λr v f h0 h1=>by
  obtain⟨r,rfl⟩:=Int.eq_ofNat_of_zero_le h0;obtain⟨v0,f0,e⟩:=h;have hpl:=(Bd.mp e).1;exact q r _ ⟨⟨v,f,by simp[hpl]⟩,by simp,λi hi hn=>Cq (Fy hn)⟩ h1
 obtain⟨v,f,e⟩:=h;have hpl:=(Bd.mp e).1;rw[jT];refine zI (env:=[Ab (.loc p),Ab (.int m),none]) rfl ?_;rfl';refine gO e (d:=.int f) rfl ?_;rfl';refine rB (λz=>?_) λz=>?_
 .rfl'
  refine gO e (d:=.int v) rfl ?_;rfl';refine gO e (d:=.int v) rfl ?_;rfl';refine WL e rfl ?_;rfl';exact fin _ _ _ (Kq _ om) (Iw _ hm.1)
 .rfl'
  refine gO e (d:=.int v) rfl ?_;have hv:=Kq v (show (2147483629:Ak)≠0 by omega)
  have hv':=Iw v (show (0:Ak)<2147483629 by omega)
  rfl';have hw:=Kq (v % 2147483629*48271+11) (show (2147483629:Ak)≠0 by omega)
  have hw':=Iw (v % 2147483629*48271+11) (show (0:Ak)<2147483629 by omega)
  generalize (v % 2147483629*48271+11) % 2147483629=w at hw hw';refine WL e rfl ?_;have e2:(S.set p (MO.lst [.int w,.int f]))[p]? = Ab (.lst [.int w,.int f]):=by simp[hpl]
  rfl';refine gO e2 (d:=.int w) rfl ?_;rfl';refine gO e2 (d:=.int w) rfl ?_;rfl';refine gO e2 (d:=.int w) rfl ?_;rfl';exact fin _ _ _ (Kq _ om) (Iw _ hm.1)
theorem CZ {Q:D->Sto->Prop}{S:Sto}{x:Ak}(q:∀ p S1,oR S1 p->Q (.loc p) S1):Ok (S__law_pen [.int x] S) Q:=by
 rw[pB];refine zI (env:=[Ab (.int x)]) rfl ?_;rfl';refine qO (d:=.int 1000000000000000000) rfl ?_;rfl';refine qO (d:=.int (b01 (decide (1000000000000000000<=x)))) rfl ?_;rfl';exact q _ _ ⟨_,_,aH _ _⟩
theorem M1 (ns:Aa Ak)(hl:ns.length<=63)(k:Ak){Q:Aa D->Sto->Prop}{env:qB}{S:Sto}(h0:env[0]? = Ab (Ab (.lst (ns.map D.int))))(q:∀ ms:Aa Ak,Q (ms.map D.int) S):Ok (yH (d2 zW (nQ (q8 (qI 2 S__law_cell (q8 (q9 0) (q8 (dC (.int 0)) (qA)))) (qA))) (dSl (q9 0) (wB (dC (.int 1))) (wB (dC (.int k))))) env S) Q:=by
 have hc:∃ x:Ak,S__law_cell [.lst (ns.map D.int),.int 0] S=.ok (.int x) S:=by
  rw[jS];cases ns with
  |nil=>exact⟨0,y8 (zI (env:=[Ab (.lst []),Ab (.int 0)]) rfl (by rfl';exact⟨rfl,rfl⟩))⟩
  |cons n ns =>
   refine⟨n,y8 (zI (env:=[Ab (.lst ((n::ns).map D.int)),Ab (.int 0)]) rfl ?_)⟩;rfl';refine rB (λ_=>?_) λe=>absurd (by rw[Au,By];omega) e
   rfl';exact CT (OC (a:=0) (by simp)) ⟨rfl,rfl⟩
 obtain⟨x,hx⟩:=hc;refine F2 (o_2 (CU (h9 (DZ (h9 (o_v h0 ?_))))));rfl';refine qO hx ?_;rfl';refine o_v h0 ?_;rfl';have hm:xR (ns.map D.int) (Ab 1) (Ab k)=((ns.drop (_H.sIx (ns.map D.int).length 0 (Ab 1))).take (_H.sIx (ns.map D.int).length (ns.map D.int).length (Ab k)-_H.sIx (ns.map D.int).length 0 (Ab 1))).map D.int:=by
  unfold xR;rw[AaB,Sd]
 rw[hm];refine WH ?_ ⟨_,rfl,q (x::_)⟩;rw[Au,Fn,Lj];show 1+_<=lim;unfold lim;omega
def iD (n:Ai):D:=.int (n:Ak)
def pt (x y:Ai):Pt:=((x:Ak),(y:Ak))
def xT (w h:Ai):Aa Pt:=(Dd w).flatMap λ(x:Ai)=>(Dd h).map λ(y:Ai)=>pt x y
theorem j7 (w h:Ai):(xT w h).length=w*h:=by
 unfold xT
 induction w with
 |zero=>simp
 |succ w ih=>rw[List.range_succ,List.flatMap_append,De,ih];simp[Nat.succ_mul]
theorem dE {w h:Ai}{p:Pt}(m:p∈xT w h):0<=p.1/\p.1<w/\0<=p.2/\p.2<h:=by
 unfold xT at m;obtain⟨x,hx,m⟩:=Ow.mp m;obtain⟨y,hy,rfl⟩:=Bj.mp m;simp at hx hy;unfold pt;refine⟨?_,?_,?_,?_⟩ <;> dsimp only <;> omega
theorem AS (n:Ai)(h:n<=1000000):bE [.int (n:Ak)]=Ab (xY 0 (n:Ak).toNat):=by
 unfold bE;have : -(2 ^ 62)<=(n:Ak)/\(n:Ak)<2 ^ 62:=⟨by omega,by omega⟩
 exact Bf this
theorem JA (n:Ai):xY 0 (n:Ak).toNat=(Dd n).map iD:=by
 unfold xY;rw[Hv]
 congr 1
 funext i
 unfold iD;rw[Int.zero_add]
theorem M7 (n:Ai)(h:n<=1000000):bE [.int (n:Ak)]=Ab ((Dd n).map iD):=by
 rw[AS n h,JA]
theorem Y1 {β:Type}(b:β)(S:Sto):_D.yG (Ab b) S=.ok b S:=rfl
theorem iE (f:DE)(n:Ai)(env:qB)(S:Sto)(h:n<=1000000)(e:f env S=.ok (.int (n:Ak)) S):uI (q8 f qA) env S=.ok ((Dd n).map iD) S:=by
 have e1:q8 f qA env S=.ok [.int (n:Ak)] S:=by unfold q8 qA;rw[e];rfl
 unfold uI;rw[e1,Res.bind_ok,M7 n h,Y1]
theorem XQ (f:DE)(n:Ai)(env:qB)(S:Sto)(h:n<=1000000)(e:f env S=.ok (.int (n:Ak)) S):wG (uI (q8 f qA)) env S=.ok (none,(Dd n).map iD) S:=by
 unfold wG;rw[iE f n env S h e,Res.bind_ok]
theorem pU {α:Type}(l:Aa α) : l.filter (λ_=>true)=l:=by simp
theorem M0 (w h:Ai)(S:Sto)(hw:w<=12)(hh:h<=12):S_board_points [.int (w:Ak),.int (h:Ak)] S=.ok (.lst ((xT w h).map ptD)) S:=by
 have eq:((Dd w).map iD).flatMap (λd=>(((Dd h).map iD).filter (λ_=>true)).map (λe=>D.tup [d,e]))=(xT w h).map ptD:=by
  rw[List.flatMap_map];unfold xT;rw[Zh]
  congr 1
  funext x
  rw[pU,Eh,Eh];rfl
 have hl:((xT w h).map ptD).length<=lim:=by
  rw[Au,j7];have:w*h<=12*12:=Ht hw hh;unfold lim;omega
 have hc:=NA (cap:=[none,none,Ab 1]) (fi:=wG (uI (q8 (q9 0) (qA)))) (g:=gNm 0) (t:=xM) (fi2:=wG (uI (q8 (q9 2) (qA)))) (g2:=gNm 1) (t2:=xM) (fe:=vS (q8 (q9 0) (q8 (q9 1) (qA)))) (env:=[Ab (.int (w:Ak)),Ab (.int (h:Ak))]) (S:=S) (o:=none) (o2:=none) (items:=(Dd w).map iD)
  (XQ _ w _ S om rfl) trivial trivial (λ_=>(Dd h).map iD) (λ_ _=>true) (λd e=>D.tup [d,e]) (λenv=>∃ a b,env=[a,b,Ab (.int (h:Ak))]) (λd env=>∃ b,env=[Ab d,b,Ab (.int (h:Ak))]) ⟨none,none,rfl⟩ (λd env ⟨b,e⟩=>⟨_,_,e⟩) (by rw[eq];exact hl)
  (λd hd env ⟨a,b,e⟩=>by
   subst e;exact⟨[Ab d,b,Ab (.int (h:Ak))],rfl,⟨b,rfl⟩,rfl,XQ _ h _ S om rfl⟩)
  (λd hd x hx env ⟨b,e⟩=>by
   subst e;have l2:2<=lim:=by decide
   exact⟨[Ab d,Ab x,Ab (.int (h:Ak))],rfl,⟨_,rfl⟩,rfl,λ_=>by simp[qM,yK,qAd,qAc,qAb,qY,sIf,qW,xD,w9,zP,gNm,gSb,gTp,xF,vY,lY,qAC,qBQ,dC,q9,d1,d2,q8,qA,qS,qI,dTr,yX,yC,wV,xM,dIf,nP,YZ,xU,vS,nQ,kX,dBm,dSl,wB,vM,yH,uI,Res.bind,Res.toS,_D.uV,_D.yG,ET,qAe,qAa,qAZ,qAf,gLt,gLe,gGt,gGe,_D.yD,qAr,l2]⟩)
 rw[eq] at hc;rw[vT];exact vE rfl hc
def jF (l:Aa Pt):Pt:=l.getLastD (0,0)
def grow (pts:Aa Pt)(L:Aa (Aa Pt)):Aa (Aa Pt):=L.flatMap λlot=>(pts.filter λp=>ltP (jF lot) p).map λp=>lot++[p]
def ltL:Aa Pt->Aa Pt->Ar
 |[],[]=>false
 |[],_::_=>true
 |_::_,[]=>false
 |p::ps,q::qs=>if p=q then ltL ps qs else ltP p q
theorem BQ (p:Pt):ltP p p=false:=_S.xG.irr _
theorem DM {p r:Pt}(h1:ltP p q=true)(h2:ltP q r=true):ltP p r=true:=_S.xG.tr h1 h2
theorem DJ {p:Pt}(h:ltP p q=true):p≠q:=λe=>by subst e;rw[BQ] at h;cases h
theorem ZI (n:Ai)(p:Pt):Tr (n+1) (ptD p):=.tup n _ λx hx=>by
 simp only[Az,Dq,Hc] at hx;rcases hx with rfl|rfl <;> exact .int _ _
theorem EO (n:Ai)(l:Aa Pt):Tr (n+2) (qE l):=.tup _ _ λx hx=>by
 obtain⟨p,_,rfl⟩:=Bj.mp hx;exact ZI n p
theorem ER (n:Ai)(p:Pt):trb (n+1) (ptD p)=true:=by cases n <;> rfl
theorem MN (n:Ai)(l:Aa Pt):trb (n+2) (qE l)=true:=Bo.mpr λx hx=>by
 obtain⟨p,_,rfl⟩:=Bj.mp hx;exact ER n p
theorem LF (p q:Pt):eqD (ptD p) (ptD q)=decide (p=q):=by
 show (p.1 == q.1&&(p.2 == q.2&&true))=_;rw[TW];simp[Prod.ext_iff]
theorem rP:∀ a b:Aa Pt,wU (a.map ptD) (b.map ptD)=true
 |[],_=>rfl
 |_::_,[]=>rfl
 |p::a,q::b=>by
  show (wJ (ptD p) (ptD q)&&wU (a.map ptD) (b.map ptD))=true;rw[rP a b];rfl
theorem DD (p q:Pt):ltN (ptD p) (ptD q)=ltP p q:=by
 have h1:=@vP 0 0 (.int p.1) (.int q.1) [.int p.2] [.int q.2] (.int _ _) (.int _ _) rfl;have h2:=@vP 0 0 (.int p.2) (.int q.2) [] [] (.int _ _) (.int _ _) rfl;unfold ptD;rw[f6,h1,h2,bZ,bZ];unfold ltP;rw[_H.lexLt_cons,_H.lexLt_cons];show (if (p.1 == q.1)=true then if (p.2 == q.2)=true then _ else _ else _)=_
 simp only[Lw];rfl
theorem lI (a b:Aa Pt):ltN (qE a) (qE b)=ltL a b:=by
 unfold qE;rw[f6]
 induction a generalizing b with
 |nil=>cases b with
  |nil=>rfl
  |cons q b=>exact(by rfl:_H.lexLt [0] (2::_)=true)
 |cons p a ih=>cases b with
  |nil=>exact(by rfl:_H.lexLt (2::_) [0]=false)
  |cons q b =>
   rw[Dc,Dc,vP (ZI 0 p) (ZI 0 q) rfl,ih,LF,DD];simp[ltL]
theorem W5 {a b:Aa Pt}(h:ltL a b=true):ltL b a=false:=by
 rw[<- lI] at *;cases q:ltN (qE b) (qE a) with
 |false=>rfl
 |true=>exact absurd (_S.xG.tr h q) (by rw[_S.xG.irr];simp)
set_option tactic.hygienic true in
theorem iP:∀ {a b:Aa Pt} (c d:Aa Pt),ltL a b=true->a.length=b.length->ltL (a++c) (b++d)=true
 |[],[],_,_,h,_=>by cases h
 |[],_::_,_,_,_,l=>by simp at l
 |_::_,[],_,_,h,_=>by cases h
 |p::a,q::b,c,d,h,l=>by
  simp only[Ka,ltL] at *
  split
  .rename_i e
   rw[Bf e] at h;exact iP c d h (by simpa using l)
  .rename_i e
   rw[Bb e] at h;exact h
theorem iR {c d:Aa Pt}(h:ltL c d=true):∀ a:Aa Pt,ltL (a++c) (a++d)=true
 |[]=>h
 |p::a=>by
  simp only[Ka,ltL,Dp];exact iR h a
theorem iQ {p:Pt}(h:ltP p q=true):ltL [p] [q]=true:=by
 simp only[ltL,Bb (DJ h)];exact h
def xC (pts:Aa Pt):Ai->Aa (Aa Pt)
 |0=>pts.map λp=>[p]
 |k+1=>grow pts (xC pts k)
theorem tV {α:Type}(l:Aa α) : l=[]\/∃ l' b,l=l'++[b]:=by simpa only [List.concat_eq_append] using List.eq_nil_or_concat l
theorem b0 (l:Aa Pt)(p:Pt):jF (l++[p])=p:=by simp[jF]
theorem MR {l:Aa Pt}{p:Pt}(h:Up l)(hl:ltP (jF l) p=true):∀ x∈l,ltP x p=true:=by
 intro x hx;rcases tV l with rfl|⟨l',q,rfl⟩
 .cases hx
 .rw[b0] at hl
  rcases Cn.mp hx with hx|hx
  .exact DM ((Dl.mp h).2.2 x hx q (by simp)) hl
  .have:x=q:=by simpa using hx
   subst this;exact hl
theorem wL (pts:Aa Pt):∀ (k:Ai) (l:Aa Pt),l∈xC pts k↔l.length=k+1/\Up l/\∀ x∈l,x∈pts
 |0,l=>by
  constructor
  .intro h
   obtain⟨p,hp,rfl⟩:=Bj.mp h;refine⟨rfl,by simp,λx hx=>?_⟩
   have:x=p:=by simpa using hx
   subst this;exact hp
  .rintro⟨h1,_,h3⟩
   match l,h1 with
   |[p],_=>exact Bj.mpr ⟨p,h3 p (by simp),rfl⟩
 |k+1,l=>by
  constructor
  .intro h
   obtain⟨l0,h0,h⟩:=Ow.mp h;obtain⟨p,hp,rfl⟩:=Bj.mp h;obtain⟨hp1,hp2⟩:=Ex.mp hp;obtain⟨a1,a2,a3⟩:=(wL pts k l0).mp h0;refine⟨by simp[a1],?_,λx hx=>?_⟩
   .exact Dl.mpr ⟨a2,by simp,λx hx y hy=>by
     have:y=p:=by simpa using hy
     subst this;exact MR a2 hp2 x hx⟩
   .rcases Cn.mp hx with hx|hx
    .exact a3 x hx
    .have:x=p:=by simpa using hx
     subst this;exact hp1
  .rintro⟨h1,h2,h3⟩
   rcases tV l with rfl|⟨l0,p,rfl⟩
   .cases h1
   .have hl:l0.length=k+1:=by simpa using h1
    obtain⟨b1,_,b3⟩:=Dl.mp h2;refine Ow.mpr ⟨l0,(wL pts k l0).mpr ⟨hl,b1,λx hx=>h3 x (by simp[hx])⟩,Bj.mpr ⟨p,Ex.mpr ⟨h3 p (by simp),?_⟩,rfl⟩⟩
    rcases tV l0 with rfl|⟨l1,q,rfl⟩
    .cases hl
    .rw[b0]
     exact b3 q (by simp) p (by simp)
theorem bY (hs:Up pts):∀ k:Ai,(xC pts k).Pairwise λa b=>ltL a b=true
 |0=>by
  show (pts.map λp=>[p]).Pairwise _;rw[Df];exact hs.imp λh=>iQ h
 |k+1=>by
  show (grow pts (xC pts k)).Pairwise _;unfold grow;rw[Ut];refine⟨λlot _=>?_,?_⟩
  .rw[Df]
   exact(hs.filter _).imp λh=>iR (iQ h) lot
  .refine(bY hs k).imp_of_mem λ{a b} ha hb h x hx y hy=>?_
   obtain⟨p,_,rfl⟩:=Bj.mp hx;obtain⟨q,_,rfl⟩:=Bj.mp hy;refine iP _ _ h ?_;rw[((wL pts k a).mp ha).1,((wL pts k b).mp hb).1]
theorem kO (w h:Ai):Up (xT w h):=by
 unfold Up xT;rw[Ut];refine⟨λx _=>?_,?_⟩
 .rw[Df]
  exact Nz.imp λ{a b} hab=>by
   show _H.lexLt [(x:Ak),(a:Ak)] [(x:Ak),(b:Ak)]=true;rw[_H.lexLt_cons,Bf rfl,_H.lexLt_cons,Bb om];exact Cd om
 .refine Nz.imp λ{a b} hab p hp q hq=>?_
  obtain⟨y,_,rfl⟩:=Bj.mp hp;obtain⟨z,_,rfl⟩:=Bj.mp hq;show _H.lexLt [(a:Ak),(y:Ak)] [(b:Ak),(z:Ak)]=true;rw[_H.lexLt_cons,Bb om];exact Cd om
theorem C8 (p q:Pt)(S:Sto):l4 (ptD p) (ptD q) S=.ok (.bl (ltP q p)) S:=rfl
theorem TZ (lot:Aa Pt)(p:Pt)(S:Sto)(h:lot.length<=50):zW (qE lot) (.tup [ptD p]) S=.ok (qE (lot++[p])) S:=by
 have hl:(lot.map ptD).length+1<=lim:=by
  rw[Au];unfold lim;omega
 have e:zW (.tup (lot.map ptD)) (.tup [ptD p]) S=.ok (.tup (lot.map ptD++[ptD p])) S:=Bf hl;unfold qE;rw[e,Hx];rfl
theorem BC (lot:Aa Pt)(S:Sto)(h:lot≠[]):gIx (qE lot) (.int (-1)) S=.ok (ptD (jF lot)) S:=by
 rcases tV lot with rfl|⟨l,p,rfl⟩
 .exact absurd rfl h
 .rw[b0]
  have e:_L.atI ((l++[p]).map ptD) (-1)=Ab (ptD p):=by
   have hn:_L.ixN ((l++[p]).map ptD).length (-1)=Ab l.length:=by
    unfold _L.ixN;simp;omega
   unfold _L.atI;rw[hn];simp
  show _D.yG (_L.atI ((l++[p]).map ptD) (-1)) S=_;rw[e];rfl
theorem eS (pts:Aa Pt)(L:Aa (Aa Pt)):(grow pts L).length<=L.length*pts.length:=by
 refine cW _ pts.length L λlot _=>?_;rw[Au];exact Ov _ _
theorem CO (env:qB)(S:Sto):d1 mG (dC (.int 1)) env S=.ok (.int (-1)) S:=rfl
theorem M3 (pts:Aa Pt)(L:Aa (Aa Pt))(S:Sto)(hL:∀ lot∈L,lot≠[]/\lot.length<=50)(hb:L.length*pts.length<=lim):S_grown [.lst (L.map qE),.lst (pts.map ptD)] S=.ok (.lst ((grow pts L).map qE)) S:=by
 have eq:(L.flatMap λlot=>(pts.filter λp=>ltP (jF lot) p).map λp=>qE (lot++[p]))=(grow pts L).map qE:=by
  unfold grow;rw[Zh]
  congr 1
  funext lot
  rw[Eh];rfl
 have hl:((grow pts L).map qE).length<=lim:=by
  rw[Au];exact Dm (eS pts L) hb
 have hit:dIt (q9 0) [Ab (.lst (L.map qE)),Ab (.lst (pts.map ptD))] S=.ok (none,L.map qE) S:=rfl;have l1:1<=lim:=by decide
 have hc:=GO (enc:=qE) (enc2:=ptD) (cap:=[none,none,Ab 1]) (g:=gNm 0) (t:=xM) (fi2:=dIt (q9 2)) (g2:=gNm 1) (t2:=wV (dTr (d2 l4 (q9 1) (d2 gIx (q9 0) (d1 mG (dC (.int 1)))))) (xM)) (fe:=d2 zW (q9 0) (vS (q8 (q9 1) (qA)))) (o2:=none) hit trivial trivial (λ_=>pts) (λlot p=>ltP (jF lot) p) (λlot p=>qE (lot++[p]))
  (λenv=>∃ a b,env=[a,b,Ab (.lst (pts.map ptD))]) (λlot env=>∃ b,env=[Ab (qE lot),b,Ab (.lst (pts.map ptD))]) ⟨none,none,rfl⟩ (λlot env ⟨b,e⟩=>⟨_,_,e⟩) (by rw[eq];exact hl)
  (λlot hlot env ⟨a,b,e⟩=>by
   subst e;exact⟨[Ab (qE lot),b,Ab (.lst (pts.map ptD))],rfl,⟨_,rfl⟩,rfl,rfl⟩)
  (λlot hlot p hp env ⟨b,e⟩=>by
   subst e;obtain⟨n1,n2⟩:=hL lot hlot;have x1:=BC lot S n1;have c1:=TZ lot p S n2;refine⟨[Ab (qE lot),Ab (ptD p),Ab (.lst (pts.map ptD))],rfl,⟨_,rfl⟩,?_,λ_=>?_⟩
   .simp only[wV,dTr,d2,q9,List.getElem?_cons_zero,Nb,Res.bind,CO,x1,C8,ET,_D.uV,xM]
    cases ltP (jF lot) p <;> rfl
   .simp[qM,yK,qAd,qAc,qAb,qY,sIf,qW,xD,w9,zP,gNm,gSb,gTp,xF,vY,lY,qAC,qBQ,dC,q9,d1,d2,q8,qA,qS,qI,dTr,yX,yC,wV,xM,dIf,nP,YZ,xU,vS,nQ,kX,dBm,dSl,wB,vM,yH,uI,Res.bind,Res.toS,_D.uV,_D.yG,ET,qAe,qAa,qAZ,qAf,gLt,gLe,gGt,gGe,_D.yD,qAr,l1,c1])
 rw[eq] at hc;rw[mY];exact vE rfl hc
theorem SU (p:Pt):qE [p]=.tup [ptD p]:=rfl
theorem mR (hp:pts.length<=16):∀ k:Ai,(xC pts k).length<=16 ^ (k+1)
 |0=>by simpa [xC] using hp
 |k+1=>by
  show (grow pts (xC pts k)).length<=_;refine Dm (eS _ _) ?_;rw[Nat.pow_succ 16 (k+1)];exact Ht (mR hp k) hp
theorem WU {k:Ai}(h:k<=5):16 ^ k*16<=lim:=by
 have:16 ^ k<=16 ^ 5:=Nat.pow_le_pow_right om h;unfold lim;omega
inductive IvL (pts:Aa Pt)(n:Ak)(K:Ai)(S:Sto)(ds:Aa D)(env:qB)(S':Sto):Prop
 |mk (k:Ai) (e3:Al D) (h_0:S'=S) (h_1:env=[Ab (.lst (pts.map ptD)),Ab (.int n),Ab (.lst ((xC pts k).map qE)),e3]) (h_2:k+ds.length=K):IvL pts n K S ds env S'
theorem EC (pts:Aa Pt)(hp:pts.length<=16)(k:Ai)(hk:k<=5)(S:Sto):S_lots_of [.lst (pts.map ptD),.int ((k:Ak)+1)] S=.ok (.lst ((xC pts k).map qE)) S:=by
 have key:Rt (b_lots_of [Ab (.lst (pts.map ptD)),Ab (.int ((k:Ak)+1)),none,none] S) λd S'=>d=.lst ((xC pts k).map qE)/\S'=S:=by
  unfold b_lots_of;have l1:1<=lim:=by decide
  have hc:=aQ (enc:=ptD) (cap:=[none]) (fi:=dIt (q9 0)) (g:=gNm 0) (t:=xM) (fe:=vS (q8 (q9 0) (qA))) (env:=[Ab (.lst (pts.map ptD)),Ab (.int ((k:Ak)+1)),none,none]) (S:=S) (o:=none) rfl trivial (λ_=>true) (λp=>qE [p]) (λenv=>∃ a,env=[a]) ⟨none,rfl⟩ (by unfold lim;omega)
   (λp hp env ⟨a,e⟩=>by
    subst e;exact⟨[Ab (ptD p)],rfl,⟨_,rfl⟩,rfl,λ_=>by simp[qM,yK,qAd,qAc,qAb,qY,sIf,qW,xD,w9,zP,gNm,gSb,gTp,xF,vY,lY,qAC,qBQ,dC,q9,d1,d2,q8,qA,qS,qI,dTr,yX,yC,wV,xM,dIf,nP,YZ,xU,vS,nQ,kX,dBm,dSl,wB,vM,yH,uI,Res.bind,Res.toS,_D.uV,_D.yG,ET,qAe,qAa,qAZ,qAf,gLt,gLe,gGt,gGe,_D.yD,qAr,l1,SU]⟩)
  rw[pU] at hc;have e0:(pts.map λp=>qE [p])=(xC pts 0).map qE:=by simp[xC]
  rw[e0] at hc;refine v8 (bB (qO hc ?_));clear hc e0;simp only[Wy,Qs];have hr:uI (q8 (d2 yD (q9 1) (dC (.int 1))) (qA)) [Ab (.lst (pts.map ptD)),Ab (.int ((k:Ak)+1)),Ab (.lst ((xC pts 0).map qE)),none] S=.ok ((Dd k).map iD) S:=iE _ k _ S om (by
   have:yD (.int ((k:Ak)+1)) (.int 1) S=.ok (.int (k:Ak)) S:=by
    show Res.ok (D.int ((k:Ak)+1-1)) S=_;rw[Int.add_sub_cancel]
   exact(kW (a:=.int ((k:Ak)+1)) (b:=.int 1) rfl rfl).trans this)
  refine v8 (WG hr ?_);refine lP (IvL pts ((k:Ak)+1) k S) ?_ ?_ ⟨0,none,rfl,rfl,by simp⟩
  .rintro d ds env S' ⟨j,e3,rfl,rfl,hj⟩
   refine⟨[Ab (.lst (pts.map ptD)),Ab (.int ((k:Ak)+1)),Ab (.lst ((xC pts j).map qE)),Ab d],S',rfl,?_⟩;simp only[By] at hj;have hg:=M3 pts (xC pts j) S' (λlot hl=>by
    have:=((wL pts j lot).mp hl).1;exact⟨λe=>(by subst e;cases this),by omega⟩) (by
    refine Dm (Ht (mR hp j) hp) (WU om))
   exact bB (qO ((Q2 (a:=.lst ((xC pts j).map qE)) (b:=.lst (pts.map ptD)) rfl rfl).trans hg) ⟨j+1,Ab d,rfl,rfl,by omega⟩)
  .rintro env S' ⟨j,e3,rfl,rfl,hj⟩
   have:j=k:=by simpa using hj
   subst this;exact n8 (qO rfl ⟨rfl,rfl⟩)
 obtain⟨d,S',e,rfl,rfl⟩:=key;rw[pP];exact n9 rfl e
theorem CS {Q:D->Sto->Prop}{p:Pt}{S:Sto}(hp:InB 1000 p)(hq:InB 1000 q)(h:Q (.int (far p q)) S):Ok (S_far_between [ptD p,ptD q] S) Q:=by
 unfold InB at hp hq;rw[uF];refine zI (env:=[Ab (ptD p),Ab (ptD q),none,none]) rfl ?_;rfl';exact h
theorem iW {Q:D->Sto->Prop}{l:Aa Pt}{S:Sto}(hb:∀ p∈l,InB 1000 p)(hl:l.length<=41)(q:∀ kvs S',GI uL prD S.length (xJ l) kvs S'->(∀ m,m<S.length->S'[m]? = S[m]?)->Q (.loc S.length) S'):Ok (S_pairs_by_far [qE l] S) Q:=by
 rw[vW];refine zI (env:=[Ab (.tup (l.map ptD)),none,none,none,none]) rfl ?_;rfl';refine MS (λds env S'=>∃ i e2 e3 e4 done kvs,env=[Ab (.tup (l.map ptD)),Ab (.loc S.length),e2,e3,e4]/\ds=eL i ((l.drop i).map ptD)/\GI uL prD S.length done kvs S'/\done++xJ (l.drop i)=xJ l/\∀ m,m<S.length->S'[m]? = S[m]?) ?_ ?_ ⟨0,_,_,_,[],[],rfl,VG _,⟨aH _ _,λ_ h=>(by cases h),Nk,rfl⟩,rfl,λm hm=>Be hm⟩
 .rintro d ds _ S' ⟨i,e2,e3,e4,done,kvs,rfl,hds,G,hall,hpre⟩
  cases hdr:l.drop i with
  |nil=>rw[hdr] at hds;cases hds
  |cons p rest =>
   rw[hdr] at hds hall;injection hds with h1 h2
   subst h1 h2;have hrest:l.drop (i+1)=rest:=by
    have:=congrArg List.tail hdr;simpa [List.tail_drop] using this
   have hmem:∀ z∈p::rest,z∈l:=λz hz=>Pd (hdr▸hz);rfl';rw[YW,<- Sd,hrest];refine kK (λr env S'=>∃ e4 done kvs,env=[Ab (.tup (l.map ptD)),Ab (.loc S.length),Ab (.int (i:Ak)),Ab (ptD p),e4]/\(∀ z∈r,z∈l)/\GI uL prD S.length done kvs S'/\done++(r.map (λz=>(p,z))++xJ rest)=xJ l/\∀ m,m<S.length->S'[m]? = S[m]?) ?_ ?_ ⟨_,done,kvs,rfl,λz hz=>hmem z (Bl _ hz),G,hall,hpre⟩
   .rintro z r _ S' ⟨e4,done,kvs,rfl,hr,G,hall,hpre⟩
    have hdl:done.length<lim:=by
     have:=congrArg Iy hall;have h3:=CL hl;simp only[De] at this;unfold lim
     lia
    obtain⟨j,S1,S2,kvs',f1,f2,f3,G',hp'⟩:=i3 G (p,z) hdl;rfl';refine⟨cP G.dict,?_⟩;rfl';refine CS (hb p (hmem p (Cu ..))) (hb z (hr z (Cu ..))) ?_;rfl';refine qO f1 ⟨f2,?_⟩;rfl';refine qO f3 ?_;exact rC ⟨_,done++[(p,z)],kvs',rfl,λy hy=>hr y (Bl _ hy),G',by rw[<- hall];simp,λm hm=>(hp' m hm).trans (hpre m hm)⟩
   .rintro _ S' ⟨e4,done,kvs,rfl,hr,G,hall,hpre⟩
    exact rC ⟨i+1,_,_,_,done,kvs,rfl,by rw[hrest],G,by rw[hrest];simpa using hall,hpre⟩
 .rintro _ S' ⟨i,e2,e3,e4,done,kvs,rfl,hds,G,hall,hpre⟩
  rfl';refine q kvs S' ?_ hpre;cases hdr:l.drop i with
  |cons _ _=>rw[hdr] at hds;cases hds
  |nil =>
   rw[hdr] at hall;have:done=xJ l:=by simpa [xJ] using hall
   rw[<- this];exact G
abbrev oS (p:Pt):Prop:=InB 1000 p
theorem rJ {w h:Ai}(hw:w<=12)(hh:h<=12){p:Pt}(m:p∈xT w h):oS p:=by
 have:=dE m;unfold oS InB
 lia
theorem M4 (l:Aa Pt)(S:Sto)(hok:∀ p∈l,oS p)(hl:l.length<=41):∃ (kvs:Aa (_L.Key × D)) (S':Sto),S_pairs_by_far [qE l] S=.ok (.loc S.length) S'/\GI uL prD S.length (xJ l) kvs S'/\∀ m,m<S.length->S'[m]? = S[m]?:=by
 obtain⟨_,S1,e1,rfl,kvs,G,hp⟩:=iW (S:=S) (Q:=λd S'=>d=.loc S.length/\∃ kvs,GI uL prD S.length (xJ l) kvs S'/\∀ m,m<S.length->S'[m]? = S[m]?) hok hl λkvs S' G hp=>⟨rfl,kvs,G,hp⟩;exact⟨kvs,S1,e1,G,hp⟩
theorem JO (fs:Aa Ak):((tbl fs).map λk=>k.headD 0).Perm (kys fs):=by
 have p:=(_S.w4 (lt':=_H.lexLt) (tbK fs)).map λk=>k.headD 0;unfold tbl;refine p.trans ?_;unfold tbK;rw[Eh];have e:((λk:Aa Ak=>k.headD 0)∘λf=>[f,(fs.count f:Ak)])=id:=rfl;rw[e,Je]
theorem F4 {Q:D->Sto->Prop}(c:Cl){l:Aa Pt}{M:Ai}(hM:M<=40)(h:Lot M l){S:Sto}(q:∀ S',S<+:S'->Q (.lst ((tbl (fars l)).map tpD)) S'):Ok (S_far_table c [qE l] S) Q:=by
 have hll:=h.len;have h25:(xJ l).length<=1600:=Dm (fS l) (Ht (show l.length<=40 by lia) (show l.length<=40 by lia))
 obtain⟨_,S1,e1,rfl,kvs,G,hp⟩:=iW (S:=S) (Q:=λd S'=>d=.loc S.length/\∃ kvs,GI uL prD S.length (xJ l) kvs S'/\∀ m,m<S.length->S'[m]? = S[m]?) h.box li λkvs S' G hp=>⟨rfl,kvs,G,hp⟩;have hi:wG (t7 (qI 1 S_pairs_by_far (q8 (q9 0) (qA)))) [Ab (qE l)] S=.ok (none,kvs.map λp=>D.tup [kD p.1,p.2]) (S1.set S.length .dead):=by
  unfold wG t7;rw[(Q1 (f1:=q9 0) (env:=[Ab (qE l)]) (S:=S) rfl).trans e1];simp only[Res.bind,G.dict];rfl
 have hek:kvs.map (·.1)=(kys (fars l)).map Gv:=G.keys
 have hkl:(kys (fars l)).length<=1600:=by
  have:=mF (ks:=fars l) (l:=[]);have h3:(fars l).length=(xJ l).length:=Au _;unfold kys;simp only[Ec] at this
  lia
 have hkv:kvs.length<=1600:=by
  have:=congrArg Iy hek;rw[Au,Au] at this
  lia
 have ev:(kvs.map λp=>ctD (fars l) p.1)=(tbK (fars l)).map tpD:=by
  rw[show (kvs.map λp=>ctD (fars l) p.1)=(kvs.map (·.1)).map (ctD (fars l)) by rw[Eh];rfl,hek]
  unfold tbK;rw[Eh,Eh];rfl
 have hs:u9 [.lst ((tbK (fars l)).map tpD)] (S1.set S.length .dead)=.ok (.lst ((tbl (fars l)).map tpD)) (S1.set S.length .dead):=by
  show (match (Ab ((tbK (fars l)).map tpD)).bind vL with|some ys=>Res.ok (D.lst ys) (S1.set S.length .dead)|none=>.bad)=_
  rw[Lo,MF (tbK (fars l)) (by unfold tbK;rw[Au];lia) λk hk=>by
   obtain⟨f,_,rfl⟩:=Bj.mp hk;intro z;cases z]
  rfl
 rw[jU];refine zI (env:=[Ab (qE l)]) rfl ?_;rfl';refine qO (fO c S (c7 l) (mM li h)) ?_;rfl';refine uT kvs (λp=>ctD (fars l) p.1) (λenv S'=>S'=S1.set S.length .dead/\∃ a b,env=[a,b]) hi ⟨rfl,none,none,rfl⟩ (by unfold lim;lia) (λ_ _ _=>trivial) (λp hk env S' ⟨z1,a,b,z2⟩=>?_) λenv S' ⟨z1,_⟩=>?_
 .subst z1 z2
  obtain⟨f,j,rfl,h1,h2⟩:=G.lists p hk;rfl';refine SB (xs:=((xJ l).filter λx=>uL x == f).map prD) (by rw[Cq li];exact h2) ?_
  rw[Au,VO];rfl';exact⟨_,_,rfl⟩
 .subst z1
  rw[ev];rfl';exact qO hs (q _ (c9 λm hm=>by rw[Cq li];exact hp m hm))
theorem WJ {Q:D->Sto->Prop}(c:Cl){l:Aa Pt}{M:Ai}(hM:M<=40)(h:Lot M l){S:Sto}(q:∀ S',S<+:S'->Q (.int ((kys (fars l)).length:Ai)) S'):Ok (S_many_fars c [qE l] S) Q:=by
 obtain⟨_,S1,e1,rfl,p1⟩:=F4 (S:=S) (Q:=λd S'=>d=.lst ((tbl (fars l)).map tpD)/\S<+:S') c hM h λS' p=>⟨rfl,p⟩;have hlen:(tbl (fars l)).length=(kys (fars l)).length:=by
  have:=(JO (fars l)).length_eq
  rwa [Au] at this
 have hin:∀ k∈tbl (fars l),∃ a b,k=[a,b]:=λk hk=>by
  obtain⟨f,_,rfl⟩:=Bj.mp ((_S.w4 _).mem_iff.mp hk);exact⟨_,_,rfl⟩
 have hb:(tbl (fars l)).length<=1600:=by
  have h1:=mF (ks:=fars l) (l:=[]);have h2:(fars l).length=(xJ l).length:=Au _;have h3:=fS l;have h4:=Ht (show l.length<=40 by have:=h.len;lia) (show l.length<=40 by have:=h.len;lia)
  rw[hlen];unfold kys;simp only[Ec] at h1
  lia
 have hi:dIt (qI 1 (S_far_table c) (q8 (q9 0) (qA))) [Ab (qE l)] S=.ok (none,(tbl (fars l)).map tpD) S1:=by
  unfold dIt;rw[(Q1 (f1:=q9 0) (env:=[Ab (qE l)]) (S:=S) rfl).trans e1];rfl
 rw[jY];refine zI (env:=[Ab (qE l)]) rfl ?_;rfl';rw[d7];refine zI (env:=[Ab (qE l)]) rfl ?_;rfl';refine uT (tbl (fars l)) (λk=>.int (k.headD 0)) (λenv S'=>S'=S1/\∃ a b,env=[a,b]) hi ⟨rfl,none,none,rfl⟩ (by unfold lim;lia) (λ_ _ _=>trivial) (λk hk env S' ⟨z1,a,b,z2⟩=>?_) λenv S' ⟨z1,_⟩=>?_
 .subst z1 z2
  obtain⟨f,m,rfl⟩:=hin k hk;refine OZ (xs:=[.int f,.int m]) ?_;rfl';exact⟨_,_,rfl⟩
 .subst z1
  refine GA ?_;rfl';rw[Au,hlen];exact q _ p1
theorem cB (i a b:Ak)(S:Sto)(c:Cl)(h:a<=i/\i<=b):S_need_within c [.int i,.int a,.int b] S=.ok .non S:=f7 c S h
theorem LW (p:Ai)(k:Ak)(xs:Aa D)(d:D)(S:Sto)(h:S[p]? = Ab (.lst xs))(hk:_L.atI xs k=Ab d):gIx (.loc p) (.int k) S=.ok d S:=by
 show (match S[p]? with|some (.lst xs)=>_D.yG (_L.atI xs k) S|_=>.bad)=_
 rw[h];show _D.yG (_L.atI xs k) S=_;rw[hk];rfl
theorem TQ (xs:Aa D)(i:Ai)(d:D)(h:xs[i]? = Ab d):_L.atI xs (i:Ak)=Ab d:=by
 have hl:=(Bd.mp h).1;have e:_L.ixN xs.length (i:Ak)=Ab i:=by
  unfold _L.ixN;have:(0:Ak)<=(i:Ak)/\(i:Ak)<xs.length:=⟨by omega,by omega⟩
  simp[hl]
 unfold _L.atI;rw[e];exact h
def zD (l:Aa Pt):Ak:=(NW (fars l):Ak)
def mxL:Aa Ak->Ak
 |[]=>0
 |i::ns=>ns.foldl max i
theorem WB (h:ds≠[]):mxL ds∈ds/\∀ x∈ds,x<=mxL ds:=by
 cases ds with
 |nil=>exact absurd rfl h
 |cons i ns=>exact eI ns i
theorem DR {m:Ak}(h1:m∈ds)(h2:∀ x∈ds,x<=m):mxL ds=m:=by
 obtain⟨a,b⟩:=WB (ds:=ds) (λe=>by subst e;cases h1)
 exact Ks (h2 _ a) (b m h1)
def mx (L:Aa (Aa Pt)):Ak:=mxL (L.map zD)
def wZ (L:Aa (Aa Pt)):Aa (Aa Pt):=L.filter λl=>zD l == mx L
theorem tU (h:L≠[]):mx L∈L.map zD/\∀ x∈L.map zD,x<=mx L:=WB (by simpa using h)
theorem mI (h:L≠[]):wZ L≠[]:=by
 obtain⟨l,hl,e⟩:=Bj.mp (tU h).1;intro z;have:l∈wZ L:=Ex.mpr ⟨hl,by rw[e];simp⟩
 rw[z] at this;cases this
theorem BP (hu:Up pts){k:Ai}(h:k+1<=pts.length):xC pts k≠[]:=by
 intro z;have:pts.take (k+1)∈xC pts k:=(wL pts k _).mpr ⟨by simp;omega,hu.sublist (Nm _ _),λx hx=>Pe hx⟩
 rw[z] at this;cases this
theorem K0 {ty:Em}{g:D->Aa D->Sto->Res D}{fo:DE}{fa:DA}{S S1 S2:Sto}{o:D}{ds:Aa D}(h1:fo env S=.ok o S1)(ht:tyD o S1=Ab ty)(h2:fa env S1=.ok ds S2):dBm ty g fo fa env S=g o ds S2:=by
 unfold dBm;rw[h1,Res.bind_ok,ht,Bf (by simp),h2,Res.bind_ok]
theorem LN {β:Type}{key:β->Ak}{enc:β->D}{prs:Aa β}{S S':Sto}(G:GI key enc n prs kvs S)(e:S<+:S'):GI key enc n prs kvs S':=
 ⟨aZ G.dict e,λkv hk=>by
  obtain⟨f,j,h1,h2,h3⟩:=G.lists kv hk;exact⟨f,j,h1,h2,aZ h3 e⟩,G.nd,G.keys⟩
theorem kE {S:Sto}(h:S[n]? = Ab (.dct kvs)):w6 (.loc n) S=Ab kvs:=by
 show (match S[n]? with|some (.dct kvs)=>Ab kvs|_=>none)=_
 rw[h]
theorem BL {S:Sto}(h:S[n]? = Ab (.dct kvs)):bS [.loc n] S=.ok (.int kvs.length) S:=by
 show (match w6 (.loc n) S with|some kvs=>Res.ok (D.int kvs.length) S|none=>.bad)=_
 rw[kE h]
theorem LM {l:Aa Pt}{S:Sto}(G:GI uL prD n (xJ l) kvs S):(kvs.length:Ak)=zD l:=by
 have:=congrArg Iy G.keys;rw[Au,Au] at this;unfold zD NW fars;rw[this]
theorem mL:∀ {kvs:Aa (_L.Key × D)} {ns:Aa Ak},kvs.map (·.1)=ns.map Gv->yZ kvs=Ab ns
 |[],[],_=>rfl
 |[],_::_,h=>by cases h
 |(.inl i,d)::r,[],h=>by cases h
 |(.inr x,d)::r,[],h=>by cases h
 |(.inr x,d)::r,n::ns,h=>by injection h with h1 _;cases h1
 |(.inl i,d)::r,n::ns,h=>by
  injection h with h1 h2
  cases h1;show (yZ r).map (i::·)=_
  rw[mL h2];rfl
structure Ok3 (w h k:Ai):Prop where
 hw:1<=w/\w<=4
 hh:1<=h/\h<=4
 hk:k+1<=w*h/\k<=5
theorem Ok3.wh {w h k:Ai}(o:Ok3 w h k):1<=w*h/\w*h<=16:=by
 refine⟨by have:=o.hk;omega,?_⟩
 exact Ht o.hw.2 o.hh.2
def m6 (a b:Ak):Ak:=if a*b<6 then a*b else 6
theorem BU {S:Sto}{i:Ai}{a b:Ak}(h0:env[i]? = Ab (Ab (.int a)))(h1:env[j]? = Ab (Ab (.int b)))(ha : -100<=a/\a<=100):qS jC (q8 (dC (.int 6)) (q8 (d2 zR (q9 i) (q9 j)) (qA))) env S=.ok (.int (m6 a b)) S:=
 TY (a:=.int 6) (b:=.int (a*b)) rfl ((kW (bM h0) (bM h1)).trans (PY a b S ⟨by omega,by omega⟩))
abbrev qK (w h k:Ai):Aa (Aa Pt):=xC (xT w h) k
theorem UC {w h k:Ai}(o:Ok3 w h k){l:Aa Pt}(hl:l∈qK w h k):(∀ p∈l,oS p)/\l.length<=41:=by
 obtain⟨a,_,b⟩:=(wL _ _ l).mp hl;exact⟨λp hp=>rJ (by have:=o.hw;omega) (by have:=o.hh;omega) (b p hp),by have:=o.hk;omega⟩
theorem zA {w h k:Ai}(o:Ok3 w h k):qK w h k≠[]:=BP (kO w h) (by rw[j7];exact o.hk.1)
theorem W2 {w h k:Ai}(o:Ok3 w h k):(qK w h k).length<=lim:=by
 refine Dm (mR (by rw[j7];exact o.wh.2) k) ?_
 rw[Nat.pow_succ];exact WU o.hk.2
inductive IvK (w h k:Ai)(S:Sto)(ds:Aa D)(env:qB)(S':Sto):Prop
 |mk (done rest:Aa (Aa Pt)) (kvs:Aa (_L.Key × D)) (e4:Al D) (h_0:env=[Ab (.int (w:Ak)),Ab (.int (h:Ak)),Ab (.int ((k:Ak)+1)),Ab (.loc S.length),e4]) (h_1:ds=rest.map qE) (h_2:done++rest=qK w h k) (h_3:GI zD qE S.length done kvs S') (h_4:∀ m,m<S.length->S'[m]? = S[m]?):IvK w h k S ds env S'
theorem gS (c:Cl){w h k:Ai}(o:Ok3 w h k)(S:Sto):∃ (kvs:Aa (_L.Key × D)) (S':Sto),S_lots_by_fars c [.int (w:Ak),.int (h:Ak),.int ((k:Ak)+1)] S=.ok (.loc S.length) S'/\GI zD qE S.length (qK w h k) kvs S'/\S<+:S':=by
 have hw:=o.hw;have hh:=o.hh;have hk:=o.hk;have hwh:=o.wh;have key:Rt (b_lots_by_fars c [Ab (.int (w:Ak)),Ab (.int (h:Ak)),Ab (.int ((k:Ak)+1)),none,none] S) λd S'=>d=.loc S.length/\∃ kvs,GI zD qE S.length (qK w h k) kvs S'/\S<+:S':=by
  unfold b_lots_by_fars;have n1:=cB (w:Ak) 1 4 S c ⟨by omega,by omega⟩
  have n2:=cB (h:Ak) 1 4 S c ⟨by omega,by omega⟩
  have e6:((k:Ak)+1<=m6 (w:Ak) (h:Ak)):=by
   unfold m6;have e:(w:Ak)*(h:Ak)=((w*h:Ai):Ak):=by push_cast;rfl
   rw[e]
   split <;> omega
  have n3:=cB ((k:Ak)+1) 1 (m6 (w:Ak) (h:Ak)) S c ⟨by omega,e6⟩
  refine v8 (fB (qO (d:=.non) (S:=S) ((vI (a:=.int (w:Ak)) (b:=.int 1) (c:=.int 4) rfl rfl rfl).trans n1) ?_));refine v8 (fB (qO (d:=.non) (S:=S) ((vI (a:=.int (h:Ak)) (b:=.int 1) (c:=.int 4) rfl rfl rfl).trans n2) ?_));refine v8 (fB (qO (d:=.non) (S:=S) ((vI (a:=.int ((k:Ak)+1)) (b:=.int 1) rfl rfl (BU rfl rfl ⟨by omega,by omega⟩)).trans n3) ?_))
  refine v8 (bB (qO rfl ?_));simp only[Wy,Qs];have hb:=M0 w h (S++[.dct []]) om om;have hl:=EC (xT w h) (by rw[j7];exact hwh.2) k hk.2 (S++[.dct []])
  have hit:yH (qI 2 S_lots_of (q8 (qI 2 S_board_points (q8 (q9 0) (q8 (q9 1) (qA)))) (q8 (q9 2) (qA)))) [Ab (.int (w:Ak)),Ab (.int (h:Ak)),Ab (.int ((k:Ak)+1)),Ab (.loc S.length),none] (S++[.dct []]) = .ok ((qK w h k).map qE) (S++[.dct []]):=by
   unfold yH;rw[(Q2 ((Q2 (a:=.int (w:Ak)) (b:=.int (h:Ak)) rfl rfl).trans hb) (b:=.int ((k:Ak)+1)) rfl).trans hl];rfl
  refine v8 (WG hit ?_);clear hit hl hb n1 n2 n3 e6;refine lP (IvK w h k S) ?_ ?_ ⟨[],qK w h k,[],none,rfl,rfl,rfl,⟨by simp,λkv hk=>(by cases hk),Nk,rfl⟩,λm hm=>Be hm⟩
  .rintro d ds env S' ⟨done,rest,kvs,e4,rfl,hds,hall,G,hpre⟩
   cases rest with
   |nil=>cases hds
   |cons l rest =>
    injection hds with h1 h2
    subst h1 h2;refine⟨[Ab (.int (w:Ak)),Ab (.int (h:Ak)),Ab (.int ((k:Ak)+1)),Ab (.loc S.length),Ab (qE l)],S',rfl,?_⟩;have hml:l∈qK w h k:=by rw[<- hall];simp
    obtain⟨p1,p2⟩:=UC o hml;obtain⟨kv1,S1,c1,G1,pre1⟩:=M4 l S' p1 p2;have q1:S'<+:S1:=c9 pre1;have hlen:=(k9 (F:=bS) ((Q1 (f1:=q9 4) (env:=[Ab (.int (w:Ak)),Ab (.int (h:Ak)),Ab (.int ((k:Ak)+1)),Ab (.loc S.length),Ab (qE l)]) (a:=qE l) rfl).trans c1)).trans (BL G1.dict);rw[LM G1] at hlen;have Gx:=LN G q1;have hdl:done.length<lim:=by
     have:=congrArg Iy hall;have:=W2 o;simp only[De,By] at *;omega
    obtain⟨j,T1,T2,kvs',f1,f2,f3,G',hp'⟩:=i3 Gx l hdl;have l0:0<=lim:=by decide
    have hs1:S.length<S1.length:=(Bd.mp Gx.dict).1;have hm0:kX (qA) [Ab (.int (w:Ak)),Ab (.int (h:Ak)),Ab (.int ((k:Ak)+1)),Ab (.loc S.length),Ab (qE l)] S1=.ok (.loc S1.length) (S1++[.lst []]):=rfl;refine fB (qO ((K0 ((K0 (o:=.loc S.length) rfl (cP G.dict) (NC hlen hm0)).trans f1) f2 (rZ (a:=qE l) rfl)).trans f3) ?_);exact⟨done++[l],rest,kvs',_,rfl,rfl,by rw[<- hall];simp,G',λm hm=>((hp' m hm).trans (pre1 m (by have:=(Bd.mp G.dict).1;omega))).trans (hpre m hm)⟩
  .rintro env S' ⟨done,rest,kvs,e4,rfl,hds,hall,G,hpre⟩
   cases rest with
   |cons _ _=>cases hds
   |nil =>
    have:done=qK w h k:=by simpa using hall
    rw[<- this];exact n8 (qO rfl ⟨rfl,kvs,G,c9 hpre⟩)
 obtain⟨d,S',e,rfl,kvs,G,p⟩:=key;refine⟨kvs,S',?_,G,p⟩;rw[vU];exact n9 rfl e
theorem iS (hL:L≠[]){n:Ai}{kvs:Aa (_L.Key × D)}{S:Sto}(G:GI zD qE n L kvs S):bT [.loc n] S=.ok (.int (mx L)) S:=by
 have e:=mL G.keys;show (match (w6 (.loc n) S).bind yZ with|some (i::ns)=>Res.ok (D.int (ns.foldl max i)) S|_=>.bad)=_
 rw[kE G.dict,Lo,e];have m:=tU hL;have hm:mxL ((L.map zD).foldl Bi []) = mx L:=DR (xE.mpr (.inr m.1)) λx hx=>by
  rcases xE.mp hx with h|h
  .cases h
  .exact m.2 x h
 cases hc:(L.map zD).foldl Bi [] with
 |nil =>
  have:mx L∈(L.map zD).foldl Bi []:=xE.mpr (.inr m.1);rw[hc] at this;cases this
 |cons i ns =>
  rw[hc] at hm;dsimp only;rw[show ns.foldl max i=mx L from hm]
theorem LV (hL:L≠[]){n:Ai}{kvs:Aa (_L.Key × D)}{S:Sto}(G:GI zD qE n L kvs S):∃ j,pV (.loc n) (.int (mx L)) S=.ok (.loc j) S/\n<j/\S[j]? = Ab (.lst ((wZ L).map qE)):=by
 have m:=tU hL;have hin:(Gv (mx L):_L.Key)∈kvs.map (·.1):=by
  rw[G.keys];exact Bj.mpr ⟨_,xE.mpr (.inr m.1),rfl⟩
 cases hv:x8 kvs (.inl (mx L)) with
 |none =>
  obtain⟨kv,hk,e⟩:=Bj.mp hin;exact absurd e (mV hv kv hk)
 |some d =>
  obtain⟨f,j,e,h1,h2⟩:=G.lists _ (mW hv);injection e with e1 e2
  injection e1 with e1
  subst e1 e2;refine⟨j,?_,h1,h2⟩;show (match w6 (.loc n) S,yF (.int (mx L)) with|some kvs,Ab k=>(match x8 kvs k with|some d=>Res.ok d S|none=>.bad)|_,_=>.bad)=_
  rw[kE G.dict];show (match x8 kvs (.inl (mx L)) with|some d=>Res.ok d S|none=>.bad)=_
  rw[hv]
theorem EE (c:Cl){w h k:Ai}(o:Ok3 w h k)(S:Sto):∃ S',S_most_fars c [.int (w:Ak),.int (h:Ak),.int ((k:Ak)+1)] S=.ok (.int (mx (qK w h k))) S'/\S<+:S':=by
 obtain⟨kvs,S',e,G,p⟩:=gS c o S;refine⟨S',?_,p⟩;rw[k8];exact vE rfl ((k9 ((vI (a:=.int (w:Ak)) (b:=.int (h:Ak)) (c:=.int ((k:Ak)+1)) rfl rfl rfl).trans e)).trans (iS (zA o) G))
theorem KW (c:Cl){w h k:Ai}(o:Ok3 w h k)(S:Sto):∃ (j:Ai) (S':Sto),S_lots_of_most c [.int (w:Ak),.int (h:Ak),.int ((k:Ak)+1)] S=.ok (.loc j) S'/\S'[j]? = Ab (.lst ((wZ (qK w h k)).map qE))/\S.length<=j/\S<+:S':=by
 obtain⟨kvs,S',e,G,p⟩:=gS c o S;obtain⟨j,e2,h1,h2⟩:=LV (zA o) G;refine⟨j,S',?_,h2,by omega,p⟩
 have key:Rt (b_lots_of_most c [Ab (.int (w:Ak)),Ab (.int (h:Ak)),Ab (.int ((k:Ak)+1)),none] S) λd S1=>d=.loc j/\S1=S':=by
  unfold b_lots_of_most;refine v8 (bB (qO ((vI (a:=.int (w:Ak)) (b:=.int (h:Ak)) (c:=.int ((k:Ak)+1)) rfl rfl rfl).trans e) ?_));exact n8 (qO ((kW (a:=.loc S.length) rfl ((k9 (a:=.loc S.length) rfl).trans (iS (zA o) G))).trans e2) ⟨rfl,rfl⟩)
 obtain⟨d,S1,e3,rfl,rfl⟩:=key;rw[vV];exact n9 rfl e3
theorem fV {S:Sto}(hj:S[j]? = Ab (.lst (L.map qE)))(h:L≠[]):gIx (.loc j) (.int 0) S=.ok (qE (L.headD [])) S:=by
 cases L with
 |nil=>exact absurd rfl h
 |cons l L=>exact LW j 0 _ _ S hj (TQ _ 0 _ rfl)
theorem BM {S:Sto}{xs:Aa D}(h:S[j]? = Ab (.lst xs)):wY [.loc j] S=.ok (.int xs.length) S:=by
 show mE [.loc j] S=_;simp only[mE,eR,h]
theorem ED (c:Cl){w h k:Ai}(o:Ok3 w h k)(S:Sto):∃ S',S_many_lots c [.int (w:Ak),.int (h:Ak),.int ((k:Ak)+1)] S=.ok (.int ((wZ (qK w h k)).length:Ak)) S'/\S<+:S':=by
 obtain⟨j,S',e,h1,_,p⟩:=KW c o S;refine⟨S',?_,p⟩;rw[jZ];have:=BM h1;rw[Au] at this;exact vE rfl ((k9 ((vI (a:=.int (w:Ak)) (b:=.int (h:Ak)) (c:=.int ((k:Ak)+1)) rfl rfl rfl).trans e)).trans this)
theorem J8 (c:Cl){w h k:Ai}(o:Ok3 w h k)(S:Sto):∃ S',S_first_many c [.int (w:Ak),.int (h:Ak),.int ((k:Ak)+1)] S=.ok (qE ((wZ (qK w h k)).headD [])) S'/\S<+:S':=by
 obtain⟨j,S',e,h1,_,p⟩:=KW c o S;refine⟨S',?_,p⟩;rw[uZ];exact vE rfl ((kW ((vI (a:=.int (w:Ak)) (b:=.int (h:Ak)) (c:=.int ((k:Ak)+1)) rfl rfl rfl).trans e) rfl).trans (fV h1 (mI (zA o))))
def mnL:Aa Ak->Ak
 |[]=>0
 |i::ns=>ns.foldl min i
theorem W9 (h:ds≠[]):mnL ds∈ds/\∀ x∈ds,mnL ds<=x:=by
 cases ds with
 |nil=>exact absurd rfl h
 |cons i ns=>exact tI ns i
theorem DP {m:Ak}(h1:m∈ds)(h2:∀ x∈ds,m<=x):mnL ds=m:=by
 obtain⟨a,b⟩:=W9 (ds:=ds) (λe=>by subst e;cases h1)
 exact Ks (b m h1) (h2 _ a)
def mn (L:Aa (Aa Pt)):Ak:=mnL (L.map zD)
def good (L:Aa (Aa Pt)):Aa (Aa Pt):=L.filter λl=>zD l == mn L
theorem tS (h:L≠[]):mn L∈L.map zD/\∀ x∈L.map zD,mn L<=x:=W9 (by simpa using h)
theorem i6 (h:L≠[]):good L≠[]:=by
 obtain⟨l,hl,e⟩:=Bj.mp (tS h).1;intro z;have:l∈good L:=Ex.mpr ⟨hl,by rw[e];simp⟩
 rw[z] at this;cases this
theorem iT (hL:L≠[]){n:Ai}{kvs:Aa (_L.Key × D)}{S:Sto}(G:GI zD qE n L kvs S):bU [.loc n] S=.ok (.int (mn L)) S:=by
 have e:=mL G.keys;show (match (w6 (.loc n) S).bind yZ with|some (i::ns)=>Res.ok (D.int (ns.foldl min i)) S|_=>.bad)=_
 rw[kE G.dict,Lo,e];have m:=tS hL;have hm:mnL ((L.map zD).foldl Bi []) = mn L:=DP (xE.mpr (.inr m.1)) λx hx=>by
  rcases xE.mp hx with h|h
  .cases h
  .exact m.2 x h
 cases hc:(L.map zD).foldl Bi [] with
 |nil =>
  have:mn L∈(L.map zD).foldl Bi []:=xE.mpr (.inr m.1);rw[hc] at this;cases this
 |cons i ns =>
  rw[hc] at hm;dsimp only;rw[show ns.foldl min i=mn L from hm]
theorem LU (hL:L≠[]){n:Ai}{kvs:Aa (_L.Key × D)}{S:Sto}(G:GI zD qE n L kvs S):∃ j,pV (.loc n) (.int (mn L)) S=.ok (.loc j) S/\n<j/\S[j]? = Ab (.lst ((good L).map qE)):=by
 have m:=tS hL;have hin:(Gv (mn L):_L.Key)∈kvs.map (·.1):=by
  rw[G.keys];exact Bj.mpr ⟨_,xE.mpr (.inr m.1),rfl⟩
 cases hv:x8 kvs (.inl (mn L)) with
 |none =>
  obtain⟨kv,hk,e⟩:=Bj.mp hin;exact absurd e (mV hv kv hk)
 |some d =>
  obtain⟨f,j,e,h1,h2⟩:=G.lists _ (mW hv);injection e with e1 e2
  injection e1 with e1
  subst e1 e2;refine⟨j,?_,h1,h2⟩;show (match w6 (.loc n) S,yF (.int (mn L)) with|some kvs,Ab k=>(match x8 kvs k with|some d=>Res.ok d S|none=>.bad)|_,_=>.bad)=_
  rw[kE G.dict];show (match x8 kvs (.inl (mn L)) with|some d=>Res.ok d S|none=>.bad)=_
  rw[hv]
theorem J7 (c:Cl){w h k:Ai}(o:Ok3 w h k)(S:Sto):∃ S',S_fewest c [.int (w:Ak),.int (h:Ak),.int ((k:Ak)+1)] S=.ok (.int (mn (qK w h k))) S'/\S<+:S':=by
 obtain⟨kvs,S',e,G,p⟩:=gS c o S;refine⟨S',?_,p⟩;rw[fK];exact vE rfl ((k9 ((vI (a:=.int (w:Ak)) (b:=.int (h:Ak)) (c:=.int ((k:Ak)+1)) rfl rfl rfl).trans e)).trans (iT (zA o) G))
theorem n6 (c:Cl){w h k:Ai}(o:Ok3 w h k)(S:Sto):∃ (j:Ai) (S':Sto),S_few_lots c [.int (w:Ak),.int (h:Ak),.int ((k:Ak)+1)] S=.ok (.loc j) S'/\S'[j]? = Ab (.lst ((good (qK w h k)).map qE))/\S.length<=j/\S<+:S':=by
 obtain⟨kvs,S',e,G,p⟩:=gS c o S;obtain⟨j,e2,h1,h2⟩:=LU (zA o) G;refine⟨j,S',?_,h2,by omega,p⟩
 have key:Rt (b_few_lots c [Ab (.int (w:Ak)),Ab (.int (h:Ak)),Ab (.int ((k:Ak)+1)),none] S) λd S1=>d=.loc j/\S1=S':=by
  unfold b_few_lots;refine v8 (bB (qO ((vI (a:=.int (w:Ak)) (b:=.int (h:Ak)) (c:=.int ((k:Ak)+1)) rfl rfl rfl).trans e) ?_));exact n8 (qO ((kW (a:=.loc S.length) rfl ((k9 (a:=.loc S.length) rfl).trans (iT (zA o) G))).trans e2) ⟨rfl,rfl⟩)
 obtain⟨d,S1,e3,rfl,rfl⟩:=key;rw[pD];exact n9 rfl e3
theorem M2 (c:Cl){w h k:Ai}(o:Ok3 w h k)(S:Sto):∃ S',S_first_few c [.int (w:Ak),.int (h:Ak),.int ((k:Ak)+1)] S=.ok (qE ((good (qK w h k)).headD [])) S'/\S<+:S':=by
 obtain⟨j,S',e,h1,_,p⟩:=n6 c o S;refine⟨S',?_,p⟩;rw[jV];exact vE rfl ((kW ((vI (a:=.int (w:Ak)) (b:=.int (h:Ak)) (c:=.int ((k:Ak)+1)) rfl rfl rfl).trans e) rfl).trans (fV h1 (i6 (zA o))))
theorem lE {fs:Aa Ak}{x:Ak}:x∈kys fs↔x∈fs:=by
 unfold kys;rw[xE];exact⟨λh=>h.elim (λz=>by cases z) id,.inr⟩
theorem XX (fs:Aa Ak):(kys fs).Nodup:=aY fs [] Nk
theorem eY {α:Type}[Ob α] : ∀ {L G:Aa α},L.Nodup->(∀ s∈L,s∈G)->L.length<=G.length
 |[],_,_,_=>Gz _
 |x::L,G,nd,h=>by
  have nd':=Lz.mp nd;have p:=List.perm_cons_erase (h x (.head _));have:=eY (L:=L) (G:=G.erase x) nd'.2 λs hs=>(Az.mp (p.mem_iff.mp (h s (.tail _ hs)))).resolve_left λe=>nd'.1 (e▸hs);rw[p.length_eq,By,By];exact Nat.succ_le_succ this
theorem QY {l:Aa Pt}(h:∀ x∈fars l,x∈fars m):zD l<=zD m:=
 Int.ofNat_le.mpr (eY (XX _) λx hx=>lE.mpr (h x (lE.mp hx)))
theorem VN {l:Aa Pt}(s:l.Sublist m):∀ x∈fars l,x∈fars m:=by
 induction s with
 |slnil=>exact λx hx=>hx
 |cons a s ih =>
  intro x hx;rw[zX];exact Bt _ (ih x hx)
 |cons_cons a s ih =>
  intro x hx;rw[zX] at hx ⊢;rcases Cn.mp hx with h|h
  .obtain⟨q,hq,rfl⟩:=Bj.mp h
   exact Dk _ (Bj.mpr ⟨q,s.subset hq,rfl⟩)
  .exact Bt _ (ih x h)
theorem WE {l:Aa Pt}(s:l.Sublist m):zD l<=zD m:=QY (VN s)
theorem eF:∀ l:Aa Pt,2*(fars l).length=l.length*(l.length-1)
 |[]=>rfl
 |p::l=>by
  have ih:=eF l;rw[zX,De,Au,By];cases hl:l.length with
  |zero=>rw[hl] at ih;rw[Gy,ih]
  |succ n =>
   rw[hl] at ih;simp only[Qr] at ih ⊢;rw[Nat.mul_add,ih]
   grind
theorem DY (l:Aa Pt):2*zD l<=(l.length:Ak)*(l.length-1):=by
 have h1:(kys (fars l)).length<=(fars l).length:=eY (XX _) λx hx=>lE.mp hx;have h2:=eF l;have h3:zD l=((kys (fars l)).length:Ak):=rfl;rw[h3];cases hl:l.length with
 |zero=>rw[hl] at h2;simp at h2;simp;omega
 |succ n =>
  rw[hl] at h2;simp only[Qr] at h2;have:(((n+1:Ai):Ak)*(((n+1:Ai):Ak)-1))=(((n+1)*n:Ai):Ak):=by push_cast;grind
  rw[this];omega
theorem wM {w h:Ai}{p:Pt}:p∈xT w h↔0<=p.1/\p.1<w/\0<=p.2/\p.2<h:=by
 refine⟨dE,λ⟨h1,h2,h3,h4⟩=>?_⟩;unfold xT;refine Ow.mpr ⟨p.1.toNat,Ed.mpr om,Bj.mpr ⟨p.2.toNat,Ed.mpr om,?_⟩⟩;unfold pt;exact Wg (by dsimp only;omega) (by dsimp only;omega)
theorem xP {w h k:Ai}{l:Aa Pt}:l∈qK w h k↔l.length=k+1/\Up l/\∀ x∈l,x∈xT w h:=wL _ _ _
theorem sZ {l:Aa Pt}(h:l∈L):mn L<=zD l:=(tS (Wz h)).2 _ (Bj.mpr ⟨l,h,rfl⟩)
theorem sY {l:Aa Pt}(h:l∈L):zD l<=mx L:=(tU (Wz h)).2 _ (Bj.mpr ⟨l,h,rfl⟩)
theorem u6 (h:L≠[]):∃ l∈L,zD l=mn L:=Bj.mp (tS h).1
theorem r0 (h:L≠[]):∃ l∈L,zD l=mx L:=Bj.mp (tU h).1
theorem tri:((qK 4 4 2).all λl=>decide (2<=zD l))=true:=kd
theorem duo:((qK 4 4 1).all λl=>decide (1<=zD l))=true:=kd
section
variable {w h k:Ai}
theorem low (o:Ok3 w h k){l:Aa Pt}(hl:l∈qK w h k)(m:Ai)(hm:m<=k):∃ l'∈qK 4 4 m,zD l'<=zD l:=by
 obtain⟨h1,h2,h3⟩:=xP.mp hl;have s:=Nm (m+1) l;refine⟨l.take (m+1),xP.mpr ⟨by rw[Fn];omega,h2.sublist s,λx hx=>?_⟩,WE s⟩
 have:=wM.mp (h3 x (s.subset hx));have a:=o.hw;have b:=o.hh;exact wM.mpr om
theorem nF (o:Ok3 w h k)(hk:2<=k){l:Aa Pt}(hl:l∈qK w h k):2<=zD l:=by
 obtain⟨l',m,e⟩:=low o hl 2 hk;have:=Ca (Bo.mp tri l' m);omega
theorem SV (o:Ok3 w h k)(hk:1<=k){l:Aa Pt}(hl:l∈qK w h k):1<=zD l:=by
 obtain⟨l',m,e⟩:=low o hl 1 hk;have:=Ca (Bo.mp duo l' m);omega
theorem KG (o:Ok3 w h k):mn (qK w h k)<=mx (qK w h k):=by
 obtain⟨l,m,e⟩:=u6 (zA o);rw[<- e];exact sY m
theorem BW (o:Ok3 w h k)(o':Ok3 w h (k+1)):mn (qK w h k)<=mn (qK w h (k+1)):=by
 obtain⟨l,m,e⟩:=u6 (zA o');obtain⟨h1,h2,h3⟩:=xP.mp m;have s:=Nm (k+1) l;have:=sZ (xP.mpr ⟨by rw[Fn];omega,h2.sublist s,λx hx=>h3 x (s.subset hx)⟩:l.take (k+1)∈qK w h k)
 have:=WE s;omega
theorem H9 {l:Aa Pt}(hl:l∈qK w h k):l∈qK (w+1) h k:=by
 obtain⟨h1,h2,h3⟩:=xP.mp hl;exact xP.mpr ⟨h1,h2,λx hx=>wM.mpr (by have:=wM.mp (h3 x hx);omega)⟩
theorem BX (o:Ok3 w h k):mn (qK (w+1) h k)<=mn (qK w h k):=by
 obtain⟨l,m,e⟩:=u6 (zA o);rw[<- e];exact sZ (H9 m)
theorem BY (o:Ok3 w h k):mx (qK w h k)<=mx (qK (w+1) h k):=by
 obtain⟨l,m,e⟩:=r0 (zA o);rw[<- e];exact sY (H9 m)
end
def sw (p:Pt):Pt:=(p.2,p.1)
def mir (l:Aa Pt):Aa Pt:=bJ (l.map sw)
theorem ZH (p:Pt):sw (sw p)=p:=rfl
theorem CM {l:Aa Pt}(h:l.Nodup):(l.map sw).Nodup:=by
 refine Df.mpr (h.imp λ{a b} hne e=>hne ?_);rw[<- ZH a,e,ZH]
theorem H8 {l:Aa Pt}(hl:Up l)(hm:Up m)(h:∀ x,x∈l↔x∈m):l=m:=by
 have:=_S.kJ _S.xG (a:=l.map kP) (b:=m.map kP) (Df.mpr hl) (Df.mpr hm) λx=>by
  rw[Bj,Bj];exact⟨λ⟨p,hp,e⟩=>⟨p,(h p).mp hp,e⟩,λ⟨p,hp,e⟩=>⟨p,(h p).mpr hp,e⟩⟩
 have g:=congrArg (AaF pK) this;rw[Eh,Eh] at g
 rwa [show (l.map (pK∘kP))=l from (Gg λq _=>rfl).trans (Je l),show (m.map (pK∘kP))=m from (Gg λq _=>rfl).trans (Je m)] at g
theorem LH (p q:Pt):far (sw p) (sw q)=far p q:=by
 unfold far sw;exact Int.add_comm _ _
theorem aW:∀ l:Aa Pt,fars (l.map sw)=fars l
 |[]=>rfl
 |p::l=>by
  rw[Dc,zX,zX,aW l,Eh]
  congr 1
  exact Gg λq _=>LH p q
section
variable {w h k:Ai}{l:Aa Pt}
theorem lL (x:Pt):x∈mir l↔sw x∈l:=by
 unfold mir;rw[(jI _).mem_iff,Bj];exact⟨λ⟨y,hy,e⟩=>by rw[<- e];exact hy,λh=>⟨sw x,h,rfl⟩⟩
theorem eX (hu:Up l):Up (mir l):=MH (CM (ID hu))
theorem lM (hu:Up l):mir (mir l)=l:=H8 (eX (eX hu)) hu λx=>by rw[lL,lL,ZH]
theorem tR (l:Aa Pt):zD (mir l)=zD l:=by
 have p:=XF (jI (l.map sw));rw[aW] at p;exact Ks (QY λx hx=>p.mem_iff.mp hx) (QY λx hx=>p.mem_iff.mpr hx)
theorem uR (hl:l∈qK w h k):mir l∈qK h w k:=by
 obtain⟨h1,h2,h3⟩:=xP.mp hl;refine xP.mpr ⟨?_,eX h2,λx hx=>?_⟩
 .unfold mir
  rw[(jI _).length_eq,Au];exact h1
 .have:=wM.mp (h3 _ ((lL x).mp hx))
  unfold sw at this;exact wM.mpr (by dsimp only at this;omega)
theorem CK (o:Ok3 w h k)(o':Ok3 h w k):mn (qK h w k)=mn (qK w h k):=by
 obtain⟨l,m,e⟩:=u6 (zA o);obtain⟨l',m',e'⟩:=u6 (zA o');have a:=sZ (uR m);have b:=sZ (uR m');rw[tR] at a b;omega
theorem KH (o:Ok3 w h k)(o':Ok3 h w k):mx (qK h w k)=mx (qK w h k):=by
 obtain⟨l,m,e⟩:=r0 (zA o);obtain⟨l',m',e'⟩:=r0 (zA o');have a:=sY (uR m);have b:=sY (uR m');rw[tR] at a b;omega
theorem KF (w h k:Ai):(qK w h k).Nodup:=(bY (kO w h) k).imp λ{a b} h e=>by
 subst e;have:=W5 h;rw[h] at this;cases this
theorem aX (v:Ak):((qK h w k).filter λl=>zD l == v).Perm (((qK w h k).filter λl=>zD l == v).map mir):=by
 refine(Ra (Jq _ (KF h w k)) ?_).mpr λl=>?_
 .refine Df.mpr (Mn (λ{a b} ha hb hne e=>hne ?_) (Jq _ (KF w h k)))
  have ua:=(xP.mp (Ex.mp ha).1).2.1;have ub:=(xP.mp (Ex.mp hb).1).2.1;rw[<- lM ua,e,lM ub]
 .rw[Ex,Bj]
  refine⟨λ⟨h1,h2⟩=>⟨mir l,Ex.mpr ⟨uR h1,by rw[tR];exact h2⟩,lM (xP.mp h1).2.1⟩,λ⟨m,hm,e⟩=>?_⟩
  obtain⟨h1,h2⟩:=Ex.mp hm;rw[<- e];exact⟨uR h1,by rw[tR];exact h2⟩
theorem B0 (o:Ok3 w h k)(o':Ok3 h w k):bH (((good (qK w h k)).map mir).map qE)=(good (qK h w k)).map qE:=by
 refine MG (n:=6) (λx hx=>?_) ?_ ?_
 .obtain⟨l,_,rfl⟩:=Bj.mp hx
  exact EO 4 l
 .unfold good
  rw[CK o o'];exact(aX _).map _
 .rw[Df]
  refine(Jq _ (bY (kO h w) k)).imp λ{a b} h=>?_;rw[lI];exact W5 h
theorem BR (o:Ok3 w h k)(o':Ok3 h w k):(wZ (qK h w k)).length=(wZ (qK w h k)).length:=by
 unfold wZ;rw[KH o o',(aX (w:=w) (h:=h) _).length_eq,Au]
end
theorem iX (ne:∀ l∈L,l≠[]):sOk (L.map qE)=true:=by
 unfold sOk;rw[HT];refine Bo.mpr λl hl=>?_;show (neT (qE l)&&trb 6 (qE l)&&(L.map qE).all λb=>wJ (qE l) b)=true;rw[MN 4 l,Om,Av,HT];refine⟨?_,Bo.mpr λm _=>rP l m⟩;cases l with
 |nil=>exact absurd rfl (ne _ hl)
 |cons _ _=>rfl
theorem JI (hu:L.Pairwise λa b=>ltL a b=true)(hn:L.length<=1000)(ne:∀ l∈L,l≠[]):vF (L.map qE)=Ab (L.map qE):=by
 have ok:=iX ne;have e:_S.srt _H.lexLt ((L.map qE).map qZ)=(L.map qE).map qZ:=by
  refine _S.kJ _S.xG (_S.bK _S.xG _) ?_ λx=>_S.uC _S.xG x _;rw[Df,Df];refine hu.imp λ{a b} h=>?_;have:=lI a b;rw[h] at this;exact this
 unfold vF;rw[e,ok,Om,Au,Au,Cd hn,Bf rfl,Eh]
 congr 1
 conv=>rhs;rw[<- Je (L.map qE)]
 exact Gg λx hx=>kF ok hx
def bs (p:Ak->Ar):Ai->Ak->Ak->Ak
 |0,lo,_=>lo
 |n+1,lo,hi=>if lo<hi then (if p ((lo+hi)/2) then bs p n lo ((lo+hi)/2) else bs p n ((lo+hi)/2+1) hi) else lo
theorem OF (p:Ak->Ar)(n:Ai)(lo hi:Ak):bs p (n+1) lo hi=if lo<hi then (if p ((lo+hi)/2) then bs p n lo ((lo+hi)/2) else bs p n ((lo+hi)/2+1) hi) else lo:=rfl
theorem TV (p:Ak->Ar)(k:Ai)(lo hi:Ak)(h:hi<=lo):bs p k lo hi=lo:=by
 cases k with
 |zero=>rfl
 |succ k=>unfold bs;rw[Bb li]
theorem OK {i:Ai}{a:Af}{cv:Aa _L.V}{G:Aa D->DF}{S S1:Sto}(h:env[i]? = Ab (Ab (.clo a cv caps)))(k:f env S=.ok d S1):mB i (q8 f (qA)) a cv 1 G env S=G caps [d] S1:=by
 unfold mB;rw[h];show (if a=a/\cv=cv then _ else _)=_
 rw[Bf ⟨rfl,rfl⟩,rZ k];rfl
theorem SC {Q:D->Sto->Prop}{fe:DE}{cap:Aa Ai}(p:Ak->Ar)(M:Ak){S:Sto}(hM:0<=M/\M<1000000000000000000)(hc:m8 cap env=Ab caps)(hf:f env S=.ok (.int M) S)(hG:∀ t,0<=t->t<M->Ok (fe (Ab (.int t)::caps.map Ab) S) λd S'=>d=.bl (p t)/\S'=S)(q:Q (.int (bs p M.toNat 0 M)) S):Ok (kA false cap 2 5 (q8 f (qA)) (b_least_where (lG fe)) env S) Q:=by
 refine⟨_,_,?_,q⟩;unfold kA;rw[hc];show (q8 f (qA) env S).bind _=_;rw[rZ hf];show (if 1+1=2 then exO false (uni λa cv=>qM 5 (b_least_where (lG fe) a cv) [.clo a cv caps,.int M] S) else .bad)=_
 rw[Bf rfl,H0 (R:=.ok (.int (bs p M.toNat 0 M)) S) λa cv=>?_]
 .rfl
 .refine y8 (zI (env:=[Ab (.clo a cv caps),Ab (.int M),none,none,none]) rfl ?_)
  rfl';refine MT (λn env S'=>∃ (lo hi:Ak) (e:Al D) (k:Ai),env=[Ab (.clo a cv caps),Ab (.int M),Ab (.int lo),Ab (.int hi),e]/\S'=S/\n=(hi-lo).toNat/\0<=lo/\lo<=hi/\hi<=M/\(hi-lo).toNat<=k/\bs p k lo hi=bs p M.toNat 0 M) ?_ (n:=M.toNat) (by rw[TU];lia) ⟨0,M,none,M.toNat,rfl,rfl,by lia,by lia,by lia,by lia,by lia,rfl⟩
  rintro n _ _ ⟨lo,hi,e,k,rfl,rfl,rfl,h0,h1,h2,h3,h4⟩;rfl';refine⟨λz=>?_,λz=>?_⟩
  .have hl:=Ca z
   cases k with
   |zero=>lia
   |succ k =>
    rw[OF,Bf hl] at h4;rfl';refine qO ((OK rfl rfl).trans (show lG fe caps [.int ((lo+hi)/2)] _=_ from y8 (hG ((lo+hi)/2) li li))) ?_
    rfl';cases hp:p ((lo+hi)/2) with
    |true =>
     rw[hp,Bf rfl] at h4;rfl';exact YC _ li ⟨lo,(lo+hi)/2,_,k,rfl,rfl,rfl,by lia,by lia,by lia,by lia,h4⟩
    |false =>
     rw[hp,Bb Go] at h4;rfl';exact YC _ li ⟨(lo+hi)/2+1,hi,_,k,rfl,rfl,rfl,by lia,by lia,by lia,by lia,h4⟩
  .have hl:=Ms z
   rw[TV p k lo hi li] at h4;rfl';exact⟨by rw[h4],rfl⟩
def K8 (n:Ak):Ak->Ar:=λt=>decide (n-1<=t*t+t)
def eK (n:Ak):Ak:=bs (K8 n) (1000000000:Ak).toNat 0 1000000000
theorem SA {Q:D->Sto->Prop}(c:Cl){n:Ak}{S:Sto}(h:1<=n/\n<=6)(q:Q (.int (eK n)) S):Ok (S_by_hull c [.int n] S) Q:=by
 rw[pO];refine zI (env:=[Ab (.int n)]) rfl ?_;rfl';refine qO (d:=.int 1000000000000000000) rfl ?_;rfl';refine qO (f7 c S ⟨h.1,by lia⟩) ?_
 rfl';refine SC (K8 n) 1000000000 li (caps:=[.int n]) rfl ((kW rfl rfl).trans (show pW (.int 10) (.int 9) S=.ok (.int 1000000000) S from rfl)) (λt h0 h1=>?_) ?_
 .rfl'
  exact rfl
 .rfl'
  exact q
def mp (s:Ak):Ak:=s*(s-1)/2
theorem SD {Q:D->Sto->Prop}{s:Ak}{S:Sto}(h:0<=s/\s<1000000000000000)(q:Q (.int (mp s)) S):Ok (S_many_pairs [.int s] S) Q:=by
 rw[j3];refine zI (env:=[Ab (.int s)]) rfl ?_;rfl';exact q
def shs (w n:Ak):Ak:=n*mp (w/n)+w % n*(w/n)
theorem A0 {Q:D->Sto->Prop}{w n:Ak}{S:Sto}(hw:0<=w/\w<=4000000000000)(hn:1<=n/\n<=1000000)(q:Q (.int (shs w n)) S):Ok (S_pairs_of_shares [.int w,.int n] S) Q:=by
 have q0:0<=w/n:=Int.ediv_nonneg hw.1 li;have q1:w/n<=w:=Int.ediv_le_self _ hw.1;have m0:0<=w % n:=Kq _ li;have m1:w % n<n:=Iw _ li;rw[yW];refine zI (env:=[Ab (.int w),Ab (.int n),none,none]) rfl ?_;rfl';refine qO (d:=.tup [.int (w/n),.int (w % n)]) (S:=S) (Bf ⟨by lia,by lia,by lia,by lia⟩) ?_
 rfl';refine SD ⟨q0,by lia⟩ ?_
 rfl';exact q
def KR (n:Ak):Ak->Ar:=λe=>decide (n*(n-1)<shs (2*e) n)
def pb (n:Ak):Ak:=bs (KR n) (n*n).toNat 0 (n*n)-1
theorem OY {Q:D->Sto->Prop}(c:Cl){n:Ak}{S:Sto}(h:1<=n/\n<=6)(q:Q (.int (pb n)) S):Ok (S_pair_bound c [.int n] S) Q:=by
 have hq:0<=n*n/\n*n<=1600:=⟨Int.mul_nonneg li li,Dt (Int.mul_le_mul_of_nonneg_left h.2 li) li⟩;rw[j6];refine zI (env:=[Ab (.int n)]) rfl ?_;rfl';refine qO (d:=.int 1000000) rfl ?_;rfl';refine qO (f7 c S ⟨h.1,by lia⟩) ?_
 rfl';refine SC (KR n) (n*n) ⟨hq.1,by lia⟩ (caps:=[.int n]) rfl (y8 (o_2 (o_v rfl (o_v rfl (CW li ⟨rfl,rfl⟩))))) (λt h0 h1=>?_) ?_
 .rfl'
  refine A0 ⟨by lia,by lia⟩ ⟨h.1,by lia⟩ ?_
  rfl';exact rfl
 .rfl'
  exact q
def bp (n:Ak):Ak:=if n=1 then 0 else (mp n+pb n-1)/pb n
def bar (n:Ak):Ak:=if eK n<bp n then bp n else eK n
def okN (n:Ai):Ar:=(n == 1||decide (1<=pb n/\pb n<=1600))&&(Dd 60).all (λt=>decide ((t:Ak)<bar n->(t:Ak)*t+t<n-1\/t*pb n<mp n))&&decide (0<=bar n/\bar n<=50)&&(Dd 800).all λe=>decide (shs (2*(e:Ak)) n<=(n:Ak)*(n-1)->(e:Ak)<=pb n)
theorem SR:(Dd 7).all (λn=>n == 0||okN n)=true:=kd
theorem SN (h:1<=n/\n<=6):okN n=true:=by
 have:=Bo.mp SR n (Ed.mpr li);have h0:(n == 0)=false:=by rw[Jv];lia
 rwa [h0,Aa3] at this
structure Ok40 (n:Ai):Prop where
 pb:n=1\/(1<=pb n/\pb n<=1600)
 low:∀ t:Ai,(t:Ak)<bar n->(t:Ak)*t+t<n-1\/t*_K.pb n<mp n
 nn:0<=bar n/\bar n<=50
 most:∀ e:Ai,e<800->shs (2*(e:Ak)) n<=(n:Ak)*(n-1)->(e:Ak)<=_K.pb n
theorem qAA (h:1<=n/\n<=6):Ok40 n:=by
 have k:=SN h;unfold okN at k;rw[Av,Av,Av,Md,Bo,Bo] at k;obtain⟨⟨⟨k1,k2⟩,k3⟩,k4⟩:=k;have nn:=Ca k3;refine⟨?_,λt ht=>Ca (k2 t (Ed.mpr li)) ht,nn,λe he=>Ca (k4 e (Ed.mpr he))⟩;rcases k1 with z|z
 .exact .inl (by simpa using z)
 .exact .inr (Ca z)
theorem OW {Q:D->Sto->Prop}(c:Cl){n:Ai}{S:Sto}(h:1<=n/\n<=6)(q:Q (.int (bp n)) S):Ok (S_by_pairs c [.int (n:Ak)] S) Q:=by
 have k:=(qAA h).pb;rw[pC];refine zI (env:=[Ab (.int n),none]) rfl ?_;rfl';refine OY c ⟨by lia,by lia⟩ ?_
 rfl';refine OX ?_;rfl';unfold bp at q;refine⟨λz=>?_,λz=>?_⟩
 .have z:=Ca z
  rw[Bf z] at q;rfl';exact q
 .have z:=Ms z
  rw[Bb z] at q;rfl';refine SD ⟨by lia,by lia⟩ ?_
  rfl';exact q
theorem CQ {Q:D->Sto->Prop}(c:Cl){n:Ai}{S:Sto}(h:1<=n/\n<=6)(q:Q (.int (bar n)) S):Ok (S_bar c [.int (n:Ak)] S) Q:=by
 rw[rF];refine zI (env:=[Ab (.int n)]) rfl ?_;rfl';refine qO (d:=.int 1000000) rfl ?_;rfl';refine qO (f7 c S ⟨by lia,by lia⟩) ?_
 rfl';refine SA c ⟨by lia,by lia⟩ ?_
 rfl';refine OW c h ?_;rfl';refine qO (d:=.int (bar n)) (S:=S) ?_ ?_
 .unfold bar
  show Res.ok (D.int (if bp (n:Ak)>eK (n:Ak) then bp (n:Ak) else eK (n:Ak))) S=_
  rfl
 .exact q
section
variable {Q:D->Sto->Prop}{S:Sto}{w h k:Ai}
theorem gN (c:Cl)(o:Ok3 w h k){W H N:Ak}(eW:W=w)(eH:H=h)(eN:N=(k:Ak)+1)(q:∀ S',S<+:S'->Q (.int (mn (qK w h k))) S'):Ok (S_fewest c [.int W,.int H,.int N] S) Q:=by
 subst eW eH eN;obtain⟨S',e,p⟩:=J7 c o S;exact qO e (q S' p)
theorem tW (c:Cl)(o:Ok3 w h k){W H N:Ak}(eW:W=w)(eH:H=h)(eN:N=(k:Ak)+1)(q:∀ S',S<+:S'->Q (.int (mx (qK w h k))) S'):Ok (S_most_fars c [.int W,.int H,.int N] S) Q:=by
 subst eW eH eN;obtain⟨S',e,p⟩:=EE c o S;exact qO e (q S' p)
theorem lQ (c:Cl)(o:Ok3 w h k){W H N:Ak}(eW:W=w)(eH:H=h)(eN:N=(k:Ak)+1)(q:∀ S',S<+:S'->Q (.int (wZ (qK w h k)).length) S'):Ok (S_many_lots c [.int W,.int H,.int N] S) Q:=by
 subst eW eH eN;obtain⟨S',e,p⟩:=ED c o S;exact qO e (q S' p)
theorem UI (c:Cl)(o:Ok3 w h k){W H N:Ak}(eW:W=w)(eH:H=h)(eN:N=(k:Ak)+1)(q:∀ l S',S<+:S'->l∈qK w h k->zD l=mx (qK w h k)->Q (qE l) S'):Ok (S_first_many c [.int W,.int H,.int N] S) Q:=by
 subst eW eH eN;obtain⟨S',e,p⟩:=J8 c o S;refine qO e ?_;have ne:=mI (zA o);cases hg:wZ (qK w h k) with
 |nil=>exact absurd hg ne
 |cons l L =>
  have hm:l∈wZ (qK w h k):=by rw[hg];exact .head _
  unfold wZ at hm;obtain⟨h1,h2⟩:=Ex.mp hm;exact q l S' p h1 (Lw.mp h2)
theorem WI (c:Cl)(o:Ok3 w h k){W H N:Ak}(eW:W=w)(eH:H=h)(eN:N=(k:Ak)+1)(q:∀ j S',S<+:S'->S'[j]? = Ab (.lst ((good (qK w h k)).map qE))->Q (.loc j) S'):Ok (S_few_lots c [.int W,.int H,.int N] S) Q:=by
 subst eW eH eN;obtain⟨j,S',e,h1,_,p⟩:=n6 c o S;exact qO e (q j S' p h1)
theorem F1 (c:Cl)(o:Ok3 w h k){W H N:Ak}(eW:W=w)(eH:H=h)(eN:N=(k:Ak)+1)(q:∀ S',S<+:S'->Q (qE ((good (qK w h k)).headD [])) S'):Ok (S_first_few c [.int W,.int H,.int N] S) Q:=by
 subst eW eH eN;obtain⟨S',e,p⟩:=M2 c o S;exact qO e (q S' p)
theorem b8 (o:Ok3 w h k){l:Aa Pt}(hl:l∈qK w h k):Lot 6 l:=by
 obtain⟨h1,h2,h3⟩:=xP.mp hl;have:=o.hk;exact⟨(λz=>by rw[z] at h1;cases h1),by lia,h2,λp hp=>rJ (by have:=o.hw;lia) (by have:=o.hh;lia) (h3 p hp)⟩
theorem CV (c:Cl){l:Aa Pt}{M:Ai}(hM:M<=40)(h:Lot M l)(q:Q (qE (mir l)) S):Ok (S_mirrored c [qE l] S) Q:=by
 rw[pG];refine zI (env:=[Ab (qE l)]) rfl ?_;have hl:=h.len;rfl';refine qO (fO c S (c7 l) (mM li h)) ?_;rfl';refine uT l (λp=>ptD (sw p)) (λenv S'=>S'=S/\∃ a b,env=[a,b]) (QP rfl) ⟨rfl,none,none,rfl⟩ (by unfold lim;lia) (λ_ _ _=>trivial) (λp hp env S' ⟨z1,a,b,z2⟩=>?_) λenv S' ⟨z1,_⟩=>?_
 .subst z1 z2
  exact⟨_,S',rfl,true,S',rfl,rfl,_,S',rfl,rfl,rfl,_,_,rfl⟩
 subst z1;rw[show (l.map λp=>ptD (sw p))=(l.map sw).map ptD by rw[Eh];rfl]
 rfl';refine A3 (by rw[Au];lia) ?_
 rfl';exact q
end
theorem c8 {S S':Sto}{m:MO}(h:S<+:S')(e:S[j]? = Ab m):S'[j]? = Ab m:=by
 obtain⟨r,rfl⟩:=h;rw[Be (Bd.mp e).1];exact e
theorem iZ (L:Aa (Aa Pt)):pl yI (.lst (L.map qE))=true:=by
 show ((L.map qE).all (pl 29))=true;rw[HT];refine Bo.mpr λl _=>?_;show ((l.map ptD).all (pl 28))=true;rw[HT];exact Bo.mpr λp _=>rfl
theorem nY:∀ L:Aa (Aa Pt),zO (L.map qE) (L.map qE)=true
 |[]=>rfl
 |l::L=>by
  rw[Dc,jB,nY L,Om];show zO (l.map ptD) (l.map ptD)=true;rw[eC];exact Cd rfl
theorem fF (S:Sto)(n:Ai)(l:Aa Pt):wD (n+3) S (qE l)=Ab (qE l):=by
 show (mapO (wD (n+2) S) (l.map ptD)).map D.tup=_;rw[lJ λx hx=>by
  obtain⟨p,_,rfl⟩:=Bj.mp hx;rfl]
 rfl
theorem cH {S:Sto}(h:S[j]? = Ab (.lst (L.map qE))):wD kZ S (.loc j)=Ab (.lst (L.map qE)):=by
 refine JE h λx hx=>?_;obtain⟨l,_,rfl⟩:=Bj.mp hx;exact fF S 16 l
theorem oA (S:Sto)(L:Aa (Aa Pt)):wD kZ S (.lst (L.map qE))=Ab (.lst (L.map qE)):=by
 show (mapO (wD 19 S) (L.map qE)).map D.lst=_;rw[lJ λx hx=>by
  obtain⟨l,_,rfl⟩:=Bj.mp hx;exact fF S 16 l]
 rfl
theorem BZ (L:Aa (Aa Pt))(S:Sto):gNe (.lst (L.map qE)) (.lst (L.map qE)) S=.ok (.bl false) S:=by
 unfold gNe;rw[iZ,Bf (show (true&&true)=true from rfl)]
 show Res.ok (D.bl (!zO (L.map qE) (L.map qE))) S=_;rw[nY];rfl
theorem VL (L:Aa (Aa Pt))(S:Sto):gEq (.lst (L.map qE)) (.lst (L.map qE)) S=.ok (.bl true) S:=by
 unfold gEq;rw[iZ,Bf (show (true&&true)=true from rfl)]
 show Res.ok (D.bl (zO (L.map qE) (L.map qE))) S=_;rw[nY]
theorem DV (l:Aa Pt)(S:Sto):gNe (qE l) (qE l) S=.ok (.bl false) S:=by
 have h:pl yI (qE l)=true:=by
  show ((l.map ptD).all (pl 29))=true;rw[HT];exact Bo.mpr λp _=>rfl
 unfold gNe;rw[h,Bf (show (true&&true)=true from rfl)]
 show Res.ok (D.bl (!zO (l.map ptD) (l.map ptD))) S=_;rw[eC,Cd rfl];rfl
theorem A4 {Q:D->Sto->Prop}{S:Sto}(h:Ok (f env S) λd S1=>∃ xs ys:Aa D,cJ d S1=Ab xs/\vF xs=Ab ys/\Q (.lst ys) S1):Ok (jA false f env S) Q:=qT (zB h λd S1 ⟨xs,ys,e1,e2,q⟩=>⟨_,_,by rw[e1,Lo,e2];rfl,q⟩)
theorem rT (L:Aa (Aa Pt))(lo hi:Al Ak):∃ A:Aa (Aa Pt),xR (L.map qE) lo hi=A.map qE/\A.length<=L.length/\∀ l∈A,l∈L:=by
 unfold xR;rw[<- Sd,<- AaB];exact⟨_,rfl,by simp;omega,λl hl=>Pd (Pe hl)⟩
theorem F3 {Q:D->Sto->Prop}(c:Cl){S:Sto}{w h k:Ai}(o:Ok3 w h k)(o':Ok3 h w k)(hg:(good (qK w h k)).length<=1000){W H N M:Ak}(eW:W=w)(eH:H=h)(eN:N=(k:Ak)+1)(eM:M=mn (qK w h k))(q:∀ S',S<+:S'->Q (.bl true) S'):Ok (S__law_lots_right c [.int W,.int H,.int N,.int M] S) Q:=by
 rw[yV];refine zI (env:=[Ab (.int W),Ab (.int H),Ab (.int N),Ab (.int M),none,none]) rfl ?_;rfl';refine WI c o eW eH eN λj S1 p1 h1=>?_;have hu:(good (qK w h k)).Pairwise λa b=>ltL a b=true:=Jq _ (bY (kO w h) k);have hin:∀ l∈good (qK w h k),l∈qK w h k/\zD l=mn (qK w h k):=λl hl=>by
  unfold good at hl;obtain⟨a,b⟩:=Ex.mp hl;exact⟨a,Lw.mp b⟩
 have hne:=i6 (zA o);have hsw:=B0 o o';generalize eL:good (qK w h k)=L at *;array_get_dec;array_get_dec;array_get_dec;array_get_dec;refine zB (Q:=λb S'=>b=false/\S1<+:S') ?_ ?_
 .refine y7 ?_
  rfl';refine A4 ?_;rfl';refine⟨L.map qE,L.map qE,MD h1,JI hu hg λl hl=>(b8 o (hin l hl).1).ne,?_⟩;refine hW (cH h1) (oA S1 L) (BZ L _) rfl ⟨_,rfl,(λz=>by cases z),λ_=>?_⟩
  rfl';refine F1 c o eW eH eN λS2 p2=>?_;rw[eL];rfl';refine qO (fV (c8 p2 h1) hne) ?_;exact hW (fF S2 17 _) (fF S2 17 _) (DV _ _) rfl ⟨_,rfl,rfl,p2⟩
 rintro _ S2 ⟨rfl,p2⟩;have h2:=c8 p2 h1;obtain⟨A,eA,lA,hA⟩:=rT L none (Ab 20);obtain⟨B,eB,lB,hB⟩:=rT L (Ab (-20)) none;have sl:∀ lo hi,gSl (.loc j) lo hi S2=.ok (.lst (xR (L.map qE) lo hi)) S2:=λlo hi=>by
  show (match S2[j]? with|some (.lst xs)=>Res.ok (D.lst (xR xs lo hi)) S2|_=>.bad)=_
  rw[h2]
 rfl';refine qO (sl none (Ab 20)) ?_;rw[eA];rfl';refine qO (sl (Ab (-20)) none) ?_;rw[eB];refine WH (by rw[Au,Au];unfold lim;lia) ?_
 rw[<- Hx];rfl';refine kK (λl env S'=>S2<+:S'/\(∀ x∈l,x∈L)/\∃ e5,env=[Ab (.int W),Ab (.int H),Ab (.int N),Ab (.int M),Ab (.loc j),e5]) ?_ ?_ ⟨Bg _,?_,_,rfl⟩
 .rintro l ls _ S3 ⟨p3,hls,e5,rfl⟩
  obtain⟨hl,hn⟩:=hin l (hls l (.head _));have lot:=b8 o hl;obtain⟨len,up,inb⟩:=xP.mp hl;array_get_dec;array_get_dec;array_get_dec;refine zB (Q:=λb S'=>b=false/\S3<+:S') ?_ ?_
  .refine y7 ?_
   rfl';refine qO (cA (c7 l) S3) ?_;rw[mM li lot];rfl';refine qO (d:=.bl false) (S:=S3) (by kernel_rfl!) ⟨_,rfl,(λz=>by cases z),λ_=>?_⟩
   refine y7 ?_;rfl';refine qO (d:=.int l.length) (S:=S3) (by show Res.ok (D.int ((l.map ptD).length:Ai)) S3=_;rw[Au]) ?_
   rfl';rw[Cd (show (l.length:Ak)=N by rw[eN];lia)]
   refine⟨(λz=>by cases z),λ_=>?_⟩
   rfl';refine WJ c (by decide) lot λS4 p4=>?_
   rfl';rw[Cd (show (((kys (fars l)).length:Ai):Ak)=M by rw[eM,<- hn];rfl)]
   exact⟨rfl,p4⟩
  rintro _ S4 ⟨rfl,p4⟩;rfl';refine qO (aQ (xs:=l) (enc:=ptD) (QP rfl) trivial (λ_=>false) (λ_=>D.non) (λenv=>∃ a,env=[a,Ab (.int H),Ab (.int W)]) ⟨none,rfl⟩ (by have:=lot.len;unfold lim;lia) λp hp env ⟨a,e⟩=>?_) ?_
  .subst e
   have hb:=wM.mp (inb p hp);refine⟨_,rfl,⟨_,rfl⟩,?_,λz=>by cases z⟩
   refine y8 (bC (y7 ?_));rfl';rw[Cb (show ¬ W<=p.1 by rw[eW];lia)]
   refine⟨(λz=>by cases z),λ_=>?_⟩
   refine y7 ?_;rfl';rw[Cb (show ¬ H<=p.2 by rw[eH];lia)]
   refine⟨(λz=>by cases z),λ_=>?_⟩
   rfl';refine qO (d:=.int (min p.1 p.2)) (S:=S4) rfl ?_;rfl';rw[Cb (show ¬ min p.1 p.2<0 by lia)]
   exact⟨(λz=>by cases z),λ_=>⟨rfl,rfl⟩⟩
  rw[show l.filter (λ_=>false)=[] from Ua.mpr λ_ _ z=>by cases z]
  rfl';refine qO (d:=.bl false) (S:=S4) (by kernel_rfl!) ?_
  rfl';exact rC ⟨p3.trans p4,λx h=>hls x (.tail _ h),_,rfl⟩
 .rintro _ S3 ⟨p3,_,e5,rfl⟩
  have h3:=c8 p3 h2;rfl';refine uT L (λl=>qE (mir l)) (λenv S'=>S'=S3/\∃ a,env=[a]) (OS rfl h3) ⟨rfl,none,rfl⟩ (by unfold lim;lia) (λ_ _ h=>h.1▸h3) (λl hl env S' ⟨z1,a,z2⟩=>?_) λenv S' ⟨z1,_⟩=>?_
  .subst z1 z2
   rfl';refine CV c (by decide) (b8 o (hin l hl).1) ?_
   exact⟨rfl,rfl,_,rfl⟩
  subst z1;rw[show (L.map λl=>qE (mir l))=(L.map mir).map qE by rw[Eh];rfl]
  rfl';refine qO (d:=.lst ((good (qK h w k)).map qE)) (S:=S') ?_ ?_
  .show (if (decide (((L.map mir).map qE).length<=100000)&&sOk ((L.map mir).map qE))=true then Res.ok (D.lst (bH ((L.map mir).map qE))) S' else .bad)=_
   rw[iX λl hl=>?_,Au,Au,Cd li,Bf (show (true&&true)=true from rfl),hsw]
   obtain⟨m,hm,rfl⟩:=Bj.mp hl;exact(b8 o' (uR (hin m hm).1)).ne
  rfl';refine WI c o' eH eW eN λj2 S5 p5 h5=>?_;refine hW (oA S5 _) (cH h5) (VL _ _) rfl ?_;exact GA (q S5 (p1.trans (p2.trans (p3.trans p5))))
 .intro x hx
  rcases Cn.mp hx with h|h
  .exact hA x h
  .exact hB x h
theorem PV:∀ w,w<4->∀ h,h<4->∀ k,k<4->(good (qK (w+1) (h+1) k)).length<=1000:=kd
theorem OD:bar 1<=0/\bar 2<=1/\bar 3<=2/\bar 4<=2:=kd
theorem WK {Q:D->Sto->Prop}{a b:Ak}{S:Sto}(h:Q (.int (if b<a then b else a)) S):Ok (jC [.int a,.int b] S) Q:=⟨_,_,rfl,h⟩
theorem UH {Q:D->Sto->Prop}{g g':G2}{fa fb fc:DE}{S:Sto}(h:Ok (fa env S) λx S1=>Ok (fb env S1) λy S2=>Ok (g x y S2) λz S3=>∃ b,x5 z S3=Ab b/\(b=true->Ok (fc env S3) λw S4=>Ok (g' y w S4) Q)/\(b=false->Q z S3)):Ok (xU g g' fa fb fc env S) Q:=
 qT (zB h λx S1 h=>qT (zB h λy S2 h=>qT (zB h λz S3 ⟨b,e,k1,k2⟩=>by
  rw[e];cases b with
  |true=>exact qT (k1 rfl)
  |false=>exact⟨_,_,rfl,k2 rfl⟩)))
theorem CJ {w h k:Ai}(o:Ok3 w h k):0<=mn (qK w h k):=by
 obtain⟨l,hm,he⟩:=u6 (zA o);rw[<- he];exact Int.natCast_nonneg _
theorem TR {w h k:Ai}(o:Ok3 w h k)(hk:k<4):bar ((k+1:Ai):Ak)<=mn (qK w h k):=by
 obtain⟨b1,b2,b3,b4⟩:=OD;obtain⟨l,hm,he⟩:=u6 (zA o);have nn:=CJ o;have:k=0\/k=1\/k=2\/k=3:=by lia
 rcases this with rfl|rfl|rfl|rfl
 .exact Dt b1 nn
 .have:=SV o (by decide) hm
  exact Dt b2 li
 .have:=nF o (by decide) hm
  exact Dt b3 li
 .have:=nF o (by decide) hm
  exact Dt b4 li
theorem DU {w h k:Ai}(o:Ok3 w h k):2*mx (qK w h k)<=((k+1:Ai):Ak)*(((k+1:Ai):Ak)-1):=by
 obtain⟨l,hm,he⟩:=r0 (zA o);have:=DY l;rw[(xP.mp hm).1,he] at this;exact this
theorem U8 (c:Cl)(nd:(Q4 c).Nodup)(ns:Aa Ak)(hl:ns.length<=63):∃ S,qM 8 (b_law c) [.lst (ns.map D.int)] [] = .ok (.bl true) S:=by
 have key:Ok (qM 8 (b_law c) [.lst (ns.map D.int)] []) λd _=>d=.bl true:=by
  refine zI (env:=[Ab (.lst (ns.map D.int)),none,none,none,none,none,none,none]) rfl ?_;unfold b_law;have o6:Ok3 4 4 5:=⟨by decide,by decide,by decide⟩
  array_get_dec;array_get_dec;refine zB (Q:=λb _=>b=false) ?_ ?_
  .array_get_dec;array_get_dec
   refine UH ?_;rfl';refine gN c o6 rfl rfl rfl λS1 p1=>?_;obtain⟨l,hm,he⟩:=u6 (zA o6);have h2:=nF o6 (by decide) hm
   have h3:=KG o6;rw[he] at h2;rfl';refine⟨λ_=>?_,λz=>absurd h2 (Ms z)⟩;rfl';refine tW c o6 rfl rfl rfl λS2 p2=>?_;rfl';rw[Cd h3];rfl
  rintro _ S0 rfl;array_get_dec;array_get_dec;array_get_dec;array_get_dec;refine IE (M1 ns hl 2 rfl λms=>?_);refine kK (λ_ env _=>∃ e1 e2 e3 e4 e5 e6 e7,env=[Ab (.lst (ns.map D.int)),e1,e2,e3,e4,e5,e6,e7]) ?_ ?_ ⟨_,_,_,_,_,_,_,rfl⟩
  .rintro y xs _ S ⟨e1,e2,e3,e4,e5,e6,e7,rfl⟩
   rfl';refine CZ λp S0 p0=>?_;rfl';refine hJ p0 li λr1 S1 k1 h1=>?_;rfl';refine hJ k1.pen li λr2 S2 k2 h2=>?_;obtain⟨w,array_get_dec,hw⟩:∃ w:Ai,1+(r1:Ak)=(w:Ak)/\1<=w/\w<=4:=⟨1+r1,by lia,by lia,by lia⟩
   obtain⟨h,eh,hh⟩:∃ h:Ai,1+(r2:Ak)=(h:Ak)/\1<=h/\h<=4:=⟨1+r2,by lia,by lia,by lia⟩
   have hwh:=Ht hw.2 hh.2;have hwh1:=Ht hw.1 hh.1;have ewh:(w:Ak)*(h:Ak)=((w*h:Ai):Ak):=by push_cast;rfl
   rfl';rw[array_get_dec,eh];clear array_get_dec eh h1 h2;rfl';refine WK ?_;rfl';refine hJ k2.pen (by split <;> lia) λk S3 k3 h3=>?_
   have hk:k<4/\k+1<=w*h:=by
    split at h3 <;> constructor <;> lia
   clear h3;have o:Ok3 w h k:=⟨hw,hh,hk.2,by lia⟩
   have o':Ok3 h w k:=⟨hh,hw,by rw[Nat.mul_comm];exact hk.2,by lia⟩
   have en:1+(k:Ak)=((k+1:Ai):Ak):=by push_cast;lia
   have eN:((k+1:Ai):Ak)=(k:Ak)+1:=by push_cast;rfl
   rfl';rw[en];refine gN c o rfl rfl eN λS4 p4=>?_;rfl';refine tW c o rfl rfl eN λS5 p5=>?_;array_get_dec;array_get_dec;array_get_dec;array_get_dec;array_get_dec;refine zB (Q:=λb _=>b=false) ?_ ?_
   .have last:Ok (dTr (d2 gGt (q9 7) (d2 uN (d2 zR (q9 5) (d2 yD (q9 5) (dC (.int 1)))) (dC (.int 2)))) [Ab (.lst (ns.map D.int)),Ab (.int y),Ab (.loc p),Ab (.int (w:Ak)),Ab (.int (h:Ak)),Ab (.int ((k+1:Ai):Ak)),Ab (.int (mn (qK w h k))),Ab (.int (mx (qK w h k)))] S5) λb _=>b=false:=by
     have:=DU o;rfl';exact Cb li
    refine y7 ?_;rfl';rw[Cd (KG o)];refine⟨(λz=>by cases z),λ_=>y7 ?_⟩
    rfl';refine CQ c ⟨by lia,by lia⟩ ?_
    rfl';rw[Cb (show ¬ mn (qK w h k)<bar ((k+1:Ai):Ak) from Oa.mpr (TR o hk.1))]
    refine⟨(λz=>by cases z),λ_=>y7 (bC ?_)⟩
    rfl';refine⟨λz=>?_,λ_=>?_⟩
    .rfl'
     rw[Cb (show ¬ mn (qK w h k)<2 from by
      obtain⟨l,hm,he⟩:=u6 (zA o);have:=nF o (by have:=Ca z;lia) hm
      lia)]
     exact⟨(λz=>by cases z),λ_=>last⟩
    .exact⟨(λz=>by cases z),λ_=>last⟩
   rintro _ S6 rfl;array_get_dec;array_get_dec;array_get_dec;array_get_dec;array_get_dec;refine zB (Q:=λb _=>b=false) ?_ ?_
   .refine y7 ?_
    rfl';refine F3 c o o' ?_ rfl rfl eN rfl λS7 p7=>?_
    .have:=PV (w-1) li (h-1) li k hk.1
     rw[WF hw.1,WF hh.1] at this;exact this
    rfl';refine⟨(λz=>by cases z),λ_=>?_⟩
    rfl';refine UI c o rfl rfl eN λl S8 p8 hl hm=>?_;rfl';refine WJ c (by decide) (b8 o hl) λS9 p9=>?_
    rfl';rw[Cd (show (((kys (fars l)).length:Ai):Ak)=mx (qK w h k) from hm)]
    rfl
   rintro _ S10 rfl;array_get_dec;array_get_dec;array_get_dec;array_get_dec;array_get_dec;refine zB (Q:=λb _=>b=false) ?_ ?_
   .refine y7 ?_
    rfl';refine tW c o' rfl rfl eN λS11 p11=>?_;rfl';rw[Cd (KH o o')];refine⟨(λz=>by cases z),λ_=>y7 ?_⟩
    rfl';refine lQ c o' rfl rfl eN λS12 p12=>?_;rfl';refine lQ c o rfl rfl eN λS13 p13=>?_;rw[BR o o'];rfl';rw[Cd rfl];refine⟨(λz=>by cases z),λ_=>?_⟩
    rfl';refine lQ c o rfl rfl eN λS14 p14=>?_;rfl';have:=Wf.mpr (mI (zA o));exact Cb li
   rintro _ S15 rfl;array_get_dec;array_get_dec;array_get_dec;array_get_dec;array_get_dec;refine zB (Q:=λb _=>b=false) ?_ ?_
   .refine bC ?_
    rfl';refine WK ?_;rfl';refine⟨λz=>?_,λ_=>rfl⟩;have z:=Ca z;have o2:Ok3 w h (k+1):=⟨hw,hh,by split at z <;> lia,by split at z <;> lia⟩
    rfl';refine gN c o2 rfl rfl rfl λS16 p16=>?_;rfl';exact Cb (Oa.mpr (BW o o2))
   rintro _ S17 rfl;array_get_dec;array_get_dec;array_get_dec;array_get_dec;array_get_dec;have o3:w<4->Ok3 (w+1) h k:=λz=>⟨by lia,hh,Dm hk.2 (Nat.mul_le_mul_right _ (Oq _)),by lia⟩
   refine zB (Q:=λb _=>b=false) ?_ ?_
   .refine bC ?_
    rfl';refine⟨λz=>?_,λ_=>rfl⟩;have z:=Ca z;rfl';refine gN c (o3 li) (by push_cast;rfl) rfl eN λS18 p18=>?_
    rfl';exact Cb (Oa.mpr (BX o))
   rintro _ S19 rfl;array_get_dec;array_get_dec;array_get_dec;array_get_dec;refine zB (Q:=λb _=>b=false) ?_ ?_
   .refine bC ?_
    rfl';refine⟨λz=>?_,λ_=>rfl⟩;have z:=Ca z;rfl';refine tW c (o3 li) (by push_cast;rfl) rfl eN λS20 p20=>?_
    rfl';exact Cb (Oa.mpr (BY o))
   rintro _ S21 rfl;rfl';exact rC ⟨_,_,_,_,_,_,_,rfl⟩
  .rintro _ S ⟨e1,e2,e3,e4,e5,e6,e7,rfl⟩
   rfl';exact rfl
 obtain⟨d,S',e,rfl⟩:=key;exact⟨S',e⟩
end _K
namespace _K
open PySem PySem.Spec PyProof.Rows _L _D
theorem BJ {P:Bc}{w:Bx}{K:Aj}{mg:Aq->Al Ac}{base:Bs}{c:Cl}(T:Txt K mg c)(nd:(Q4 c).Nodup)(hT:(D7.all λy=>(Ds K y).isSome)=true):∃ F,rD P w K mg base true 10 "law" ["_law_script"] F/\∀ ns:Aa Ak,ns.length<=63->∃ S,F [.lst (ns.map D.int)] [] = .ok (.bl true) S:=by
 refine hv (λ_=>?_) (dq (cm:=true) P w base 0 0 T rfl ck (vT) ?_);refine hv (λ_=>?_) (dq (cm:=true) P w base 0 1 T rfl ck (mY) ?_);refine hv (λ_=>?_) (dq (cm:=true) P w base 1 2 T rfl ck (pP) ?_);refine hv (λ_=>?_) (dq (cm:=true) P w base 0 3 T rfl ck (pF) ?_);refine hv (λ_=>?_) (dq (cm:=true) P w base 1 4 T rfl ck (jX) ?_);refine hv (λ_=>?_) (dq (cm:=true) P w base 0 5 T rfl ck (jW) ?_);refine hv (λ_=>?_) (dq (cm:=true) P w base 2 6 T rfl ck (uG c) ?_);refine hv (λ_=>?_) (dq (cm:=true) P w base 2 7 T rfl ck (pE) ?_);refine hv (λ_=>?_) (dq (cm:=true) P w base 3 8 T rfl ck (fL) ?_);refine hv (λ_=>?_) (dq (cm:=true) P w base 4 9 T rfl ck (pH c) ?_);refine hv (λ_=>?_) (dq (cm:=true) P w base 0 10 T rfl ck (uF) ?_);refine hv (λ_=>?_) (dq (cm:=true) P w base 1 11 T rfl ck (vW) ?_);refine hv (λ_=>?_) (dq (cm:=true) P w base 5 12 T rfl ck (jU c) ?_);refine hv (λ_=>?_) (dq (cm:=true) P w base 6 13 T rfl ck (d7 c) ?_);refine hv (λ_=>?_) (dq (cm:=true) P w base 3 14 T rfl ck (vU c) ?_);refine hv (λ_=>?_) (dq (cm:=true) P w base 4 15 T rfl ck (fK c) ?_);refine hv (λ_=>?_) (dq (cm:=true) P w base 4 16 T rfl ck (pD c) ?_);refine hv (λ_=>?_) (dq (cm:=true) P w base 5 17 T rfl ck (jV c) ?_);refine hv (λ_=>?_) (dq (cm:=true) P w base 4 18 T rfl ck (k8 c) ?_);refine hv (λ_=>?_) (dq (cm:=true) P w base 4 19 T rfl ck (vV c) ?_);refine hv (λ_=>?_) (dq (cm:=true) P w base 5 20 T rfl ck (jZ c) ?_);refine hv (λ_=>?_) (dq (cm:=true) P w base 5 21 T rfl ck (uZ c) ?_);refine hv (λ_=>?_) (dq (cm:=true) P w base 7 22 T rfl ck (jY c) ?_);refine hv (λ_=>?_) (dqL (cm:=true) (g:=b_least_where) (N:=5) P w base 3 3 1 23 T rfl ck ?_);refine hv (λ_=>?_) (dq (cm:=true) P w base 0 24 T rfl ck (j3) ?_);refine hv (λ_=>?_) (dq (cm:=true) P w base 4 25 T rfl ck (pO c) ?_);refine hv (λ_=>?_) (dq (cm:=true) P w base 1 26 T rfl ck (yW) ?_);refine hv (λ_=>?_) (dq (cm:=true) P w base 4 27 T rfl ck (j6 c) ?_);refine hv (λ_=>?_) (dq (cm:=true) P w base 5 28 T rfl ck (pC c) ?_);refine hv (λ_=>?_) (dq (cm:=true) P w base 6 29 T rfl ck (rF c) ?_);refine hv (λ_=>?_) (dq (cm:=true) P w base 5 30 T rfl ck (pG c) ?_);refine hv (λ_=>?_) (dq (cm:=true) P w base 0 31 T rfl ck (jS) ?_);refine hv (λ_=>?_) (dq (cm:=true) P w base 0 32 T rfl ck (pB) ?_);refine hv (λ_=>?_) (dq (cm:=true) P w base 0 33 T rfl ck (jT) ?_);refine hv (λ_=>?_) (dq (cm:=true) P w base 8 34 T rfl ck (yV c) ?_);refine⟨_,dqP 9 35 T rfl ck ?_,U8 c nd⟩
 all_goals
  intros
  repeat' first
   |with_reducible exact ck
   |((with_reducible show QE _ _ _);with_reducible first|apply aV|apply RN|apply AG|apply RT|apply aBt|apply aGi|apply aO|apply aN|(apply aB;first|apply IP|apply IM|apply IH|apply HB|apply HD|apply HF|apply JW|apply T4|apply HA|apply HE|apply HC|apply JT)|(apply aT;first|apply T6|apply IL)|apply aC|apply RU|apply RP|apply FP|apply RO|apply AI|apply UV|apply AJ|apply RK|apply UT|apply RQ|apply AK|apply RS|apply RJ|apply AH|apply FO|apply RM|apply RL|apply cZ|(apply KS;(case slot=>apply Px);(case' hm=>first|apply JV))|(apply KS;(case slot=>apply PySem.F.slot_list_append);(case' hm=>first|apply JS)))
   |((with_reducible show _=_);first|exact T.nb ck|with_reducible apply Nd|with_reducible apply Tf|with_reducible apply Qb|with_reducible apply Sk|exact bA _|exact rfl|with_unfolding_all rfl)
   |((with_reducible show ZOp _ _ _);with_reducible first|apply IG|apply IX|apply IS|apply II|apply IR|apply IV|apply qAX|apply qAW|apply qAU|apply qAT|apply IJ|apply IT|apply qAS|apply qAY|apply JU|apply IQ|apply IK)
   |((with_reducible show RoomC _ _ _);first|assumption|exact RoomC.mono (by assumption)|exact RoomC.mono (RoomC.any (by assumption))|exact RoomC.mark (by assumption) _|exact RoomC.mono (RoomC.mark (by assumption) _))
   |((with_reducible show St1 _ _ _ _);exact⟨rfl,rfl⟩)
   |((with_reducible show DfS _ _ _ _ _ _ _ _ _ _);assumption)
   |with_reducible first|apply RI|apply WW|apply o7|apply FL|apply RH|apply aK|apply FV|apply FW|apply FT|apply E2|apply EA|apply E9|apply J3|(apply AN;first|apply o8|apply WZ|apply WY|apply KU)|apply EB|apply o8|apply WZ|apply WY|apply KU|apply aNm|apply RX|apply RW|apply UW|apply FR|apply E0|apply UY|apply E1|apply FS|apply UX|apply RZ|apply RY|apply FY|apply J6|apply FU|apply AL|apply E7|apply AM|apply FX|apply E5|apply J2|apply aP2|apply aRs|apply IU|apply qAV|apply IW|apply C6|apply Nd|apply Tf|apply Qb|apply Sk
   |((with_reducible apply aCs);case hsw=>exact rfl)
   |((with_reducible apply aSt);case hs=>exact rfl)
   |with_reducible apply E4
   |exact T.rz (by kernel_rfl)
   |exact T.gi (by kernel_rfl)
   |((with_reducible apply O8);(case D=>assumption))
   |((with_reducible show ClA _ _ _ _);first|assumption|exact ClA.tr (by assumption))
   |((with_reducible show LmX _ _ _ _ _ _ _ _ _ _);assumption)
   |((with_reducible show DfL _ _ _ _ _ _ _ _ _ _ _ _ _);assumption)
   |((with_reducible show LmK _ _);refine lmK hT (by assumption) ?_ rfl)
   |((with_reducible show ZF _ _ _ _);first|apply aFn|apply aFn0)
   |exact λ_=>⟨rfl,rfl,rfl⟩
   |(intro h;cases h;done)
   |((with_reducible show ZPass _);first|assumption|exact TB)
   |exact⟨rfl,rfl⟩
   |exact⟨rfl,rfl,rfl⟩
   |apply WW
   |apply o7
   |decide
   |(intros;rfl)
   |(intro _ h;cases h <;> rfl)
   |intro _
end _K
namespace _K
open PySem PySem.Spec PyProof.Rows _L _D
variable {K:Aj}
theorem bdf:BdF top tab:=by
 repeat (refine⟨?_,?_⟩;(intro _ _ _ _ _ _ us h;first|(obtain⟨_,rfl⟩:=us1 h;rfl)|(obtain⟨_,_,rfl⟩:=us2 h;rfl)|(obtain⟨_,_,_,rfl⟩:=us3 h;rfl)|(obtain⟨_,_,_,_,rfl⟩:=us4 h;rfl)))
 exact trivial
theorem HI {C0 C1 C2:Af}(q0:Fd K Cy "FarError" = Ab (Ab (.ref C0)))(q1:Fd K Cy "NoLot" = Ab (Ab (.ref C1)))(q2:Fd K Cy "NoNumber" = Ab (Ab (.ref C2))):oN K (clt ⟨C0,C1,C2⟩):=⟨q0,q1,q2,trivial⟩
theorem HJ {k0 k1 k2 k3 k4:Qf}(g0:Fd K Cy "LEAST_NUMBER" = Ab (Ab (.int (-1000) k0)))(g1:Fd K Cy "MOST_NUMBER" = Ab (Ab (.int (1000) k1)))(g2:Fd K Cy "MOST_POINTS_points" = Ab (Ab (.int (40) k2)))(g3:Fd K Cy "MOST_SIDE" = Ab (Ab (.int (4) k3)))(g4:Fd K Cy "MOST_POINTS_few" = Ab (Ab (.int (6) k4))):oO K cst:=⟨⟨_,g0⟩,⟨_,g1⟩,⟨_,g2⟩,⟨_,g3⟩,⟨_,g4⟩,trivial⟩
theorem D9 {P:Bc}{w:Bx}{mg:Aq->Al Ac}{c:Cl}{fa:Af}(T:Txt K mg c)(nd:(Q4 c).Nodup)(hT:(D7.all λy=>(Ds K y).isSome)=true)(hfa:mg "law" = Ab (.ref fa)) :
  ∃ fd:Fi,(∀ (s:Ag) (v:Ac),Oe s fd ⟨[v],[]⟩ [("_law_script",v)])/\∀ base:Bs,K.In base->base.Ns Cy mg->FnOk P w K mg base (CXd P w) 10 fa fd ["_law_script"] (r9 K):=
 BK (T.src 35 rfl) hfa (λkV doc pm an cdv ct s v=>.of_eq rfl) λbase=>BJ T nd hT
end _K
theorem PySem.W.Fast.tw15811001214726193280 : True := trivial
theorem PySem.W.Fast.tw2441270136717053579 : True := trivial
theorem PySem.W.Fast.tw5741271747778848759 : True := trivial
theorem PySem.W.Fast.tw7151490148491496794 : True := trivial
theorem PySem.W.Fast.tw8897066121489334754 : True := trivial
theorem PySem.W.Fast.tw15689106332614734361 : True := trivial
theorem PySem.W.Fast.tw12953992261150168282 : True := trivial
theorem PySem.W.Fast.tw13425711696646418789 : True := trivial
theorem PySem.W.Fast.tw9096473517401308041 : True := trivial
theorem PySem.W.Fast.tw1224610372138432650 : True := trivial
theorem PySem.W.Fast.tw12201555509638196608 : True := trivial
theorem PySem.W.Fast.tw3212966903908415772 : True := trivial
theorem PySem.W.Fast.tw16970797471715662507 : True := trivial
theorem PySem.W.Fast.tw7905559169121283492 : True := trivial
theorem PySem.W.Fast.tw8374586856560801274 : True := trivial
theorem PySem.W.Fast.tw2622107244905166990 : True := trivial
theorem PySem.W.Fast.tw6431292759251201251 : True := trivial
theorem PySem.W.Fast.tw706734625457128384 : True := trivial
theorem PySem.W.Fast.tw6119217550907418988 : True := trivial
theorem PySem.W.Fast.tw15365814019075853545 : True := trivial
theorem PySem.W.Fast.tw17287274362070920487 : True := trivial
theorem PySem.W.Fast.tw14003327606986621866 : True := trivial
theorem PySem.W.Fast.tw7994196723618452982 : True := trivial
theorem PySem.W.Fast.tw1020939442087854828 : True := trivial
theorem PySem.W.Fast.tw1055114193922867818 : True := trivial
theorem PySem.W.Fast.tw11563570673871427053 : True := trivial
theorem PySem.W.Fast.tw10622964114871514990 : True := trivial
theorem PySem.W.Fast.tw14740088793831879476 : True := trivial
theorem PySem.W.Fast.tw4171500646819807089 : True := trivial
theorem PySem.W.Fast.tw8529133983768832918 : True := trivial
theorem PySem.W.Fast.tw7202442409797714371 : True := trivial
theorem PySem.W.Fast.tw11205420409023205172 : True := trivial
theorem PySem.W.Fast.tw18155108762786359424 : True := trivial
theorem PySem.W.Fast.tw9450902233259623489 : True := trivial
theorem PySem.W.Fast.tw5967228057008122397 : True := trivial
theorem PySem.W.Fast.tw1789772450083784867 : True := trivial
theorem PySem.W.Fast.tw16570072476894938897 : True := trivial
theorem PySem.W.Fast.tw11010891114120216956 : True := trivial
theorem PySem.W.Fast.tw14877260486417206607 : True := trivial
theorem PySem.W.Fast.tw14910130222785400892 : True := trivial
theorem PySem.W.Fast.tw16182954643078717176 : True := trivial
theorem PySem.W.Fast.tw3618058293905809003 : True := trivial
theorem PySem.W.Fast.tw6240809068953842752 : True := trivial
theorem PySem.W.Fast.tw3523091719903603163 : True := trivial
theorem PySem.W.Fast.tw3140058328226668841 : True := trivial
theorem PySem.W.Fast.tw10027960422057567738 : True := trivial
theorem PySem.W.Fast.tw15619045001790950207 : True := trivial
theorem PySem.W.Fast.tw17113818028096297218 : True := trivial
theorem PySem.W.Fast.tw3806220061764926976 : True := trivial
theorem PySem.W.Fast.tw9027914553323844645 : True := trivial
theorem PySem.W.Fast.tw7238619388993381273 : True := trivial
theorem PySem.W.Fast.tw15916177225730979462 : True := trivial
theorem PySem.W.Fast.tw7664373773272047733 : True := trivial
theorem PySem.W.Fast.tw16598751695704052473 : True := trivial
theorem PySem.W.Fast.tw11064052670419962872 : True := trivial
theorem PySem.W.Fast.tw13554243903132323807 : True := trivial
theorem PySem.W.Fast.tw11592850766752414723 : True := trivial
theorem PySem.W.Fast.tw2948724917726779578 : True := trivial
theorem PySem.W.Fast.tw7512746328787614889 : True := trivial
theorem PySem.W.Fast.tw17504096828206167096 : True := trivial
theorem PySem.W.Fast.tw10191880521678600771 : True := trivial
theorem PySem.W.Fast.tw3987632677762661107 : True := trivial
theorem PySem.W.Fast.tw7910839658403165812 : True := trivial
theorem PySem.W.Fast.tw8368936848513086913 : True := trivial
theorem PySem.W.Fast.tw1762274191993601237 : True := trivial
theorem PySem.W.Fast.tw8735282047234269355 : True := trivial
theorem PySem.W.Fast.tw15419732807961313305 : True := trivial
theorem PySem.W.Fast.tw17279737263123070034 : True := trivial
theorem PySem.W.Fast.tw369349522788133146 : True := trivial
theorem PySem.W.Fast.tw7826817059808036707 : True := trivial
theorem PySem.W.Fast.tw15809668940387602923 : True := trivial
theorem PySem.W.Fast.tw6874718246468508783 : True := trivial
theorem PySem.W.Fast.tw150871618537008188 : True := trivial
theorem PySem.W.Fast.tw9354263860765688842 : True := trivial
theorem PySem.W.Fast.tw16626595943241122044 : True := trivial
theorem PySem.W.Fast.tw13724168507491829496 : True := trivial
theorem PySem.W.Fast.tw9320532862644611076 : True := trivial
theorem PySem.W.Fast.tw18157194337269204977 : True := trivial
theorem PySem.W.Fast.tw8663462126381481695 : True := trivial
theorem PySem.W.Fast.tw15704858158395004830 : True := trivial
theorem PySem.W.Fast.tw10914223690127192756 : True := trivial
open PySem PySem.W PyProof.Rows
set_option maxRecDepth 100000 in
set_option maxHeartbeats 0 in
theorem PySem.Challenge.cw_fewdistances_k22_whole_few_and_many_holds : PySem.Challenge.rw_fewdistances_k22_whole_few_and_many.Holds := by
 w_on;o_law;k_head;(case hw=>w_witness2)
 k_fill
 refine _D.IF (l:=Qe) (k:=10) (x:="_law_script") rfl rfl ⟨rfl,by decide,by decide,rfl⟩ (λ_=>by kernel_rfl) (λw h Y=>PySem.W.km_in_of Y) ?F
 case F =>
  intro w mg fa h KX G hmg
  refine' _K.D9 (_D.IB _K.bdf ?hp rfl KX G ?s ?z (_K.HI ?q0 ?q1 ?q2) (_K.HJ ?gi0 ?gi1 ?gi2 ?gi3 ?gi4) ?e1 ?e2 ?e3 ?e4 ?e5 ?e6) ?nd ?hT hmg
  (case s=>(repeat (refine' ⟨_D.SrcF.mk ?a ?l ?c ?k,?_⟩;(case a=>k_is);(case l=>k_is);(case c=>k_is);(case k=>k_is)));exact trivial)
  (case z=>rfl)
  (case q0=>k_is)
  (case q1=>k_is)
  (case q2=>k_is)
  (case gi0=>k_is)
  (case gi1=>k_is)
  (case gi2=>k_is)
  (case gi3=>k_is)
  (case gi4=>k_is)
  (case hp=>intro y hy;revert hy;simp;grind)
  (case e1=>rfl)
  (case e2=>rfl)
  (case e3=>rfl)
  (case e4=>rfl)
  (case e5=>rfl)
  (case e6=>rfl)
  (case nd=>decide)
  (case hT=>rfl)
