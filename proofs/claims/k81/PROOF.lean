import PyProof.Rows.All
import Wide.All
import OpenK.AllK
import Wide.FinOn
import Lean
import PyProof.EqAt
import PyProof.EqKinds
import PyProof.TupleCall
import KE.KLam
import KE.KTryMore
import KE.KIsAll
import PyProof.NeKinds
import PyProof.Rows.CountFlat
import PyProof.Rows.FStr
import PyProof.ZipIter
import PyProof.EnumMake
import PyProof.EnumStmt
import KE.KDictLaws
import PyProof.DictWalks
import PyProof.Rows.SetFrom
import PyProof.SumWalkG
import PyProof.Rows.SumGenD
import PyProof.SeqI2
import KE.KItemsList
import PyProof.SetKind
import PyProof.TupleKey
import KE.KSortTup
import PyProof.ReprRoads
import PyProof.ReprBulk
import PyProof.TupleOfSeq
import PyProof.WalkInts
import PyProof.SeqI3
import PyProof.Rows.RuleDivmod
import KE.KPairComp
import KE.KMinKey
import PyProof.Rows.CallKwBuiltin
import PySem.Challenge.RW_fewdistances_k81_squares_looked_at
set_option Elab.async false
set_option linter.all false
set_option maxRecDepth 100000
set_option maxHeartbeats 0
set_option tactic.hygienic false
set_option bootstrap.genMatcherCode false
set_option genSizeOf false
set_option compiler.extract_closed false
open Array renaming getElem?_toList→Bx,length_toList→Cz,getElem?_eq_some_iff→Dp,getElem?_eq_getElem→Dt,toList_push→Hk,getD→Hy,mem_toList_iff→Mg,getD_eq_getD_getElem?→Nx,getElem?_eq_none→Qz,size_map→Sc,toList_append→Tr,forIn_toList→Uc,toList→Yq
open Array.Perm renaming refl→Ki
open Bool renaming and_eq_true→AT,false_eq_true→Br,and_eq_true_iff→EQ,false_ne_true→Fp,false_and→Gc,noConfusion→Hn,and_false→Ji,not_true→Jy,or_eq_true→Mp,true_and→Tj,not_eq_true'→Vd,eq_iff_iff→Xe,not_false→Xt,true_or→Yt
open Classical renaming byContradiction→Fe,choose_spec→L2,choose→Pi
open False renaming elim→An
open ForInStep renaming yield→Mo
open Int renaming toNat_natCast→Em,emod_lt_of_pos→Iy,le_refl→Jd,emod_nonneg→Kg,not_lt→Ni,le_trans→Px,le_of_lt→Py,natAbs_mul_self'→Sl,mul_pos→Wp,mul_add→Wr,le_antisymm→Xb,mul_eq_zero→Xh,mul_nonneg→Xw
open List renaming getElem?_eq_getElem→Ap,length_map→Aq,getElem?_eq_some_iff→Av,size_toArray→Aw,mem_cons→Ay,prefix_refl→Bb,getElem?_append_left→Bg,mem_of_getElem?→Bm,all_eq_true→Bq,mem_append_right→Bv,mem_cons_of_mem→By,getElem?_set_ne→Bz,length_append→Ca,range→Ce,mem_map→Ci,length_cons→Cj,mem_cons_self→Cn,mem_append→Co,not_mem_nil→Cp,replicate→Ct,getElem?_set_self→Cw,mem_append_left→Dd,mem_iff_getElem→De,getElem?_append_right→Df,getElem?_map→Dg,mem_singleton→Dh,map_cons→Dv,pairwise_map→Dx,map_append→Dy,mem_range→Ej,pairwise_cons→Ep,length_nil→Et,prefix_append→Fa,contains_iff_mem→Fj,filterMap_cons→Fw,replicate_succ→Fz,mem_filterMap→Gg,map_map→Gn,append_assoc→Gr,append_nil→Gs,cons_append→Gy,any_eq_true→Gz,flatten_cons→He,nodup_append→Hf,nil_append→Hi,length_range→Hj,any_cons→Hl,length_take→Hm,all_map→Hx,count_cons→HT,length_drop→Iq,lookup_cons→Ir,length_eq_zero_iff→Ix,nodup_cons→IU,find?_cons→IW,mem_iff_getElem?→IY,getD→IZ,count_nil→Jk,length_eraseIdx→Jo,getElem_mem→Jq,of_mem_zip→Kb,foldl_cons→Kf,mergeSort_nil→Kq,filter_append→Kr,getElem?_replicate→Ks,toArray→Kv,nodup_nil→Lb,flatMap_cons→Lj,drop_eq_nil_of_le→Ln,range_succ_eq_map→Lp,getElem_inj→Lr,getElem?_eq_none→Lw,lookup→Lx,countP_mono_left→Mc,eq_nil_of_length_eq_zero→Ms,append_toArray→Na,map_congr_left→Nj,length_pos_iff→Nk,forIn_nil→Np,zip_cons_cons→Ob,map_id→Ot,drop_eq_getElem_cons→O9,getElem?_zip_eq_some→OB,all_cons→OC,pairwise_iff_getElem→OG,getElem?_eq_none_iff→ON,mem_of_find?_eq_some→OO,map_drop→OP,getElem?_take_of_lt→OR,length_erase_of_mem→OW,length_filterMap_le→OZ,prefix_iff_getElem?→Pa,Nodup→Pj,map_fst_zip→Pl,getElem_map→Po,pairwise_singleton→Pz,length_set→Ql,forIn_cons→Qp,find?_cons_of_neg→Qr,length_pos_of_mem→Qu,length_zip→Ra,take_of_length_le→Rb,length→Rg,length_singleton→Ri,eraseIdx_sublist→Rr,pairwise_append→Sj,mem_erase_of_ne→Sk,range_eq_range'→Sm,mem_of_mem_drop→Sn,mem_map_of_mem→Tq,perm_iff_count→Ts,lookup_append→TW,find?_eq_none→Ub,map_nil→Uf,foldl_append→Vq,zipIdx_cons→We,nodup_range→Wj,ext_getElem→Wk,countP_cons→Wn,range'_succ→Wq,mem_filter→Ws,countP_map→Wv,zipIdx_nil→Ww,find?_some→Xf,range_succ→Xg,foldl→Xm,map_take→Ym,sum_cons→Yn,range'→Zg
open List.Pairwise renaming nil→Le,imp_of_mem→OV,filter→Zh,take→Zm,drop→Zn,imp₂→Zo,cons→Zp
open List.Perm renaming refl→Nu,append_left→Ro,swap→Xu
open Nat renaming le_refl→Az,lt_of_lt_of_le→Bf,le_of_ble_eq_true→Bj,ne_of_lt→Cd,le_trans→Cr,lt_irrefl→Ea,le_of_lt→Fm,ne_of_gt→Fn,zero_le→Gx,lt_succ_self→Ho,le_add_right→Iu,min_eq_left→IX,le_of_lt_succ→Jb,lt_trans→Ku,succ_pos→Kw,not_lt→Lo,mod_lt→Nd,lt_of_le_of_lt→Og,add_right_comm→Oh,le_succ→Oo,mul_lt_mul_of_lt_of_le→Ou,lt_trichotomy→OI,lt_succ_of_lt→OL,le_of_not_lt→Pd,min_eq_right→Pm,ble_eq_true_of_le→Rt,eq_of_beq_eq_true→Ru,mul_le_mul→Sg,min_self→Uj,zero_add→Um,add_comm→Ys,lt_or_ge→Yx,ble→Zl
open Ne renaming symm→Fx
open Option renaming some→Ab,map_eq_some_iff→Cs,bind_eq_some_iff→Eh,isSome_iff_exists→Ik,getD_some→Ly,bind_some→Md,map_some→Mr,isSome_map→O7,isSome_some→T0,getD_none→Wb,none→Zd
open Option.some renaming inj→Cm
open Or renaming inr→Wd,inl→Xx
open Prod renaming ext→Kc,fst→Yz,snd→Za
open PyProof.Rows renaming step_dedup→Bc,slot_tuple_getitem→Dj,seqObj→Ec,envOfC→Fv,callWith_type1→Go,IntsAre→Ip,get?_update_seq→Kj,AllBare→Lq,callWith_builtin1→Mf,entry_tuple_getitem→My,IsTup→Nm,slicePart_none→No,assignInOrder_cons→Oa,args_tuple_getitem→Oc,subscriptTail→O6,subscriptTail_builtinR→Qk,isBoolOf→Qs,lt_int→Sx,tupleItemsOf_→Sz,Subscript_→Tc,assignInOrder_nil→Us,entry_list_sort→Xc
open PyProof.Rows.F renaming plain_set_update_loop→Hs,entry_set_update_loop→Kh
open PyProof.Rows.IntsAre renaming int_at→Ny
open PyProof.Rows.IsTup renaming new→Ut
open PySem renaming Value→Ac,wpAny_bind→Ad,Addr→Af,Shared→Ag,wpAny_pure→Ak,wpAny→Ao,Str→As,model→Au,intKind→Bd,Program→Be,starEach→Bi,Heap→Bk,tupleKeyHash→Bo,Expr→Bp,World→Bt,Around→Bu,mainGlobals→Cf,Obj→Cg,compareOp→Dc,wpAny_newObj_type→Dl,wpAny_field→Do,wpAny_callSpecial?_slot→Dr,wpAny_holding→Du,wpAny_call_entry→Dw,binaryOp→Dz,Scope→Ei,Pos→Ek,Stmt→El,wpAny_setField_rec→Eo,sizeLine_eq→Ew,cLine→Ex,mem_of_lookup→Ey,FuncData→Fb,Comprehension→Fd,SetTable→Ff,foldedSetIterable→Fh,wpAny_setState_of→Fk,bootBuiltins→Fl,backTo→Fq,rawInt→Ft,wpAny_pyIter_list→Ga,wpAny_pyIter_tuple→Gh,wpAny_mono→Gj,assignEach→Gk,wpAny_seqItems→Gp,cellsFrom→Gw,NameKind→Ha,wpAny_Call_Name_kw→Hb,Builtin→Hd,codeAny_builtin→Hg,Env→Ht,IsPair→Hw,wpAny_passesOwn→Hz,codeAny→Ic,wpAny_attempt→Ie,sysModules→Io,codeAny_mono→Iw,letOwnedTupleGo→IN,getItem→Jh,wpAny_typeOf→Jl,codeAny_call_builtin→Jn,wpAny_askSetting→Jr,swappedStores→Js,swapsWithSole→Jt,wpAny_rule→Ju,behindInMarks→Jv,TriplesOk→Jw,wpAny_execs_nil→Ka,sliceBounds→Ke,pyNext→Ky,wpAny_setField→La,swapsWith→Lf,ofAClassStatement→Lh,wpAny_storeSet_of→Li,call_meets→Lm,Model→Ls,BindsTo→Lu,wpAny_forIn_list→Lv,wpAny_isInstance→Mb,Sem→Me,wpAny_updateSeq_pair→Mi,PassesOwn→Ml,Arguments→Mm,codeAmong→Mn,pickOrder→Mt,pyIter→Mv,builtinsNs→Mx,wpAny_call→Mz,IsTupleKey→Ng,recursionLimit→Nn,firstArgMember→Nr,IsZip→Nt,tupleKind_room_in1→Od,wpAny_newFunctionEnv_cells→Om,IsPart→On,wpAny_of_eq→Oq,hashByValue→Os,wpAny_standAt→Ox,wpAny_sequenceKey→O1,callerA→O8,attributeBase→OD,wpAny_onRaise→OE,setSearchFrom→OH,plainId_quiet→OJ,Tok→OQ,wpAny_comprehension_free→OT,noFill_tuple_add→Pc,checkBuiltinCall→Pe,closureFor→Pg,bindArgs→Qj,valueAt→Qm,wpAny_specialOf→Qn,codeAny_of_tree→Qv,wpAny_ite_split→Qy,tupleKind→Rf,codeAny_call_function→Rh,wpAny_letGo→Rj,IsEnum→Rl,weight_type_call_type→Rn,builtinLookup_eq_fast→Rp,wpAny_newTuple→Rz,isSubtype_stop→Sa,newFunctionEnv→Sb,wpAny_runValue→Sd,isSubtype_type→Se,assignInOrder→Sr,CmpOp→Ss,bindL→Sv,bindC→Sw,seq_tuple_add→Sy,evalPart_none→Ta,atKey→Te,standAt→Tf,intKind_is→Tk,wpAny_setEntries_of→Tn,wpAny_newList→To,bindName→Tt,setState→Tu,concat_meets→Ue,wpAny_assign_Name→Ur,wpAny_truthy_bool→Uu,seqIndex?→Uy,slot_list_getitem→Uz,list_append→Va,lastMarks→Vb,ClassData→Vc,noteFrame→Ve,setFlight→Vf,pushCells→Vh,wpAny_pyIter_enum→Vi,searchCouldBeSeen→Vl,wpAny_pyIter_slot→Vm,wpAny_collect_seq→Vp,wpAny_eqBool_int→Vr,wpAny_execs_cons→Vt,unaryOp→Vu,Result→Vy,seqIndex_of→Wa,wpAny_pyIter_zip→Wh,argsOk→Wi,setAdd→Wl,check_set_init_1→Wm,GenState→Wt,pushCells_keeps→Wx,wpAny_stack_any→Wy,typeLookup_type→WF,wpAny_updateSeq→WP,wpAny_Name→Xi,typeLookup→Xk,typeIs_int→Xl,call→Xn,setsByText→Xp,defaultsOf→Xr,setItem→Yb,Keyword→Ye,seqItems?→Yg,IsEnumOut→Yh,Within→Yp,Fin→Zr
open PySem.Around renaming under_plainId→Ih,frames_deeper→Mh,under_plain→Ud
open PySem.AutoSeq1 renaming wpAny_loadPart'→Gf
open PySem.Builtin.Frozenset renaming updateFrom→Nh,sizeOf→OX,newClass→XV
open PySem.Builtin.Getset_descriptor renaming descrCheckInstance→Qg,descrNameAndClass→Qo,descrGetter→Tg,descrGet→Ui
open PySem.Builtin.List renaming listTooLong→Km,listLengthHint→Nv,listExtendWith→Nw,listSameRef→OY,listUpdate→Yw
open PySem.Builtin.ObjectAttr renaming bindTo→OA,dataDescriptor?→Uh,getOf→Yo,find→Yu
open PySem.Builtin.Range renaming rangeSize→Yr
open PySem.Builtin.Slice renaming sliceAdjust→Fc,slicePlaces→Fy,sliceApplied→Hu,sliceFields→O0,slicePartIndex→Xj
open PySem.Builtin.SmallTypes renaming nextOf→Ds,ownedTupleIsFree→Ef,ownedTupleHandOut→Ge
open PySem.Builtin.Tuple renaming tupleExact→Es,tupleItemsOf→Jp,tupleCompareSizes→Vz,tupleIsExact→Xz
open PySem.Calls renaming spliced_cons→Ko,Name_function_global→Ol,spliced_nil→Oy,call_function_entry→OM,callWith_builtin→Qq,evalArgs_plain→Si
open PySem.Challenge renaming pw_fewdistances_k81_squares_looked_at→Nz,rw_fewdistances_k81_squares_looked_at→NE
open PySem.Code renaming quiet_builtin→Of
open PySem.F renaming called_set→Di,slot_tuple_iterator_next→Hv,slot_enumerate_next→Ja,args_tuple_add_2→Kl,entry_tuple_add→Kt,plainAttrs_dict→Kx,slot_tuple_add→Ll,slot_zip_next→Mq,args_tuple_iterator_next_1→Nb,slot_dict_setdefault→Nc,type_dict_setdefault→Nl,entry_tuple_iterator_next→Nq,excBase_ValueError→Op,type_list_append→Pb,attr_ValueError→Pp,slot_list_count→Pq,slot_list_index→Pr,args_enumerate_next_1→Ps,entry_type_call→Pu,plain_list_iadd→Pw,slot_dict_items→Qb,plainAttrs_list→Qc,type_list_count→Qe,type_list_index→Qf,entry_enumerate_next→Qt,typeCall_set_1→Qw,entry_set_init→Qx,plain_set_new→Rm,slot_set_iter→Rq,type_list_pop→Rv,args_list_append_2→Sh,entry_list_append→Td,slot_list_append→Tz,args_zip_next_1→Vg,entry_zip_next→Wg,slot_int_rmul→Wz
open PySem.Heap renaming get?_push_of_some→Ah,lt_size→Ax,get?_push_size→Ba,get?_update_other→Cy,size_push→Dq,SameBut→En,get?_update_self→Fi,get?_none_of_le→Ig,FlyingW→Mw,MadeExcOf→Ry,IsTuple→Uk,IsList→Wf,ExtBut→Zf,HeldW→Zj
open PySem.Heap.IsSliceOf renaming new→Tx
open PySem.Heap.SameBut renaming update→Gt,refl→OF
open PySem.IsL renaming update→Wc
open PySem.MeetsSeq renaming list_index→Yf,EqGives→Yy
open PySem.NameKind renaming free→Gb,cell→Lz
open PySem.Obj renaming mapSeq→Eg,mapFields→Tl,data_mapFields→Ua,putSet→Xo
open PySem.P renaming add_list→Ph
open PySem.SeqAt.EqAt renaming bool_bool→Xy,same→Yd,of_refs→Yv
open PySem.SetTable renaming insertAt→Bs,below→Cc,sizeAbove→Er,grown→Gq,runEnd→Gu,insertAt_perm→Hq,fill→Jx,Probe→Lg,toList_insertAt→OU,tooFull→Pk,laid→Th,fits→Ti,has→Ul,layClean→Vk,slot→Yi
open PySem.SetTable.below renaming go→Vj
open PySem.SetTable.layClean renaming free→Hr
open PySem.SetTable.probe renaming go→Jc
open PySem.Shared renaming heap→Ma,TypeIs→OK
open PySem.Str renaming ofString→Gv
open PySem.Value renaming ref→Cb,none→Ez,bool→Fg,type→Gi,int→Mj,str→Rc,isStrOf→Ya,builtin→Yc,isInt→Zb,float→Zc
open PySem.W renaming Frag→Ai,tabIn→Dk,nsIn→Dm,kia_one→Ee,keepIn→Eu,fnOf→Gd,kitx_list→Ib,exmOne→Il,cellsFrom_some→IV,kitOne→Jf,codeIn→Jg,tabObj→Jj,envX→Jm,kas_rev→Jz,kla_obj→Kk,kitx_tuple→Kn,findIn→Kz,kitx_dict→Ld,hideAll→Mk,kas_sort→Mu,callWith_K→Oe,methodObj→Ov,nsMap_none_of_in→OS,instObj→Qi,CodeHd→Rw,lookIn→Rx,kitAny→Sf,hideAll_get→So,mroIn→Su,mg_of→Tp,of_hideAll→Tv,codeRec_of→Tw,isNs_of_in→TD,looks_findIn→Ug,kas_descPart→Uq,specialIn→Uv,kitx_none→Uw,kitx_bool→Ux,kas_count→Vn,kas_place→Vo,plainGet→Vv,kitx_int→Vw,kitx_str→Vx,takesIn→Wu,kas_desc→Xa,OpenLaw→Xd,KasT→Xq,nsOkIn→Xs,kla_fn→Xv,kas_asc→Yj,kas_tail3→Yk,WalkO→Yl
open PySem.W.Looks renaming ld→Zs
open PySem.W.WData renaming int→Zq
open PySem.W.WShape renaming has→Zi
open PySem.Walks renaming tuple→Ze,list→Zk
open PySem.pickOrder renaming go→Uo
open Sum renaming inl→Ia,inr→Qh
open Sum.inl renaming inj→Re
open True renaming intro→Gm
open _root_ renaming List→Aa,Nat→Aj,Int→Al,Option→Am,Bool→Ar,if_pos→Bh,Array→Bl,if_neg→Bn,of_decide_eq_true→Bw,decide_eq_true_eq→Ch,decide_eq_false→Cq,decide_eq_true→Cu,if_false→DL,if_true→Eb,String→Ed,False→Ev,or_false→Fo,beq_self_eq_true→Fu,of_decide_eq_false→Hc,beq_eq_false_iff_ne→Im,True→Je,Decidable→Lc,Unit→Ow,beq_iff_eq→Pf,decide_eq_false_iff_not→Pv,not_or→Rk,DecidableEq→Vs
noncomputable section
theorem om {p:Prop}(h:p:=by omega):p:=h
theorem kd {p:Prop}[Lc p](h:p:=by decide +kernel):p:=h
section
namespace _L
open PySem PySem.Spec PyProof.Rows
abbrev Key:=Sum Al As
def kU:Key→Ac→Ar
 |.inl k,v=>Zb k v
 |.inr x,v=>Ya x v
def CB (w:Bt):Key→Al
 |.inl k=>hashInt k
 |.inr x=>hashStr w x
theorem zQ:∀ {k:Key} {v:Ac},kU k v=true→(∃ i t,k=Ia i∧v=Mj i t)∨(∃ x t,k=Qh x∧v=Rc x t)
 |.inl i,v,h=>by
  obtain⟨t,e⟩:=Value.isInt_shape (k:=i) (v:=v) h;exact .inl ⟨i,t,rfl,e⟩
 |.inr x,v,h=>by
  obtain⟨t,e⟩:=Value.isStrOf_shape (x:=x) (v:=v) h;exact .inr ⟨x,t,rfl,e⟩
theorem QQ (i:Al)(t:OQ):kU (.inl i) (.int i t)=true:=by simp[kU,Zb]
theorem QR (x:As)(t:OQ):kU (.inr x) (.str x t)=true:=by simp[kU,Ya]
theorem MZ (a b:Al):decide ((Ia a:Key)=Ia b)=(a == b):=by
 by_cases e:a=b
 ·subst e;simp
 ·have h:¬ (Ia a:Key)=Ia b:=fun q=>e (Re q)
  rw[Cq h];exact(Im.mpr e).symm
theorem T4 (a b:As):decide ((Qh a:Key)=Qh b)=decide (a=b):=by
 by_cases e:a=b
 ·subst e;simp
 ·have h:¬ (Qh a:Key)=Qh b:=fun q=>e (Sum.inr.inj q)
  rw[Cq h,Cq e]
theorem T1 (a:Al)(b:As):decide ((Ia a:Key)=Qh b)=false:=Cq (fun q=>nomatch q)
theorem T3 (a:As)(b:Al):decide ((Qh a:Key)=Ia b)=false:=Cq (fun q=>nomatch q)
def zI (prog:Be)(w:Bt):PySem.KeyKind prog w Key where
 is:=kU
 hash:=CB w
 inj:=fun v a b ha hb=>by
  rcases zQ ha with⟨i,t,rfl,rfl⟩|⟨x,t,rfl,rfl⟩
  ·rcases zQ hb with⟨j,u,rfl,e⟩|⟨y,u,rfl,e⟩
   ·injection e with e1 _;rw[e1]
   ·exact nomatch e
  ·rcases zQ hb with⟨j,u,rfl,e⟩|⟨y,u,rfl,e⟩
   ·exact nomatch e
   ·injection e with e1 _;rw[e1]
 byValue:=fun k v h=>by
  rcases zQ h with⟨i,t,rfl,rfl⟩|⟨x,t,rfl,rfl⟩ <;> rfl
 pyHash:=fun hv h=>by
  rcases zQ hv with⟨i,t,rfl,rfl⟩|⟨x,t,rfl,rfl⟩
  ·exact wpAny_pyHash_int h
  ·exact wpAny_pyHash_str h
 eqBool:=fun hu hv h=>by
  rcases zQ hu with⟨i,t,rfl,rfl⟩|⟨x,t,rfl,rfl⟩
  ·rcases zQ hv with⟨j,u,rfl,rfl⟩|⟨y,u,rfl,rfl⟩
   ·rw[MZ] at h;exact Vr h
   ·rw[T1] at h;exact SeqAt.EqAt.int_str i t y u _ _ _ _ h
  ·rcases zQ hv with⟨j,u,rfl,rfl⟩|⟨y,u,rfl,rfl⟩
   ·rw[T3] at h;exact SeqAt.EqAt.str_int x t j u _ _ _ _ h
   ·rw[T4] at h;exact wpAny_eqBool_str h
 «strs»:=fun k x t v h=>by
  rcases zQ h with⟨i,u,rfl,e⟩|⟨y,u,rfl,e⟩
  ·exact nomatch e
  ·injection e with e1 _
   subst e1;cases v <;> rfl
theorem eI (prog:Be)(w:Bt)(i:Al)(t:OQ):(zI prog w).is (.inl i) (.int i t)=true:=QQ i t
theorem eJ (prog:Be)(w:Bt)(x:As)(t:OQ):(zI prog w).is (.inr x) (.str x t)=true:=QR x t
end _L
namespace _L
open PySem PySem.Spec PyProof.Rows
variable {us:Aa Ac}{b:Af}
inductive V where
 |non|bl (b:Ar)|int (i:Al)|str (x:As)|byt (b:Bl UInt8)|flt (b:UInt64)|ref (a:Af)|ty (n:Ed)
 deriving Vs
def qL:V→Ac→Prop
 |.non,u=>u=Ez
 |.bl b,u=>u=Fg b
 |.int i,u=>∃ t,u=Mj i t
 |.str x,u=>∃ t,u=Rc x t
 |.byt b,u=>∃ t,u=Value.bytes b t
 |.flt b,u=>∃ t,u=Zc b t
 |.ref a,u=>u=Cb a
 |.ty n,u=>u=Gi n
abbrev qJ:Aa V→Aa Ac→Prop:=Paired qL
theorem qJ.length {xs:Aa V}(r:qJ xs us):xs.length=us.length:=Paired.length r
theorem qJ.get:∀ {xs:Aa V} {us:Aa Ac} {i:Aj} {x:V},qJ xs us→xs[i]? = Ab x→∃ u,us[i]? = Ab u∧qL x u
 |_,_,_,_,.nil,e=>by simp at e
 |_,_,0,_,.cons r _,e=>by simp at e;subst e;exact⟨_,rfl,r⟩
 |_,_,i+1,x,.cons _ t,e=>by
  obtain⟨u,h1,h2⟩:=qJ.get (i:=i) (x:=x) t (by simpa using e)
  exact⟨u,by simpa using h1,h2⟩
theorem qJ.set {x:V}{u:Ac}(r:qL x u):∀ {xs:Aa V} {us:Aa Ac} (i:Aj),qJ xs us→qJ (xs.set i x) (us.set i u)
 |_,_,_,.nil=>.nil
 |_,_,0,.cons _ t=>.cons r t
 |_,_,i+1,.cons q t=>.cons q (qJ.set r i t)
theorem qJ.append {xs ys:Aa V}{ws:Aa Ac}(h:qJ xs us)(s:qJ ys ws):qJ (xs++ys) (us++ws):=by
 induction h with
 |nil=>exact s
 |cons r t ih=>exact .cons r ih
theorem qJ.take:∀ {xs:Aa V} {us:Aa Ac} (n:Aj),qJ xs us→qJ (xs.take n) (us.take n)
 |_,_,0,_=>.nil
 |_,_,_+1,.nil=>.nil
 |_,_,n+1,.cons r t=>.cons r (qJ.take n t)
theorem qJ.drop:∀ {xs:Aa V} {us:Aa Ac} (n:Aj),qJ xs us→qJ (xs.drop n) (us.drop n)
 |_,_,0,r=>r
 |_,_,_+1,.nil=>.nil
 |_,_,n+1,.cons _ t=>qJ.drop n t
def vA:Am V→Am Ac→Prop
 |some v,Ab u=>qL v u
 |none,none=>Je
 |_,_=>Ev
def KV {κ:Type}:Aa (κ × V)→Aa (κ × Ac)→Prop:=Paired fun (p:κ × V) (q:κ × Ac)=>p.1=q.1∧qL p.2 q.2
def kV:Key→V
 |.inl i=>.int i
 |.inr x=>.str x
inductive HO where
  |lst (xs:Aa V)
  |tup (xs:Aa V)
  |dK (kvs:Aa (Key × V))|dT (kvs:Aa (Aa Key × V))
  |set (S:Al→Ar) (n:Aj)
  |ins (C dx:Af) (fs:Aa (As × V))
  |own (x:Af)
  |xd (fs:Aa (As × V))
  |met (f x:Af)
  |rng (lo hi:Al)
  |frz (o:Cg) (u:HO)
  |tbl (ps:Bl Ac)
  |ext (φ : Bk→Prop)
variable {u:HO}
abbrev Hp:=Af→Am HO
def upd (H:Hp)(a:Af)(o:HO):Hp:=fun b=>if b=a then Ab o else H b
theorem qQ {H:Hp}{a:Af}{o:HO}:upd H a o a=Ab o:=by unfold upd;rw[Bh rfl]
theorem qF {H:Hp}{a:Af}{o:HO}(h:b≠a):upd H a o b=H b:=by unfold upd;rw[Bn h]
theorem RB {H:Hp}{a:Af}{o:HO}(h:H a=Ab o)(h':H b=Ab u)(d:o≠u):a≠b:=by
 intro e;subst e;rw[h] at h';exact d (Cm h')
theorem qR {H:Hp}{a:Af}{o:HO}(h:H a=Ab o)(h':H b=none):a≠b:=by
 intro e;subst e;rw[h] at h';cases h'
section
variable (P:Be)(w:Bt)
def zA (H:Hp)(h:Bk)(a:Af):HO→Prop
 |.lst xs=>xs.length≤sizeLine∧∃ (its:Aa Ac) (n:Aj),qJ xs its∧h.get? a=Ab { cls:=.type "list",data:=.seq its.toArray n }
 |.tup xs=>xs.length≤sizeLine∧∃ its:Aa Ac,qJ xs its∧Nm h a its.toArray
 |.dK kvs=>kvs.length≤sizeLine∧(a == Io)=false∧∃ vs,KV kvs vs∧h.DictOf (zI P w) a vs
 |.dT kvs=>kvs.length≤sizeLine∧(a == Io)=false∧∃ xs:Aa (Aa Key × Af × Ac),
   Paired (fun (p:Aa Key × V) (q:Aa Key × Af × Ac)=>p.1=q.1∧H q.2.1=Ab (.tup (p.1.map kV))∧qL p.2 q.2.2) kvs xs ∧
   ∃ o es ep,h.get? a=Ab o∧o.ExactDict∧o.data=.dict es ep∧es.toList=xs.map (entryOfKey (Rf (zI P w)))∧(xs.map (·.1)).Nodup
 |.set S n=>h.SetOf (Bd P w) a S n
 |.ins C dx fs=>H dx=Ab (.own a)∧fs.length≤1000∧dx≠a∧h.get? a=Ab (Qi C dx) ∧
   ∃ mA,h.Ns1 dx mA∧(∀ f,vA (fs.lookup f) (mA f))∧Yp mA (fs.map (·.1))
 |.own _=>∃ o,h.get? a=Ab o
 |.xd fs=>∃ mA,h.Ns1 a mA∧∀ f,vA (fs.lookup f) (mA f)
 |.rng lo hi=>∃ t u v,h.get? a=Ab { cls:=.type "range",data:=.fields #[.int lo t,.int hi u,.int 1 v] }
 |.frz o u=>h.get? a=Ab o∧zA H h a u
 |.tbl ps=>h.get? a=Ab { cls:=.none,data:=.fields ps }
 |.met f x=>h.get? a=Ab (Ov (.ref f) (.ref x))
 |.ext φ => φ h∧(∃ o,h.get? a=Ab o)∧∀ h1 h2:Bk,φ h1→(∀ o,h1.get? a=Ab o→h2.get? a=Ab o)→φ h2
def HOk (H:Hp)(h:Bk):Prop:=∀ a o,H a=Ab o→zA P w H h a o
end
section
variable {P:Be}{w:Bt}{H H':Hp}{h h':Bk}{a:Af}{o:HO}
theorem zA.lt (x:zA P w H h a o):a<h.objs.size:=by
 cases o with
 |lst xs=>obtain⟨_,_,_,_,e⟩:=x;exact Ax e
 |tup xs=>obtain⟨_,_,_,p⟩:=x;exact p.lt
 |dK kvs=>obtain⟨_,_,_,_,o,_,_,e,_⟩:=x;exact Ax e
 |dT kvs=>obtain⟨_,_,_,_,o,_,_,e,_⟩:=x;exact Ax e
 |set S n=>obtain⟨o,_,_,_,e,_⟩:=x;exact Ax e
 |ins C dx fs=>obtain⟨_,_,_,e,_⟩:=x;exact Ax e
 |own y=>obtain⟨_,e⟩:=x;exact Ax e
 |xd fs=>obtain⟨_,⟨_,_,_,e,_⟩,_⟩:=x;exact Ax e
 |rng lo hi=>obtain⟨_,_,_,e⟩:=x;exact Ax e
 |frz ob u=>obtain⟨e,_⟩:=x;exact Ax e
 |tbl ps=>exact Ax (show h.get? a=Ab _ from x)
 |met f y=>exact Ax (show h.get? a=Ab _ from x)
 |ext φ => obtain⟨_,⟨_,e⟩,_⟩:=x;exact Ax e
theorem Paired.mapP {α β:Type}{F G:α→β→Prop}{l₁:Aa α}{l₂:Aa β}(h:Paired F l₁ l₂)(f:∀ a b,F a b→G a b):Paired G l₁ l₂:=by
 induction h with
 |nil=>exact .nil
 |cons r t ih=>exact .cons (f _ _ r) ih
theorem zA.stay (x:zA P w H h a o)(k:∀ b u,(b=a∨H b=Ab (.own a))→h.get? b=Ab u→h'.get? b=Ab u)
  (ho:∀ b,H b=Ab (.own a)→H' b=Ab (.own a)) (ht:∀ b xs,H b=Ab (.tup xs)→H' b=Ab (.tup xs)):zA P w H' h' a o:=by
 induction o with
 |lst xs=>obtain⟨z,its,n,r,e⟩:=x;exact⟨z,its,n,r,k _ _ (.inl rfl) e⟩
 |tup xs=>obtain⟨z,its,r,ob,e,c⟩:=x;exact⟨z,its,r,ob,k _ _ (.inl rfl) e,c⟩
 |dK kvs=>obtain⟨z,y,vs,r,ob,es,ep,e,c⟩:=x;exact⟨z,y,vs,r,ob,es,ep,k _ _ (.inl rfl) e,c⟩
 |dT kvs =>
  obtain⟨z,y,xs,r,ob,es,ep,e,c⟩:=x;exact⟨z,y,xs,Paired.mapP r fun p q z=>⟨z.1,ht _ _ z.2.1,z.2.2⟩,ob,es,ep,k _ _ (.inl rfl) e,c⟩
 |set S n=>obtain⟨ob,es,ep,t,e,c⟩:=x;exact⟨ob,es,ep,t,k _ _ (.inl rfl) e,c⟩
 |ins C dx fs =>
  obtain⟨d,z,ne,e,mA,⟨od,es,ep,e2,c⟩,r⟩:=x;exact⟨ho _ d,z,ne,k _ _ (.inl rfl) e,mA,⟨od,es,ep,k _ _ (.inr d) e2,c⟩,r⟩
 |own y=>obtain⟨ob,e⟩:=x;exact⟨ob,k _ _ (.inl rfl) e⟩
 |xd fs=>obtain⟨mA,⟨od,es,ep,e,c⟩,r⟩:=x;exact⟨mA,⟨od,es,ep,k _ _ (.inl rfl) e,c⟩,r⟩
 |rng lo hi=>obtain⟨t,u,v,e⟩:=x;exact⟨t,u,v,k _ _ (.inl rfl) e⟩
 |frz ob u ih=>obtain⟨e,q⟩:=x;exact⟨k _ _ (.inl rfl) e,ih q⟩
 |tbl ps =>
  have e:h.get? a=Ab { cls:=.none,data:=.fields ps }:=x;show h'.get? a=Ab { cls:=.none,data:=.fields ps };exact k a _ (.inl rfl) e
 |met f y =>
  have e:h.get? a=Ab (Ov (.ref f) (.ref y)):=x;show h'.get? a=Ab (Ov (.ref f) (.ref y));exact k a _ (.inl rfl) e
 |ext φ => obtain⟨p,⟨o,e⟩,st⟩:=x;exact⟨st _ _ p fun o q=>k _ _ (.inl rfl) q,⟨o,k _ _ (.inl rfl) e⟩,st⟩
theorem HOk.lt (x:HOk P w H h)(e:H a=Ab o):a<h.objs.size:=(x a o e).lt
theorem HOk.fresh (x:HOk P w H h)(e:h.objs.size≤a):H a=none:=by
 cases q:H a with
 |none=>rfl
 |some u=>exact absurd (Bf (x.lt q) e) (Ea _)
theorem HOk.kept (x:HOk P w H h)(k:∀ b u,h.get? b=Ab u→h'.get? b=Ab u):HOk P w H h':=fun a o e =>
 (x a o e).stay (fun b u _ q=>k b u q) (fun _ q=>q) fun _ _ q=>q
theorem HOk.laid (x:HOk P w H h)(k:∀ b u,h.get? b=Ab u→h'.get? b=Ab u)(hp:h.objs.size≤a)(new:zA P w (upd H a o) h' a o):HOk P w (upd H a o) h':=fun b u e=>by
 have hn:=x.fresh hp;by_cases hb:b=a
 ·subst hb;rw[qQ] at e;cases e;exact new
 ·rw[qF hb] at e
  exact(x b u e).stay (fun c v _ q=>k c v q) (fun c q=>by rw[qF (qR q hn)];exact q) fun c xs q=>by rw[qF (qR q hn)];exact q
end
def Rd (H:Hp)(a:Af)(u:HO):Prop:=H a=Ab u∨∃ o,H a=Ab (.frz o u)
theorem Rd.of {H:Hp}{a:Af}(h:H a=Ab u):Rd H a u:=.inl h
theorem Rd.ok {P:Be}{w:Bt}{H:Hp}{h:Bk}{a:Af}(r:Rd H a u)(x:HOk P w H h):zA P w H h a u:=by
 rcases r with r|⟨o,r⟩
 ·exact x a u r
 ·obtain⟨_,q⟩:=x a _ r
  exact q
def Mut:Am HO→Prop
 |some (.lst _)=>Je
 |some (.dK _)=>Je
 |some (.dT _)=>Je
 |some (.set _ _)=>Je
 |some (.ins _ _ _)=>Je
 |some (.ext _)=>Je
 |_=>Ev
section
variable {P:Be}{w:Bt}{H:Hp}{h h':Bk}{x e:Af}{o':HO}
theorem HOk.write (ok:HOk P w H h)(mu:Mut (H x))(he:e=x∨H e=Ab (.own x))(k:∀ b u,b≠e→h.get? b=Ab u→h'.get? b=Ab u)(heo:∃ u,h'.get? e=Ab u)
  (new:zA P w (upd H x o') h' x o'):HOk P w (upd H x o') h':=fun b u q=>by
 have nown:∀ c y,H c=Ab (.own y)→c≠x:=fun c y r z=>by subst z;rw[r] at mu;exact mu
 have ntup:∀ c xs,H c=Ab (.tup xs)→c≠x:=fun c xs r z=>by subst z;rw[r] at mu;exact mu
 by_cases hb:b=x
 ·subst hb;rw[qQ] at q;cases q;exact new
 ·rw[qF hb] at q
  by_cases hbe:b=e
  ·have q':H b=Ab (.own x):=by
    rcases he with z|z
    ·exact absurd (hbe.trans z) hb
    ·rw[hbe];exact z
   rw[q] at q';cases q';obtain⟨v,hv⟩:=heo;exact⟨v,by rw[hbe];exact hv⟩
  ·refine(ok b u q).stay (fun c v hc r=>k c v ?_ r) (fun c r=>by rw[qF (nown c b r)];exact r) fun c xs r=>by rw[qF (ntup c xs r)];exact r
   rcases hc with rfl|hc
   ·exact hbe
   ·rintro rfl
    rcases he with z|z
    ·exact nown c b hc z
    ·rw[hc] at z;cases z;exact hb rfl
end
structure Un (fs ex:Aa Af)(H H':Hp)(h h':Bk):Prop where
 keep:∀ b o,h.get? b=Ab o→H b=none→b ∉ fs→b ∉ ex→h'.get? b=Ab o
 slot:∀ b o,h.get? b=Ab o→H b=none→b∈fs→b ∉ ex→∃ sl,h'.get? b=Ab { o with slots:=sl }
 free:∀ b o,h.get? b=Ab o→H b=none→b ∉ ex→H' b=none
 there:∀ b o,h.get? b=Ab o→b ∉ ex→∃ o',h'.get? b=Ab o'
 tups:∀ b xs,H b=Ab (.tup xs)→H' b=Ab (.tup xs)
 frzs:∀ b o u,H b=Ab (.frz o u)→H' b=Ab (.frz o u)
 tbls:∀ b ps,H b=Ab (.tbl ps)→∃ more,H' b=Ab (.tbl (ps++more))
section
variable {fs fs' ex ex':Aa Af}{H H1 H2:Hp}{h h1 h2 h':Bk}{a x e:Af}{o:HO}
theorem Un.any (u:Un fs ex H H1 h h1){b:Af}{ob:Cg}(q:h.get? b=Ab ob)(n:H b=none)(hx:b ∉ ex):∃ sl,h1.get? b=Ab { ob with slots:=sl }:=by
 by_cases hb:b∈fs
 ·exact u.slot b ob q n hb hx
 ·exact⟨ob.slots,u.keep b ob q n hb hx⟩
theorem Un.kept (k:∀ b u,h.get? b=Ab u→h'.get? b=Ab u):Un fs ex H H h h':=
 ⟨fun b ob q _ _ _=>k b ob q,fun b ob q _ _ _=>⟨ob.slots,k b ob q⟩,fun _ _ _ n _=>n,fun b ob q _=>⟨ob,k b ob q⟩,fun _ _ q=>q,fun _ _ _ q=>q,fun _ ps q=>⟨#[],by rw[q];simp⟩⟩
theorem Un.refl:Un fs ex H H h h:=Un.kept fun _ _ q=>q
theorem Un.laid (k:∀ b u,h.get? b=Ab u→h'.get? b=Ab u)(hp:h.objs.size≤a)(hn:H a=none):Un fs ex H (upd H a o) h h' where
 keep:=fun b u q _ _ _=>k b u q
 slot:=fun b u q _ _ _=>⟨u.slots,k b u q⟩
 free:=fun b u q n _=>by rw[qF (Cd (Bf (Ax q) hp))];exact n
 there:=fun b u q _=>⟨u,k b u q⟩
 tups:=fun b xs q=>by rw[qF (qR q hn)];exact q
 frzs:=fun b u xs q=>by rw[qF (qR q hn)];exact q
 tbls:=fun b ps q=>⟨#[],by rw[qF (qR q hn),q];simp⟩
theorem Un.write (mu:Mut (H x))(he:e=x∨H e=Ab (.own x))(k:∀ b u,b≠e→h.get? b=Ab u→h'.get? b=Ab u)(heo:∃ u,h'.get? e=Ab u):Un fs ex H (upd H x o) h h':=by
 have hx:∀ b,H b=none→b≠x:=fun b n z=>by subst z;rw[n] at mu;exact mu
 have hb:∀ b,H b=none→b≠e:=fun b n z=>by
  subst z;rcases he with r|r
  ·exact hx b n r
  ·rw[n] at r;cases r
 have hm:∀ b u,H b=Ab u→¬ Mut (Ab u)→b≠x:=fun b u q nm z=>by subst z;rw[q] at mu;exact nm mu
 refine⟨fun b u q n _ _=>k b u (hb b n) q,fun b u q n _ _=>⟨u.slots,k b u (hb b n) q⟩,fun b u q n _=>by rw[qF (hx b n)];exact n,fun b u q _=>?_,
  fun b xs q=>by rw[qF (hm b _ q fun z=>z)];exact q,fun b u xs q=>by rw[qF (hm b _ q fun z=>z)];exact q,fun b ps q=>⟨#[],by rw[qF (hm b _ q fun z=>z),q];simp⟩⟩
 by_cases hbe:b=e
 ·subst hbe;exact heo
 ·exact⟨u,k b u hbe q⟩
end
def trk (h:Bk)(H:Hp):Aa Af:=(Ce h.objs.size).filter fun a=>(H a).isSome
def kO (h:Bk)(H:Hp):Bk:=Mk h (trk h H)
theorem QD (h:Bk)(H:Hp):(kO h H).objs.size=h.objs.size:=PySem.W.hideAll_size _ _
theorem Y5 {h:Bk}{H:Hp}{o:Cg}(e:h.get? b=Ab o)(n:H b=none):(kO h H).get? b=Ab o:=
 So _ e fun hm=>by
  have q:(H b).isSome=true:=(Ws.mp hm).2;rw[n] at q;simp at q
theorem GS {h:Bk}{H:Hp}{o:Cg}(e:(kO h H).get? b=Ab o):h.get? b=Ab o∧H b=none:=by
 have e':h.get? b=Ab o:=Tv (trk h H) e;refine⟨e',?_⟩;cases q:H b with
 |none=>rfl
 |some x =>
  have hm:b∈trk h H:=Ws.mpr ⟨Ej.mpr (Ax e'),by simp[q]⟩
  have z:(kO h H).get? b=none:=PySem.W.hideAll_none (trk h H) hm;rw[z] at e;cases e
end _L
namespace _L
open PySem PySem.Spec PyProof.Rows
variable {E:Ac→Ag→Prop}{t':Aj}{g':Bl Wt}{d':Drawn}{M:Ls}{Q:Ow→Ag→Prop}
def w9:Aa As:=["law","_law_right","by_hull","pair_bound"]
def BU (mg:As→Am Ac)(h:Bk):Prop:=∃ bm o,mg "__builtins__" = Ab (.ref bm)∧bm≠Mx∧h.get? bm=Ab o∧o.cls=.type "module" ∧ o.dict=Ab Mx∧o.data=.plain
structure Mod (K:Ai)(mg:As→Am Ac)(base:Bk):Prop where
 kin:K.In base
 glob:base.Ns Cf mg
 blt:∃ mb,base.Ns Mx mb∧∀ x:As,x ≠ "__name__" → mb x=Fl x
 nolimit:base.NoLimit
 bm:BU mg base
 code:∀ x∈w9,∀ c T,Dk K x=Ab (c,T)→Rw base c T
 inj:∀ x∈w9,∀ y∈w9,∀ c d T,Dk K x=Ab (c,T)→Dk K y=Ab (d,T)→x=y
structure Cx where
 prog:Be
 w:Bt
 K:Ai
 mg:As→Am Ac
 base:Bk
 A:Bu
 N:Aa As
 s₀:Ag
 H₀:Hp
 env:Ht
 outer:Aa Ht
 stack:Aa Ht
 ex:Aa Af
 fn:As→Ar
 calm:Ar
 pn:Aa (Af × Cg)
 xe:Ac→Ag→Prop
def frs (l:Aa Ht):Aa Af:=l.filterMap (·.frame)
abbrev Cx.fs (X:Cx):Aa Af:=frs X.outer
def Vis (sc:Ei)(x:As):Prop:=sc.names.lookup x=Ab .local ∨ sc.names.lookup x=Ab .cell∨sc.names.lookup x=Ab .free
def Loc (sc:Ei)(x:As):Prop:=sc.names.lookup x=Ab .local ∨ sc.names.lookup x=Ab .cell
def BX (env:Ht)(h:Bk)(m:As→Am Ac)(x:As)(u:Ac):Prop:=
 (env.kindOf x=Ab .local ∧ m x=Ab u)∨((env.kindOf x=Ab .cell∨env.kindOf x=Ab .free)∧∃ c,env.cells.lookup x=Ab c∧h.IsCell c (Ab u))
structure Cx.Ok (X:Cx):Prop where
 mod:Mod X.K X.mg X.base
 kind:X.env.scope.kind=.function
 glob:X.env.globals=Cf
 blt:X.env.builtins=Mx
 above:X.s₀.heap.objs.size≤X.env.locals
 inj:∀ x y c,X.env.cells.lookup x=Ab c→X.env.cells.lookup y=Ab c→x=y
 has:∀ x,(X.env.kindOf x=Ab .cell∨X.env.kindOf x=Ab .free)→∃ c,X.env.cells.lookup x=Ab c
 cab:∀ x c,X.fn x=true→X.env.cells.lookup x=Ab c→X.s₀.heap.objs.size≤c
 hd:X.calm=true→X.A.handled=none
 frames:X.A.frames=Ab X.stack
 stk:X.stack=X.outer∨(X.stack=X.env::X.outer∧X.env.frame=Ab X.env.locals)
 exf:∀ b∈X.ex,b≠X.env.locals∧∀ x c,X.env.cells.lookup x=Ab c→c≠b
 bs:∀ b o,X.base.get? b=Ab o→X.s₀.heap.get? b=Ab o∧X.H₀ b=none
 bsz:X.base.objs.size≤X.s₀.heap.objs.size
 noex:∀ b o,X.base.get? b=Ab o→b ∉ X.ex
 exfs:∀ b∈X.ex,b ∉ X.fs
 funs:X.s₀.heap.FunFrames X.base X.outer
 frf:∀ b∈X.fs,X.H₀ b=none
structure Inv (X:Cx)(pins:Aa (Af × Cg))(σ : Aa (Am V))(H:Hp)(s:Ag):Prop where
 ok:X.Ok
 os:s.os=X.s₀.os
 bare:Lq s.gens
 base:Un X.fs X.ex X.H₀ H X.s₀.heap s.heap
 loc:∃ m,s.heap.Ns X.env.locals m∧∀ (i:Aj) (x:As) (v:V),X.N[i]? = Ab x→σ[i]? = Ab (Ab v)→Vis X.env.scope x→∃ u,qL v u∧BX X.env s.heap m x u
 cell:∀ x c,X.env.cells.lookup x=Ab c→∃ v,s.heap.IsCell c v
 free:H X.env.locals=none
 freeC:∀ x c,X.env.cells.lookup x=Ab c→H c=none
 pin:∀ p∈X.pn++pins,s.heap.get? p.1=Ab p.2∧H p.1=none∧p.1≠X.env.locals∧p.1 ∉ X.fs∧∀ v,p.2.data≠.cell v
 hok:HOk X.prog X.w H s.heap
 len:σ.length=X.N.length
section
variable {X:Cx}{pins:Aa (Af × Cg)}{σ : Aa (Am V)}{H H':Hp}{s:Ag}{h':Bk}
theorem Cx.Ok.nofr (ok:X.Ok){b:Af}{o:Cg}(e:X.base.get? b=Ab o):b ∉ X.fs:=fun hb=>by
 have:=(ok.funs.mem hb).1;rw[e] at this;cases this
theorem Inv.bs (I:Inv X pins σ H s):∀ b o,X.base.get? b=Ab o→s.heap.get? b=Ab o∧H b=none:=fun b o e =>
 ⟨I.base.keep b o (I.ok.bs b o e).1 (I.ok.bs b o e).2 (I.ok.nofr e) (I.ok.noex b o e),I.base.free b o (I.ok.bs b o e).1 (I.ok.bs b o e).2 (I.ok.noex b o e)⟩
theorem Inv.bk (I:Inv X pins σ H s):∀ b o,X.base.get? b=Ab o→s.heap.get? b=Ab o:=fun b o e=>(I.bs b o e).1
theorem Inv.mod (I:Inv X pins σ H s):Mod X.K X.mg X.base:=I.ok.mod
theorem Inv.kIn (I:Inv X pins σ H s):X.K.In s.heap:=I.ok.mod.kin.keeps I.bk
theorem Inv.nolimit (I:Inv X pins σ H s):s.heap.NoLimit:=I.ok.mod.nolimit.keeps I.bk
theorem Inv.lt (I:Inv X pins σ H s):X.env.locals<s.heap.objs.size:=let ⟨_,hn,_⟩:=I.loc;hn.lt
theorem Inv.sz (I:Inv X pins σ H s):X.s₀.heap.objs.size≤s.heap.objs.size:=Cr I.ok.above (Fm I.lt)
theorem Inv.nofs (I:Inv X pins σ H s){a:Af}(h:s.heap.objs.size≤a):a ∉ X.fs:=fun hb=>by
 obtain⟨_,o,ho,_⟩:=I.ok.funs.mem hb;exact absurd (Bf (Ax ho) (Cr I.sz h)) (Ea _)
theorem Inv.cne (I:Inv X pins σ H s):∀ x c,X.env.cells.lookup x=Ab c→c≠X.env.locals:=fun x c e z=>by
 obtain⟨v,o,ho,hd⟩:=I.cell x c e;obtain⟨m,⟨o',es,ep,ho',hd',_⟩,_⟩:=I.loc;rw[z,ho'] at ho;cases ho;rw[hd'] at hd;cases hd
theorem Inv.funs (I:Inv X pins σ H s):s.heap.FunFrames X.base X.outer:=by
 have all:∀ (l:Aa Ht),(∀ b∈frs l,b∈X.fs)→X.s₀.heap.FunFrames X.base l→s.heap.FunFrames X.base l:=by
  intro l
  induction l with
  |nil=>intro _ _;trivial
  |cons env r ih =>
   intro hs hl;obtain⟨hk,⟨L,o,hf,hn,ho,hd⟩,hr⟩:=hl;have hL:L∈X.fs:=hs L (by unfold frs;rw[Fw,hf];exact Cn)
   obtain⟨sl,e⟩:=I.base.slot L o ho (I.ok.frf L hL) hL fun z=>I.ok.exfs L z hL;exact⟨hk,⟨L,_,hf,hn,e,hd⟩,ih (fun b hb=>hs b (by unfold frs;rw[Fw,hf];exact By _ hb)) hr⟩
 exact all X.outer (fun _ hb=>hb) I.ok.funs
theorem Inv.stack (I:Inv X pins σ H s):s.heap.FunFrames X.base X.stack:=by
 rcases I.ok.stk with e|⟨e,hf⟩
 ·rw[e];exact I.funs
 ·rw[e]
  obtain⟨m,hn,_⟩:=I.loc;refine .cons (by rw[I.ok.kind];decide) hf hn ?_ I.funs
  exact Ig (Cr I.ok.bsz I.ok.above)
theorem Inv.stkSub (I:Inv X pins σ H s):∀ b∈frs X.stack,b∈X.env.locals::X.fs:=fun b hb=>by
 rcases I.ok.stk with e|⟨e,hf⟩
 ·rw[e] at hb;exact By _ hb
 ·rw[e] at hb
  unfold frs at hb;rw[Fw,hf] at hb;exact hb
theorem Inv.stkFree (I:Inv X pins σ H s):∀ b∈frs X.stack,H b=none:=fun b hb=>by
 rcases Ay.mp (I.stkSub b hb) with e|hb
 ·rw[e];exact I.free
 ·obtain⟨_,o,ho,_⟩:=I.ok.funs.mem hb
  exact I.base.free b o ho (I.ok.frf b hb) fun z=>I.ok.exfs b z hb
theorem Inv.step {g':Bl Wt}{t':Aj}{d':Drawn}{ch:Aa Af}(I:Inv X pins σ H s)
  (hch:∀ b∈ch,(b∈X.ex∨X.s₀.heap.objs.size≤b)∧b≠X.env.locals∧(∀ x c,X.env.cells.lookup x=Ab c→c≠b)∧∀ p∈X.pn++pins,p.1≠b)
  (keep:∀ b o,b≠X.env.locals→b ∉ X.fs→b ∉ ch→s.heap.get? b=Ab o→H b=none→h'.get? b=Ab o)
  (slot:∀ b o,b≠X.env.locals→b∈X.fs→b ∉ ch→s.heap.get? b=Ab o→H b=none→∃ sl,h'.get? b=Ab { o with slots:=sl }) (free:∀ b o,b ∉ ch→s.heap.get? b=Ab o→H b=none→H' b=none)
  (there:∀ b o,b ∉ ch→s.heap.get? b=Ab o→∃ o',h'.get? b=Ab o')
  (tups:∀ b xs,H b=Ab (.tup xs)→H' b=Ab (.tup xs)) (frzs:∀ b o u,H b=Ab (.frz o u)→H' b=Ab (.frz o u)) (tbls:∀ b ps,H b=Ab (.tbl ps)→∃ more,H' b=Ab (.tbl (ps++more)))
  (ns:∀ m,s.heap.Ns X.env.locals m→h'.Ns X.env.locals m) (hok:HOk X.prog X.w H' h') (hg:Lq g') :
  Inv X pins σ H' { s with heap:=h',gens:=g',drawn:=d',toks:=t' }:=by
 have neL:∀ b o,X.s₀.heap.get? b=Ab o→b≠X.env.locals:=fun b o e=>Cd (Bf (Ax e) I.ok.above);have neC:∀ b o,X.s₀.heap.get? b=Ab o→b ∉ X.ex→b ∉ ch:=fun b o e hx hb=>by
  rcases (hch b hb).1 with z|z
  ·exact hx z
  ·exact absurd (Bf (Ax e) z) (Ea _)
 have cellK:∀ x c,X.env.cells.lookup x=Ab c→∀ v,s.heap.IsCell c v→h'.IsCell c v:=fun x c e v ⟨o,ho,hd⟩=>by
  have nch:c ∉ ch:=fun z=>(hch c z).2.2.1 x c e rfl;by_cases hc:c∈X.fs
  ·obtain⟨sl,q⟩:=slot c o (I.cne x c e) hc nch ho (I.freeC x c e)
   exact⟨_,q,hd⟩
  ·exact⟨o,keep c o (I.cne x c e) hc nch ho (I.freeC x c e),hd⟩
 refine⟨I.ok,I.os,hg,⟨fun b o e n hb hx=>?_,fun b o e n hb hx=>?_,fun b o e n hx=>?_,fun b o e hx=>?_,fun b xs e=>tups b xs (I.base.tups b xs e),fun b o xs e=>frzs b o xs (I.base.frzs b o xs e),fun b ps e=>?_⟩,?_,fun x c e=>?_,?_,fun x c e=>?_,fun p hp=>?_,hok,I.len⟩
 ·exact keep b o (neL b o e) hb (neC b o e hx) (I.base.keep b o e n hb hx) (I.base.free b o e n hx)
 ·obtain⟨sl,e1⟩:=I.base.slot b o e n hb hx
  obtain⟨sl',e2⟩:=slot b _ (neL b o e) hb (neC b o e hx) e1 (I.base.free b o e n hx);exact⟨sl',e2⟩
 ·obtain⟨o',e1⟩:=I.base.there b o e hx
  exact free b o' (neC b o e hx) e1 (I.base.free b o e n hx)
 ·obtain⟨o',e1⟩:=I.base.there b o e hx
  exact there b o' (neC b o e hx) e1
 ·obtain⟨m1,e1⟩:=I.base.tbls b ps e
  obtain⟨m2,e2⟩:=tbls b _ e1;exact⟨m1++m2,by rw[e2,Array.append_assoc]⟩
 ·obtain⟨m,hn,hl⟩:=I.loc
  refine⟨m,ns m hn,fun i x v e1 e2 e3=>?_⟩;obtain⟨u,r,l⟩:=hl i x v e1 e2 e3;refine⟨u,r,?_⟩;rcases l with l|⟨k,c,e,z⟩
  ·exact .inl l
  ·exact .inr ⟨k,c,e,cellK x c e _ z⟩
 ·obtain⟨v,z⟩:=I.cell x c e
  exact⟨v,cellK x c e v z⟩
 ·obtain⟨m,⟨o,_,_,ho,_⟩,_⟩:=I.loc
  exact free _ o (fun z=>(hch _ z).2.1 rfl) ho I.free
 ·obtain⟨v,o,ho,hd⟩:=I.cell x c e
  exact free c o (fun z=>(hch c z).2.2.1 x c e rfl) ho (I.freeC x c e)
 ·obtain⟨e,n,ne,nf,d⟩:=I.pin p hp
  have nch:p.1 ∉ ch:=fun z=>(hch p.1 z).2.2.2 p hp rfl;exact⟨keep p.1 p.2 ne nf nch e n,free p.1 p.2 nch e n,ne,nf,d⟩
theorem Inv.un {t':Aj}(I:Inv X pins σ H s)(u:Un X.fs [] H H' s.heap h')(hok:HOk X.prog X.w H' h'):Inv X pins σ H' { s with heap:=h',toks:=t' }:=by
 obtain⟨m,⟨o,es,ep,ho,r⟩,_⟩:=id I.loc;obtain⟨sl,hL⟩:=u.any ho I.free (by simp)
 exact I.step (g':=s.gens) (d':=s.drawn) (ch:=[]) (fun _ z=>nomatch z) (fun b o _ hb _ e n=>u.keep b o e n hb (by simp)) (fun b o _ hb _ e n=>u.slot b o e n hb (by simp)) (fun b o _ e n=>u.free b o e n (by simp)) (fun b o _ e=>u.there b o e (by simp)) u.tups u.frzs u.tbls (fun m' hm=>by
  obtain⟨o',es',ep',ho',r'⟩:=hm;rw[ho] at ho';cases ho';exact⟨_,es',ep',hL,r'⟩) hok I.bare
theorem Inv.call {t':Aj}{d':Drawn}{ch:Aa Af}(I:Inv X pins σ H s)(u:Un (frs X.stack) ch H H' s.heap h')(hok:HOk X.prog X.w H' h')(hg:Lq g')
  (hch:∀ b∈ch,(b∈X.ex∨X.s₀.heap.objs.size≤b)∧b≠X.env.locals∧(∀ x c,X.env.cells.lookup x=Ab c→c≠b)∧∀ p∈X.pn++pins,p.1≠b) :
  Inv X pins σ H' { s with heap:=h',gens:=g',drawn:=d',toks:=t' }:=by
 obtain⟨m,⟨o,es,ep,ho,r⟩,_⟩:=id I.loc;obtain⟨sl,hL⟩:=u.any ho I.free fun z=>(hch _ z).2.1 rfl;exact I.step (ch:=ch) hch (fun b o hL hb hc e n=>u.keep b o e n (fun z=>(Ay.mp (I.stkSub b z)).elim hL hb) hc) (fun b o _ _ hc e n=>u.any e n hc) (fun b o hc e n=>u.free b o e n hc) (fun b o hc e=>u.there b o e hc) u.tups u.frzs u.tbls (fun m' hm=>by
  obtain⟨o',es',ep',ho',r'⟩:=hm;rw[ho] at ho';cases ho';exact⟨_,es',ep',hL,r'⟩) hok hg
theorem Inv.turned {t':Aj}{it:Af}(I:Inv X pins σ H s)(k:∀ b o,b≠it→s.heap.get? b=Ab o→h'.get? b=Ab o)(hn:H it=none)(hL:it≠X.env.locals)
  (h1:it∈X.ex∨X.s₀.heap.objs.size≤it) (h2:∀ x c,X.env.cells.lookup x=Ab c→c≠it) (h3:∀ p∈X.pn++pins,p.1≠it):Inv X pins σ H { s with heap:=h',toks:=t' }:=by
 have nit:∀ b u,H b=Ab u→b≠it:=fun b u e z=>by rw[z,hn] at e;cases e
 refine I.step (g':=s.gens) (d':=s.drawn) (ch:=[it]) (fun b hb=>?_) (fun b o _ _ hc e _=>k b o (fun z=>hc (by simp[z])) e) (fun b o _ _ hc e _=>⟨o.slots,k b o (fun z=>hc (by simp[z])) e⟩) (fun _ _ _ _ n=>n)
  (fun b o hc e=>⟨o,k b o (fun z=>hc (by simp[z])) e⟩) (fun _ _ e=>e) (fun _ _ _ e=>e) (fun b ps e=>⟨#[],by rw[e];simp⟩) (fun m hm=>?_) (fun b u e=>?_) I.bare
 ·have e:b=it:=by simpa using hb
  subst e;exact⟨h1,hL,h2,h3⟩
 ·obtain⟨o,es,ep,ho,r⟩:=hm
  exact⟨o,es,ep,k _ o (Fx hL) ho,r⟩
 ·refine(I.hok b u e).stay (fun c v hc q=>k c v ?_ q) (fun _ q=>q) fun _ _ q=>q
  rcases hc with z|z
  ·rw[z];exact nit b u e
  ·exact nit c _ z
theorem Inv.tok (I:Inv X pins σ H s)(t:Aj):Inv X pins σ H { s with toks:=t }:=I.un (h':=s.heap) (t':=t) Un.refl I.hok
theorem Inv.kept {t':Aj}(I:Inv X pins σ H s)(k:∀ b u,s.heap.get? b=Ab u→h'.get? b=Ab u):Inv X pins σ H { s with heap:=h',toks:=t' }:=I.un (Un.kept k) (I.hok.kept k)
theorem Inv.laid {a:Af}{o:HO}{t':Aj}(I:Inv X pins σ H s)(k:∀ b u,s.heap.get? b=Ab u→h'.get? b=Ab u)(hp:s.heap.objs.size≤a)(new:zA X.prog X.w (upd H a o) h' a o) :
  Inv X pins σ (upd H a o) { s with heap:=h',toks:=t' }:=I.un (Un.laid k hp (I.hok.fresh hp)) (I.hok.laid k hp new)
theorem Inv.write {x e:Af}{o:HO}{t':Aj}(I:Inv X pins σ H s)(mu:Mut (H x))(he:e=x∨H e=Ab (.own x))(k:∀ b u,b≠e→s.heap.get? b=Ab u→h'.get? b=Ab u)(heo:∃ u,h'.get? e=Ab u)
  (new:zA X.prog X.w (upd H x o) h' x o):Inv X pins σ (upd H x o) { s with heap:=h',toks:=t' }:=I.un (Un.write mu he k heo) (I.hok.write mu he k heo new)
theorem Inv.pins_of {pins':Aa (Af × Cg)}(I:Inv X pins σ H s)(h:∀ p∈pins',s.heap.get? p.1=Ab p.2∧H p.1=none∧p.1≠X.env.locals∧p.1 ∉ X.fs∧∀ v,p.2.data≠.cell v):Inv X pins' σ H s:=
 ⟨I.ok,I.os,I.bare,I.base,I.loc,I.cell,I.free,I.freeC,fun p hp=>(Co.mp hp).elim (fun z=>I.pin p (Dd _ z)) (h p),I.hok,I.len⟩
theorem f9 {N:Aa As}(hN:N.Nodup){i j:Aj}{x:As}(a:N[i]? = Ab x)(b:N[j]? = Ab x):i=j:=by
 obtain⟨h1,e1⟩:=Av.mp a;obtain⟨h2,e2⟩:=Av.mp b;exact(Lr hN).mp (e1.trans e2.symm)
theorem lP {A:Bu}{i:Aj}{x:As}{v:V}{u:Ac}(I:Inv X pins σ H s)(hN:X.N.Nodup)(hi:X.N[i]? = Ab x)(hx:Loc X.env.scope x)(r:qL v u)
  (h:∀ s',Inv X pins (σ.set i (Ab v)) H s'→(∃ a,En a s.heap s'.heap∧(a=X.env.locals∨X.env.cells.lookup x=Ab a))→Q () s') (hf:X.fn x=true∨X.env.scope.names.lookup x=Ab .local:=by first|exact .inl rfl|exact .inr rfl|assumption):Ao M A (storeName X.env x u) Q E s:=by
 obtain⟨m,hn,hl⟩:=id I.loc;have hcls:(X.env.scope.kind == .class||(X.env.scope.kind == .module&&X.env.locals != X.env.globals))=false:=by rw[I.ok.kind];rfl
 have hiσ:i<σ.length:=by rw[I.len];exact(Av.mp hi).1
 have cne:=I.cne;have tracked:∀ {a:Af} {h':Bk},(∃ o,s.heap.get? a=Ab o∧H a=none)→En a s.heap h'→HOk X.prog X.w H h':=fun {a h'} ha hs b ob e=>by
  obtain⟨_,_,hfree⟩:=ha;refine(I.hok b ob e).stay (fun c w' hc q=>(hs.2 c ?_).trans q) (fun _ q=>q) fun _ _ q=>q;rintro rfl;rcases hc with rfl|hc
  ·rw[hfree] at e;cases e
  ·rw[hfree] at hc;cases hc
 rcases hx with hk|hk
 ·refine wpAny_storeName_local hk hn (fun h' hn' hs=>?_) hcls
  obtain⟨oL,_,_,hoL,_⟩:=id hn;refine h _ ⟨I.ok,I.os,I.bare,⟨fun b o e n hb hx=>?_,fun b o e n hb hx=>?_,I.base.free,fun b o e hx=>?_,I.base.tups,I.base.frzs,I.base.tbls⟩,⟨_,hn',fun j y v' e1 e2 e3=>?_⟩,fun y c e=>?_,I.free,I.freeC,fun p hp=>?_,tracked ⟨oL,hoL,I.free⟩ hs,by simpa using I.len⟩ ⟨_,hs,.inl rfl⟩
  ·exact(hs.2 b (Cd (Bf (Ax e) I.ok.above))).trans (I.base.keep b o e n hb hx)
  ·obtain⟨sl,e1⟩:=I.base.slot b o e n hb hx
   exact⟨sl,(hs.2 b (Cd (Bf (Ax e) I.ok.above))).trans e1⟩
  ·obtain⟨o',e1⟩:=I.base.there b o e hx
   exact⟨o',(hs.2 b (Cd (Bf (Ax e) I.ok.above))).trans e1⟩
  ·by_cases hj:j=i
   ·subst hj
    rw[hi] at e1;cases e1;rw[Cw hiσ] at e2;cases e2;exact⟨u,r,.inl ⟨hk,by simp⟩⟩
   ·rw[Bz (Fx hj)] at e2
    obtain⟨u',r',q⟩:=hl j y v' e1 e2 e3;refine⟨u',r',?_⟩;rcases q with⟨k,e⟩|⟨k,c,e,z⟩
    ·refine .inl ⟨k,?_⟩
     have:y≠x:=fun e=>hj (f9 hN e1 (e▸hi));simp[this,e]
    ·exact .inr ⟨k,c,e,z.sameBut hs (cne y c e)⟩
  ·obtain⟨w',z⟩:=I.cell y c e
   exact⟨w',z.sameBut hs (cne y c e)⟩
  ·obtain⟨e,n,ne,nf,d⟩:=I.pin p hp
   exact⟨(hs.2 p.1 ne).trans e,n,ne,nf,d⟩
 ·have hfn:X.fn x=true:=by
   rcases hf with z|z
   ·exact z
   ·rw[z] at hk;cases hk
  obtain⟨c,hc⟩:=I.ok.has x (.inl hk);obtain⟨w',z⟩:=I.cell x c hc;refine wpAny_storeName_cell I.ok.kind hk hc z (fun h' hc' hs=>?_);obtain⟨oc,hoc,hocd⟩:=id z;refine h { s with heap:=h' } ⟨I.ok,I.os,I.bare,⟨fun b o e n hb hx=>?_,fun b o e n hb hx=>?_,I.base.free,fun b o e hx=>?_,I.base.tups,I.base.frzs,I.base.tbls⟩,⟨m,hn.sameBut hs (Fx (cne x c hc)),fun j y v' e1 e2 e3=>?_⟩,fun y c' e=>?_,I.free,I.freeC,fun p hp=>?_,tracked ⟨oc,hoc,I.freeC x c hc⟩ hs,by simpa using I.len⟩ ⟨c,hs,.inr hc⟩
  ·exact(hs.2 b (Cd (Bf (Ax e) (I.ok.cab x c hfn hc)))).trans (I.base.keep b o e n hb hx)
  ·obtain⟨sl,e1⟩:=I.base.slot b o e n hb hx
   exact⟨sl,(hs.2 b (Cd (Bf (Ax e) (I.ok.cab x c hfn hc)))).trans e1⟩
  ·obtain⟨o',e1⟩:=I.base.there b o e hx
   exact⟨o',(hs.2 b (Cd (Bf (Ax e) (I.ok.cab x c hfn hc)))).trans e1⟩
  ·by_cases hj:j=i
   ·subst hj
    rw[hi] at e1;cases e1;rw[Cw hiσ] at e2;cases e2;exact⟨u,r,.inr ⟨.inl hk,c,hc,hc'⟩⟩
   ·rw[Bz (Fx hj)] at e2
    obtain⟨u',r',q⟩:=hl j y v' e1 e2 e3;refine⟨u',r',?_⟩;rcases q with q|⟨k,c',e,z'⟩
    ·exact .inl q
    ·refine .inr ⟨k,c',e,z'.sameBut hs ?_⟩
     rintro rfl;exact hj (f9 hN e1 (I.ok.inj _ _ _ e hc▸hi))
  ·by_cases hcc:c'=c
   ·subst hcc;exact⟨_,hc'⟩
   ·obtain⟨w2,z2⟩:=I.cell y c' e
    exact⟨w2,z2.sameBut hs hcc⟩
  ·obtain⟨e,n,ne,nf,d⟩:=I.pin p hp
   refine⟨(hs.2 p.1 ?_).trans e,n,ne,nf,d⟩;intro q;rw[q,hoc] at e;have q':oc=p.2:=Cm e;exact d w' (by rw[← q'];exact hocd)
theorem uY {A:Bu}{i:Aj}{x:As}{v:V}{u:Ac}(I:Inv X pins σ H s)(hN:X.N.Nodup)(hi:X.N[i]? = Ab x)(hx:Loc X.env.scope x)(r:qL v u)
  (h:∀ s',Inv X pins (σ.set i (Ab v)) H s'→Q () s') (hf:X.fn x=true∨X.env.scope.names.lookup x=Ab .local:=by first|exact .inl rfl|exact .inr rfl|assumption):Ao M A (storeName X.env x u) Q E s:=
 lP I hN hi hx r (fun s' I' _=>h s' I') hf
theorem Inv.call' {s':Ag}{ch:Aa Af}(I:Inv X pins σ H s)(ho:s'.os=s.os)(u:Un (frs X.stack) ch H H' s.heap s'.heap)(hok:HOk X.prog X.w H' s'.heap)(hg:Lq s'.gens)
  (hch:∀ b∈ch,(b∈X.ex∨X.s₀.heap.objs.size≤b)∧b≠X.env.locals∧(∀ x c,X.env.cells.lookup x=Ab c→c≠b)∧∀ p∈X.pn++pins,p.1≠b):Inv X pins σ H' s':=by
 obtain⟨h',g',d',t',o'⟩:=s';have e:o'=s.os:=ho;subst e;exact I.call (g':=g') (t':=t') (d':=d') u hok hg hch
end
abbrev XK:=Ac→Am Af→Hp→Prop
abbrev St:=Aa (Am V)
abbrev VK:=V→Hp→Prop
abbrev TE:=St→Hp→VK→Prop
abbrev TT:=St→Hp→(Ar→Hp→Prop)→Prop
abbrev TA:=St→Hp→(Aa V→Hp→Prop)→Prop
structure Ends where
 nx:St→Hp→Prop
 rt:VK
 bk:St→Hp→Prop:=fun _ _=>Ev
 ct:St→Hp→Prop:=fun _ _=>Ev
abbrev TS:=Ends→St→Hp→Prop
inductive EP (X:Cx)(pins:Aa (Af × Cg))(σ : St)(Q:VK)(u:Ac)(s':Ag):Prop
 |mk (v:V) (H':Hp) (I:Inv X pins σ H' s') (r:qL v u) (q:Q v H'):EP X pins σ Q u s'
inductive TP (X:Cx)(pins:Aa (Af × Cg))(σ : St)(Q:Ar→Hp→Prop)(b:Ar)(s':Ag):Prop
 |mk (H':Hp) (I:Inv X pins σ H' s') (q:Q b H'):TP X pins σ Q b s'
inductive AP (X:Cx)(pins:Aa (Af × Cg))(σ : St)(Q:Aa V→Hp→Prop)(us:Aa Ac)(s':Ag):Prop
 |mk (vs:Aa V) (H':Hp) (I:Inv X pins σ H' s') (r:qJ vs us) (q:Q vs H'):AP X pins σ Q us s'
def SP (X:Cx)(pins:Aa (Af × Cg))(D:Ends)(f:Flow)(s':Ag):Prop:=
 match f with
 |.next=>∃ σ' H',Inv X pins σ' H' s'∧D.nx σ' H'
 |.brk=>∃ σ' H',Inv X pins σ' H' s'∧D.bk σ' H'
 |.cont=>∃ σ' H',Inv X pins σ' H' s'∧D.ct σ' H'
 |.ret u=>∃ v σ' H',Inv X pins σ' H' s'∧qL v u∧D.rt v H'
def PE (X:Cx)(e:Bp)(t:TE):Prop:=
 ∀ (pins:Aa (Af × Cg)) (s:Ag) (σ : St) (H:Hp) (Q:VK),Inv X pins σ H s→t σ H Q→Ao (Au X.prog X.w) X.A (eval e X.env) (EP X pins σ Q) X.xe s
def PT (X:Cx)(e:Bp)(t:TT):Prop:=
 ∀ (pins:Aa (Af × Cg)) (s:Ag) (σ : St) (H:Hp) (Q:Ar→Hp→Prop),Inv X pins σ H s→t σ H Q→Ao (Au X.prog X.w) X.A (isTrue e X.env (eval e X.env)) (TP X pins σ Q) X.xe s
def PW (X:Cx)(e:Bp)(t:TT):Prop:=
 ∀ (whole:Me Ac) (pins:Aa (Af × Cg)) (s:Ag) (σ : St) (H:Hp) (Q:Ar→Hp→Prop),Inv X pins σ H s→t σ H Q→Ao (Au X.prog X.w) X.A (isTrue e X.env whole) (TP X pins σ Q) X.xe s
def PA (X:Cx)(es:Aa Bp)(t:TA):Prop:=
 ∀ (pos:Ek) (pins:Aa (Af × Cg)) (s:Ag) (σ : St) (H:Hp) (Q:Aa V→Hp→Prop),Inv X pins σ H s→t σ H Q→Ao (Au X.prog X.w) X.A (spliced (Fq pos (Bi es X.env))) (AP X pins σ Q) X.xe s
def PS (X:Cx)(st:El)(t:TS):Prop:=
 ∀ (pins:Aa (Af × Cg)) (s:Ag) (σ : St) (H:Hp) (D:Ends),Inv X pins σ H s→t D σ H→Ao (Au X.prog X.w) X.A (exec st X.env) (SP X pins D) X.xe s
def PSs (X:Cx)(st:Aa El)(t:TS):Prop:=
 ∀ (pins:Aa (Af × Cg)) (s:Ag) (σ : St) (H:Hp) (D:Ends),Inv X pins σ H s→t D σ H→Ao (Au X.prog X.w) X.A (execs st X.env) (SP X pins D) X.xe s
theorem thn {α:Type}{t:Me α}{Q Q':α→Ag→Prop}{A:Bu}{s:Ag}(h:Ao M A t Q E s)(hQ:∀ a s,Q a s→Q' a s):Ao M A t Q' E s:=Gj h hQ fun _ _ x=>x
end _L
namespace _L
open PySem PySem.Spec PyProof.Rows
variable {pins:Aa (Af × Cg)}{u:Ac}{E Q:Ac→Ag→Prop}
section
variable {X:Cx}
theorem bin {a b:Bp}{ta tb:TE}(ha:PE X a ta)(hb:PE X b tb){pins:Aa (Af × Cg)}{s:Ag}{σ : St}{H:Hp}{R:V→V→Hp→Prop}(I:Inv X pins σ H s)(h:ta σ H fun x H1=>tb σ H1 fun y H2=>R x y H2)
  {α:Type} {Q:α→Ag→Prop} {f:Ac→Ac→Me α}
  (hf:∀ v u s2 x y H2,Inv X pins σ H2 s2→qL x v→qL y u→R x y H2→Ao (Au X.prog X.w) X.A (f v u) Q X.xe s2) :
  Ao (Au X.prog X.w) X.A (eval a X.env) (fun v s₁=>Ao (Au X.prog X.w) X.A (eval b X.env) (fun u s₂=>Ao (Au X.prog X.w) X.A (f v u) Q X.xe s₂) X.xe s₁) X.xe s:=by
 refine thn (ha pins s σ H _ I h) fun v s1 ⟨x,H1,I1,r1,q1⟩=>?_;refine thn (hb pins s1 σ H1 _ I1 q1) fun u s2 ⟨y,H2,I2,r2,q2⟩=>?_;exact hf v u s2 x y H2 I2 r1 r2 q2
def D2 (i:Aj):TE:=fun σ H Q=>∃ v,σ[i]? = Ab (Ab v)∧Q v H
def tC (v:V):TE:=fun _ H Q=>Q v H
theorem ZM {i:Aj}{x:As}{pos:Ek}(hN:X.N[i]? = Ab x)(hv:Vis X.env.scope x)(hd:(x == ("__debug__" : As))=false:=by decide)(hcd:(x == ("__classdict__" : As))=false:=by decide):PE X (.Name x pos) (D2 i):=by
 intro pins s σ H Q I h;obtain⟨v,e,h⟩:=h;obtain⟨m,hn,hl⟩:=I.loc;obtain⟨u,r,l⟩:=hl i x v hN e hv;have fin:EP X pins σ Q u s:=⟨v,H,I,r,h⟩;rcases l with⟨hk,hm⟩|⟨hk,c,hc,hcell⟩
 ·exact Xi (wpAny_loadName_local I.ok.kind hk hn hm fin) hd
 ·rcases hk with hk|hk
  ·exact Xi (wpAny_loadName_cell I.ok.kind hk hc hcell fin) hd
  ·exact Xi (wpAny_loadName_free I.ok.kind hk hc hcell fin hcd) hd
theorem NN:PE X (.Constant (.int i) j pos) (tC (.int i)):=fun _ _ _ H _ I h=>wpAny_Constant_int ⟨.int i,H,I.tok _,⟨_,rfl⟩,h⟩
theorem RX:PE X (.Constant (.bool b) j pos) (tC (.bl b)):=fun _ _ _ H _ I h=>Constant_bool ⟨.bl b,H,I,rfl,h⟩
theorem NO:PE X (.Constant .none j pos) (tC .non):=fun _ _ _ H _ I h=>Constant_none ⟨.non,H,I,rfl,h⟩
theorem NQ:PE X (.Constant (.str x) j pos) (tC (.str x)):=fun _ _ _ H _ I h=>Calls.Constant_str ⟨.str x,H,I.tok _,⟨_,rfl⟩,h⟩
def Gl (X:Cx)(x:As):Prop:=X.env.kindOf x=Ab .globalImplicit
theorem uE {s:Ag}{σ:St}{H:Hp}{x:As}{pos:Ek}(I:Inv X pins σ H s)(hg:Gl X x)(hm:X.mg x=Ab u)(h:Q u s)
  (hd:(x == ("__debug__" : As))=false:=by decide):Ao (Au X.prog X.w) X.A (eval (.Name x pos) X.env) Q E s:=
 Ol I.ok.kind hg (Calls.loadGlobal_global (by rw[I.ok.glob];exact I.mod.glob.keeps I.bk) hm h) hd
theorem vT {s:Ag}{σ:St}{H:Hp}{x:As}{pos:Ek}(I:Inv X pins σ H s)(hg:Gl X x)(hm:X.mg x=none)(hv:Fl x=Ab u)(h:Q u s)
  (hn:x ≠ "__name__":=by decide) (hd:(x == ("__debug__" : As))=false:=by decide):Ao (Au X.prog X.w) X.A (eval (.Name x pos) X.env) Q E s:=by
 obtain⟨mb,h1,h2⟩:=I.mod.blt;exact Ol I.ok.kind hg (Calls.loadGlobal_builtin (by rw[I.ok.glob];exact I.mod.glob.keeps I.bk) hm (by rw[I.ok.blt];exact h1.keeps I.bk) ((h2 x hn).trans hv) h) hd
theorem GW {x:As}{v:V}{pos:Ek}(hg:Gl X x)(hm:X.mg x=Ab u)(r:qL v u)(hd:(x == ("__debug__" : As))=false:=by decide):PE X (.Name x pos) (tC v):=
 fun _ _ _ H _ I h=>uE I hg hm ⟨v,H,I,r,h⟩ hd
theorem GV {x:As}{v:V}{pos:Ek}(hg:Gl X x)(hm:X.mg x=none)(hv:Fl x=Ab u)(r:qL v u)(hn:x ≠ "__name__":=by decide)(hd:(x == ("__debug__" : As))=false:=by decide):PE X (.Name x pos) (tC v):=
 fun _ _ _ H _ I h=>vT I hg hm hv ⟨v,H,I,r,h⟩ hn hd
variable {a b:Bp}{ta tb:TE}{pos:Ek}
variable {tA tB':TT}{rest:Aa Bp}
theorem PD (ha:PT X a tA):PW X (.BoolOp .And [a] pos) tA:=by
 intro wh pins s σ H Q I h;refine isTrue_and (thn (ha pins s σ H Q I h) fun c s1 e=>?_);cases c with
 |true=>exact isTrue_and_nil e
 |false=>exact e
theorem L0 (ha:PT X a tA):PW X (.BoolOp .Or [a] pos) tA:=by
 intro wh pins s σ H Q I h;refine isTrue_or (thn (ha pins s σ H Q I h) fun c s1 e=>?_);cases c with
 |false=>exact isTrue_or_nil e
 |true=>exact e
theorem NP {t:TE}(h:PE X a t):PE X (.BoolOp op [a] pos) t:=fun pins s σ H Q I hw=>BoolOp_one (h pins s σ H Q I hw)
end
end _L
namespace _L
open PySem PySem.Spec PyProof.Rows
variable {es:Aa Bp}{K:Ai}{P:Be}{tg:Bp}{w:Bt}
def SqL (K:Ai)(H:Hp)(a:Af)(xs:Aa V):Prop:=
 Rd H a (.lst xs) ∨
  ∃ (o:Cg) (its:Bl Ac) (n:Aj),K.lookup a=Ab o∧o.cls=.type "list" ∧ o.dict=none∧o.data=.seq its n∧its.size≤sizeLine∧qJ xs its.toList
def SqT (K:Ai)(H:Hp)(a:Af)(xs:Aa V):Prop:=
 Rd H a (.tup xs) ∨
  ∃ (o:Cg) (its:Bl Ac) (n:Aj),K.lookup a=Ab o∧o.cls=.type "tuple" ∧ o.data=.seq its n∧its.size≤sizeLine∧qJ xs its.toList
def HC:Ac→Am V
 |.none=>Ab .non
 |.bool b=>Ab (.bl b)
 |.int i _=>Ab (.int i)
 |.str x _=>Ab (.str x)
 |.bytes b _=>Ab (.byt b)
 |.float b _=>Ab (.flt b)
 |.ref a=>Ab (.ref a)
 |.type n=>Ab (.ty n)
 |_=>none
theorem qL.abs {x:V}{u:Ac}(r:qL x u):HC u=Ab x:=by
 cases x with
 |non=>cases r;rfl
 |bl _=>cases r;rfl
 |int _=>obtain⟨t,rfl⟩:=r;rfl
 |str _=>obtain⟨t,rfl⟩:=r;rfl
 |byt _=>obtain⟨t,rfl⟩:=r;rfl
 |flt _=>obtain⟨t,rfl⟩:=r;rfl
 |ref _=>cases r;rfl
 |ty _=>cases r;rfl
theorem qL.inj {x y:V}{u:Ac}(r:qL x u)(q:qL y u):x=y:=Cm (r.abs.symm.trans q.abs)
theorem qJ.inj {xs ys:Aa V}{us:Aa Ac}(h:qJ xs us)(k:qJ ys us):xs=ys:=by
 induction h generalizing ys with
 |nil=>cases k;rfl
 |cons r t ih =>
  cases k with
  |cons r' t'=>rw[r.inj r',ih t']
section
variable {X:Cx}{pins:Aa (Af × Cg)}{σ : St}{H:Hp}{s:Ag}{a:Af}{xs ys:Aa V}
theorem SqL.of (h:H a=Ab (.lst xs)):SqL K H a xs:=.inl (.inl h)
theorem SqT.of (h:H a=Ab (.tup xs)):SqT K H a xs:=.inl (.inl h)
theorem Inv.list (I:Inv X pins σ H s)(h:SqL X.K H a xs):∃ its:Aa Ac,qJ xs its∧PlainL s.heap a its.toArray∧xs.length≤sizeLine:=by
 rcases h with h|⟨o,its,n,hk,hc,hd,hs,hz,r⟩
 ·obtain⟨z,its,n,r,e⟩:=h.ok I.hok
  exact⟨its,r,⟨_,n,e,rfl,rfl,rfl⟩,z⟩
 ·refine⟨its.toList,r,⟨o,n,I.kIn a o hk,hc,hd,by simpa using hs⟩,?_⟩
  have e:=r.length;simp only[Cz] at e;omega
theorem Inv.tuple (I:Inv X pins σ H s)(h:SqT X.K H a xs):∃ its:Aa Ac,qJ xs its∧Nm s.heap a its.toArray∧xs.length≤sizeLine:=by
 rcases h with h|⟨o,its,n,hk,hc,hs,hz,r⟩
 ·obtain⟨z,its,r,p⟩:=h.ok I.hok
  exact⟨its,r,p,z⟩
 ·refine⟨its.toList,r,⟨o,I.kIn a o hk,hc,n,by simpa using hs⟩,?_⟩
  have e:=r.length;simp only[Cz] at e;omega
theorem Inv.list_inj (I:Inv X pins σ H s)(h:SqL X.K H a xs)(h':SqL X.K H a ys):xs=ys:=by
 obtain⟨its,r,⟨o,n,e,_,_,d⟩,_⟩:=I.list h;obtain⟨its',r',⟨o',n',e',_,_,d'⟩,_⟩:=I.list h';rw[e] at e';cases e';rw[d] at d';injection d' with d1 _
 have:its=its':=by simpa using congrArg Yq d1
 subst this;exact r.inj r'
theorem Inv.tuple_inj (I:Inv X pins σ H s)(h:SqT X.K H a xs)(h':SqT X.K H a ys):xs=ys:=by
 obtain⟨its,r,⟨o,e,_,n,d⟩,_⟩:=I.tuple h;obtain⟨its',r',⟨o',e',_,n',d'⟩,_⟩:=I.tuple h';rw[e] at e';cases e';rw[d] at d';injection d' with d1 _
 have:its=its':=by simpa using congrArg Yq d1
 subst this;exact r.inj r'
end
abbrev Cx.wish (X:Cx)(E:Ac→Ag→Prop):Cx:={ X with xe:=E }
abbrev Cx.nox (X:Cx):Cx:=X.wish fun _ _=>Ev
theorem Cx.Ok.wish {X:Cx}(ok:X.Ok)(E:Ac→Ag→Prop):(X.wish E).Ok:=
 ⟨ok.mod,ok.kind,ok.glob,ok.blt,ok.above,ok.inj,ok.has,ok.cab,ok.hd,ok.frames,ok.stk,ok.exf,ok.bs,ok.bsz,ok.noex,ok.exfs,ok.funs,ok.frf⟩
theorem Cx.Ok.unwish {X:Cx}{E:Ac→Ag→Prop}(ok:(X.wish E).Ok):X.Ok:=
 ⟨ok.mod,ok.kind,ok.glob,ok.blt,ok.above,ok.inj,ok.has,ok.cab,ok.hd,ok.frames,ok.stk,ok.exf,ok.bs,ok.bsz,ok.noex,ok.exfs,ok.funs,ok.frf⟩
section
variable {X:Cx}{pins:Aa (Af × Cg)}{σ : St}{H:Hp}{s:Ag}{E:Ac→Ag→Prop}
theorem Inv.wish (I:Inv X pins σ H s)(E:Ac→Ag→Prop):Inv (X.wish E) pins σ H s:=⟨I.ok.wish E,I.os,I.bare,I.base,I.loc,I.cell,I.free,I.freeC,I.pin,I.hok,I.len⟩
theorem Inv.unwish (I:Inv (X.wish E) pins σ H s):Inv X pins σ H s:=⟨I.ok.unwish,I.os,I.bare,I.base,I.loc,I.cell,I.free,I.freeC,I.pin,I.hok,I.len⟩
theorem SP.unwish {D:Ends}{f:Flow}{s':Ag}(h:SP (X.wish E) pins D f s'):SP X pins D f s':=by
 cases f with
 |next=>obtain⟨σ',H',I,q⟩:=h;exact⟨σ',H',I.unwish,q⟩
 |brk=>obtain⟨σ',H',I,q⟩:=h;exact⟨σ',H',I.unwish,q⟩
 |cont=>obtain⟨σ',H',I,q⟩:=h;exact⟨σ',H',I.unwish,q⟩
 |ret u=>obtain⟨v,σ',H',I,r,q⟩:=h;exact⟨v,σ',H',I.unwish,r,q⟩
theorem PE.nox {e:Bp}{t:TE}(h:PE X.nox e t):PE X e t:=fun pins s σ H Q I hw =>
 Gj (h pins s σ H Q (I.wish _) hw) (fun _ _ ⟨v,H',I',r,q⟩=>⟨v,H',I'.unwish,r,q⟩) fun _ _ z=>An z
theorem PT.nox {e:Bp}{t:TT}(h:PT X.nox e t):PT X e t:=fun pins s σ H Q I hw =>
 Gj (h pins s σ H Q (I.wish _) hw) (fun _ _ ⟨H',I',q⟩=>⟨H',I'.unwish,q⟩) fun _ _ z=>An z
theorem PSs.nox {st:Aa El}{t:TS}(h:PSs X.nox st t):PSs X st t:=fun pins s σ H D I hw =>
 Gj (h pins s σ H D (I.wish _) hw) (fun _ _ q=>q.unwish) fun _ _ z=>An z
end
section
variable {X:Cx}{st:El}{rest:Aa El}{t u:TS}{e:Bp}{te:TE}{pos:Ek}
def EF:TS:=fun D σ H=>D.nx σ H
def A0 (t u:TS):TS:=fun D σ H=>t { D with nx:=u D } σ H
theorem P9:PSs X [] EF:=fun _ _ σ H _ I h=>Ka ⟨σ,H,I,h⟩
theorem V7 (h1:PS X st t)(h2:PSs X rest u):PSs X (st::rest) (A0 t u):=by
 intro pins s σ H D I h;refine Vt (thn (h1 pins s σ H { D with nx:=u D } I h) fun f s1 q=>?_)
 cases f with
 |next =>
  obtain⟨σ',H',I',q⟩:=q;exact h2 pins s1 σ' H' D I' q
 |ret v=>exact q
 |brk=>exact q
 |cont=>exact q
theorem PC (h1:PS X st t):PSs X [st] t:=by
 intro pins s σ H D I h;refine Vt (thn (h1 pins s σ H D I h) fun f s1 q=>?_);cases f with
 |next=>exact Ka q
 |ret v=>exact q
 |brk=>exact q
 |cont=>exact q
theorem Inv.quiet {pins:Aa (Af × Cg)}{σ:St}{H:Hp}{s:Ag}(I:Inv X pins σ H s):interactive X.env=false:=by simp[interactive,I.ok.kind]
end
abbrev TG:=V→St→Hp→(St→Hp→Prop)→Prop
abbrev TGs:=Aa V→St→Hp→(St→Hp→Prop)→Prop
def PG (X:Cx)(target:Bp)(t:TG):Prop:=
 ∀ (pins:Aa (Af × Cg)) (s:Ag) (σ : St) (H:Hp) (v:V) (u:Ac) (Q:St→Hp→Prop),Inv X pins σ H s→qL v u→t v σ H Q →
  Ao (Au X.prog X.w) X.A (assign target X.env u) (fun _ s'=>∃ σ' H',Inv X pins σ' H' s'∧Q σ' H') X.xe s
def PGs (X:Cx)(ts:Aa Bp)(t:TGs):Prop:=
 ∀ (pins:Aa (Af × Cg)) (s:Ag) (σ : St) (H:Hp) (vs:Aa V) (us:Aa Ac) (Q:St→Hp→Prop),Inv X pins σ H s→qJ vs us→t vs σ H Q →
  Ao (Au X.prog X.w) X.A (Sr ((Gk ts X.env).map (·.2)) us) (fun _ s'=>∃ σ' H',Inv X pins σ' H' s'∧Q σ' H') X.xe s
abbrev BY:=V→V→V→Hp→(Hp→Prop)→Prop
def dP (X:Cx)(t:BY):Prop:=
 ∀ (pins:Aa (Af × Cg)) (s:Ag) (σ : St) (H:Hp) (o i v:V) (ov iv u:Ac) (Q:Hp→Prop),Inv X pins σ H s→qL o ov→qL i iv→qL v u→t o i v H Q →
  Ao (Au X.prog X.w) X.A (Yb ov iv u) (fun _ s'=>∃ H',Inv X pins σ H' s'∧Q H') X.xe s
section
variable {X:Cx}{pos:Ek}
def SS (i:Aj):TG:=fun v σ H Q=>Q (σ.set i (Ab v)) H
theorem GX {i:Aj}{x:As}(hN:X.N.Nodup)(hi:X.N[i]? = Ab x)(hx:Loc X.env.scope x)(hf:X.fn x=true∨X.env.scope.names.lookup x=Ab .local:=by first|exact .inl rfl|exact .inr rfl|assumption):PG X (.Name x pos) (SS i):=by
 intro pins s σ H v u Q I r h;exact Ur (uY I hN hi hx r (fun s' I'=>⟨_,H,I',h⟩) hf)
def HS:TGs:=fun vs σ H Q=>vs=[]∧Q σ H
def SR (t:TG)(u:TGs):TGs:=fun vs σ H Q=>∃ v r,vs=v::r∧t v σ H fun σ' H'=>u r σ' H' Q
theorem GY:PGs X [] HS:=by
 intro pins s σ H vs us Q I r h;obtain⟨e,h⟩:=h;subst e;cases r;exact Us ⟨σ,H,I,h⟩
theorem V4 {e:Bp}{t:TG}{u:TGs}(h1:PG X e t)(h2:PGs X es u)
  (hs:(Gk (e::es) X.env).map (·.2)=assign e X.env::(Gk es X.env).map (·.2):=by rfl):PGs X (e::es) (SR t u):=by
 intro pins s σ H vs us Q I r h;obtain⟨v,vr,e1,h⟩:=h;subst e1;cases r with
 |cons r rr =>
  rw[hs];refine Oa (thn (h1 pins s σ H _ _ _ I r h) fun _ s1 ⟨σ1,H1,I1,q1⟩=>?_);exact h2 pins s1 σ1 H1 _ _ Q I1 rr q1
def HU (K:Ai)(n:Aj)(t:TGs):TG:=fun v σ H Q=>∃ a xs,v=.ref a∧SqT K H a xs∧xs.length=n∧t xs σ H Q
theorem NS {k:Aj}{t:TGs}{n:Aj}(hc:X.calm=true)(h:PGs X es t)
  (hn:(Gk es X.env).length=n:=by rfl) (hst:(Gk es X.env).findIdx? (·.1)=none:=by rfl):PG X (.Tuple es k pos) (HU X.K n t):=by
 intro pins s σ H v u Q I r hw;obtain⟨a,xs,e1,hq,hl,hw⟩:=hw;subst e1;cases r;obtain⟨its,rv,ht,hz⟩:=I.tuple hq;refine assign_Tuple_tuple (I.ok.hd hc) ht (by simp[hn,← hl,rv.length]) hst fun h' hx=>?_
 have I1:Inv X pins σ H { s with heap:=h' }:=I.kept (t':=s.toks) fun b o e=>hx b o (Cd (Ax e)) e
 exact h pins _ σ H xs _ Q I1 (by simpa using rv) hw
def CZ (i j:Aj)(ta:TA):TS:=fun D σ H=>ta σ H fun vs H1=>∃ v w,vs=[v,w]∧D.nx ((σ.set i (Ab v)).set j (Ab w)) H1
theorem NW {i j:Aj}{x y:As}{a b:Bp}{ta:TA}{px py pt:Ek} {kt k2 pt2} (hc:X.calm=true) (hN:X.N.Nodup) (hi:X.N[i]? = Ab x) (hj:X.N[j]? = Ab y) (hij:i≠j)
  (hx:X.env.scope.names.lookup x=Ab .local) (hy:X.env.scope.names.lookup y=Ab .local) (ha:PA X [a,b] ta)
  (hw:Js [.Tuple [.Name x px,.Name y py] kt pt] (.Tuple [a,b] k2 pt2) X.env=pure (Ab [x,y]))
  (hs:Jt [.Tuple [.Name x px,.Name y py] kt pt] (.Tuple [a,b] k2 pt2) pos.line X.env=pure false:=by rfl) :
  PS X (.Assign [.Tuple [.Name x px,.Name y py] kt pt] (.Tuple [a,b] k2 pt2) pos) (CZ i j ta):=by
 intro pins s σ H D I h;rw[exec_Assign_arm];refine Ad (Ox ?_);rw[hs];refine Ad (Ak ?_);rw[Bn (by decide)]
 refine Ad (Tuple_ (thn (ha _ pins s σ H _ I h) fun us s1 ⟨vs,H1,I1,r1,q1⟩=>?_));obtain⟨v,w,e1,q1⟩:=q1;subst e1;obtain⟨u1,u2,rfl,rv,rw'⟩:∃ u1 u2,us=[u1,u2]∧qL v u1∧qL w u2:=by
  cases r1 with
  |cons p q =>
   cases q with
   |cons p' q' =>
    cases q';exact⟨_,_,rfl,p,p'⟩
 refine Dl ?_ (by show 2≤sizeLine;decide)
 have I2:Inv X pins σ H1 { s1 with heap:=s1.heap.push { cls:=.type "tuple",data:=.seq [u1,u2].toArray } }:=I1.kept (t':=s1.toks) fun b o e=>Ah _ e
 rw[hw];refine Ad (Ak ?_);show Ao (Au X.prog X.w) X.A (do rule "assign.swapped-stores";let items ← unpackItems (.ref s1.heap.objs.size) 2 none;Sr [fun v=>Tt X.env y v,fun v=>Tt X.env x v] items.reverse;pure Flow.next) _ _ _
 refine Ad (Ju (Ad (unpackItems_tuple (items:=#[u1,u2]) (I.ok.hd hc) (Ut s1.heap _) fun h' hx'=>?_)));have I3:=I2.kept (h':=h') (t':=s1.toks) fun b o e=>hx' b o (Cd (Ax e)) e;show Ao _ _ (Sr [fun v=>Tt X.env y v,fun v=>Tt X.env x v] [u2,u1] >>= fun _=>pure Flow.next) _ _ _;refine Ad (Oa (wpAny_bindName (uY I3 hN hj (.inl hy) rw' (fun s2 I4=>?_) (.inr hy))));refine Oa (wpAny_bindName (uY I4 hN hi (.inl hx) rv (fun s3 I5=>Us (Ak ?_)) (.inr hx)));rw[List.set_comm _ _ (Fx hij)] at I5;exact⟨_,H1,I5,q1⟩
end
section
variable {X:Cx}{pos:Ek}
def D3 (c:TT)(tb:TS):TS:=fun D σ H=>∃ W:Aj→St→Hp→Prop,(∃ m,W m σ H)∧∀ m σ H,W m σ H →
 c σ H fun b H1=>if b=true then ∃ N:St→Hp→Prop,(∀ σ' H',N σ' H'→∃ m',m'<m∧W m' σ' H')∧tb { D with nx:=N,ct:=N,bk:=D.nx } σ H1 else D.nx σ H1
theorem V6 {c:Bp}{body:Aa El}{tc:TT}{tb:TS}(hp:Ml (Au X.prog X.w) X.A X.env X.xe)(hc:PT X c tc)(hb:PSs X body tb):PS X (.While c body [] pos) (D3 tc tb):=by
 intro pins s σ H D I h;obtain⟨W,⟨m0,w0⟩,turn⟩:=h;refine wpAny_While (codeAny_whileLoop (fun n s'=>∃ σ' H',Inv X pins σ' H' s'∧W n σ' H') ?_ m0 ⟨σ,H,I,w0⟩);rintro n s1 ⟨σ1,H1,I1,w1⟩;refine Hz hp (thn (hc pins s1 σ1 H1 _ I1 (turn n σ1 H1 w1)) fun b s2 ⟨H2,I2,q2⟩=>?_);cases b with
 |true =>
  obtain⟨N,hN,q2⟩:=q2;rw[Bh rfl];refine Hz hp (thn (hb pins s2 σ1 H2 _ I2 q2) fun f s3 q3=>?_);cases f with
  |next =>
   obtain⟨σ3,H3,I3,n3⟩:=q3;obtain⟨m',hm,w3⟩:=hN σ3 H3 n3;exact⟨m',hm,σ3,H3,I3,w3⟩
  |cont =>
   obtain⟨σ3,H3,I3,n3⟩:=q3;obtain⟨m',hm,w3⟩:=hN σ3 H3 n3;exact⟨m',hm,σ3,H3,I3,w3⟩
  |brk=>exact q3
  |ret v=>exact q3
 |false =>
  rw[Bn Fp];exact Ka ⟨σ1,H2,I2,q2⟩
end
structure It where
 go:Aj→Hp→Prop
 yld:Aj→Hp→V→Hp→Prop
 stop:Aj→Hp→Prop
def xH (X:Cx)(pins:Aa (Af × Cg))(H:Hp)(b:Af):Prop:=
 H b=none∧b≠X.env.locals∧b ∉ X.fs∧(b∈X.ex∨X.s₀.heap.objs.size≤b)∧(∀ x c,X.env.cells.lookup x=Ab c→c≠b)∧∀ p∈X.pn++pins,p.1≠b
theorem Inv.fpOk {X:Cx}{pins:Aa (Af × Cg)}{σ:St}{H H':Hp}{s:Ag}{b:Af}(I:Inv X pins σ H s)(hb:s.heap.objs.size≤b)(hn:H' b=none):xH X pins H' b:=by
 refine⟨hn,Fn (Bf I.lt hb),I.nofs hb,.inr (Cr I.sz hb),fun x c e z=>?_,fun p hp z=>?_⟩
 ·obtain⟨v,q⟩:=I.cell x c e
  exact absurd (Bf q.lt (by rw[z];exact hb)) (Ea _)
 ·exact absurd (Bf (Ax (I.pin p hp).1) (by rw[z];exact hb)) (Ea _)
structure Turn (P:Be)(w:Bt)(K:Ai)(tg:Bp)(J:It)(fp:Aa Af)(it:Af)(tn:Aj→Bk→Prop):Prop where
 mem:it∈fp
 obj:∀ i h,tn i h→∀ b∈fp,∃ o,h.get? b=Ab o∧∀ v,o.data≠.cell v
 keep:∀ i h h',tn i h→(∀ b∈fp,∀ o,h.get? b=Ab o→h'.get? b=Ab o)→tn i h'
 item:∀ (X:Cx),X.prog=P→X.w=w→X.K=K→X.calm=true→∀ (i:Aj) (pins:Aa (Af × Cg)) (s:Ag) (σ : St) (H:Hp) (E:Ac→Ag→Prop),Inv X pins σ H s→(∀ b∈fp,xH X pins H b)→tn i s.heap→J.go i H →
  Ao (Au P w) X.A (Ky (.ref it)) (fun r s1=>∃ u,r=Ab u ∧
   Ao (Au P w) X.A (IN tg (.ref it) u) (fun _ s2=>∃ x H',Inv X pins σ H' s2∧qL x u∧J.yld i H x H'∧tn (i+1) s2.heap∧∀ b∈fp,H' b=none) E s1) E s
 done:∀ (X:Cx),X.prog=P→X.w=w→X.K=K→X.calm=true→∀ (i:Aj) (pins:Aa (Af × Cg)) (s:Ag) (σ : St) (H:Hp) (E:Ac→Ag→Prop),Inv X pins σ H s→(∀ b∈fp,xH X pins H b)→tn i s.heap→J.stop i H →
  Ao (Au P w) X.A (Ky (.ref it)) (fun r s1=>r=none∧Inv X pins σ H s1) E s
 self:∀ (A:Bu) (i:Aj) (s:Ag) (Q:Ac→Ag→Prop) (E:Ac→Ag→Prop),tn i s.heap→Q (.ref it) s→Ao (Au P w) A (Mv (.ref it)) Q E s
abbrev TI:=St→Hp→(It→Hp→Prop)→Prop
inductive PIE (X:Cx)(pins:Aa (Af × Cg))(σ : St)(tg:Bp)(R:It→Hp→Prop)(itv:Ac)(s2:Ag):Prop
 |mk (it:Af) (fp:Aa Af) (tn:Aj→Bk→Prop) (J:It) (H':Hp) (e:itv=.ref it) (I:Inv X pins σ H' s2) (t:Turn X.prog X.w X.K tg J fp it tn) (z:tn 0 s2.heap) (f:∀ b∈fp,xH X pins H' b) (q:R J H'):PIE X pins σ tg R itv s2
def PI (X:Cx)(tg iter:Bp)(wi:TI):Prop:=
 ∀ (pins:Aa (Af × Cg)) (s:Ag) (σ : St) (H:Hp) (R:It→Hp→Prop),Inv X pins σ H s→wi σ H R →
  Ao (Au X.prog X.w) X.A (eval iter X.env) (fun v s1=>Ao (Au X.prog X.w) X.A (Mv v) (PIE X pins σ tg R) X.xe s1) X.xe s
theorem iF {M:Ls}{A:Bu}{E:Ac→Ag→Prop}{s:Ag}{it:Af}{u:Ac}{o:Cg}{n:Ed}{vs:Bl Ac}{Q:Ow→Ag→Prop}(ho:s.heap.get? it=Ab o)(hc:o.cls=.type n)(hd:o.data=.fields vs)
    (hn:["enumerate","zip","dict_itemiterator","dict_reverseitemiterator","odict_iterator","itertools.zip_longest","itertools.pairwise"].contains n=false) (hQ:Q () s):Ao M A (IN tg (.ref it) u) Q E s:=by
  unfold IN;cases tg <;> first
    |exact Ak hQ
    |(cases u <;> first
        |exact Ak hQ
        | (refine Ad (wpAny_load ho ?_)
           rw[hc,hd];show Ao M A (if (["enumerate","zip","dict_itemiterator","dict_reverseitemiterator","odict_iterator","itertools.zip_longest","itertools.pairwise"].contains n&&vs[0]? == Ab (Ft _))=true then _ else _) Q E s
           rw[Bn (by intro h;rw[hn,Gc] at h;cases h)]
           exact Ak hQ))
def Itl (K:Ai)(a:Af):It:=
 ⟨fun i H=>∃ xs x,SqL K H a xs∧xs[i]? = Ab x,fun i H x H'=>H'=H∧∀ xs,SqL K H a xs→xs[i]? = Ab x,fun i H=>∃ xs,SqL K H a xs∧xs.length≤i⟩
def Itt (K:Ai)(a:Af):It:=
 ⟨fun i H=>∃ xs x,SqT K H a xs∧xs[i]? = Ab x,fun i H x H'=>H'=H∧∀ xs,SqT K H a xs→xs[i]? = Ab x,fun i H=>∃ xs,SqT K H a xs∧xs.length≤i⟩
def Itr (lo:Al)(n:Aj):It:=⟨fun i _=>i<n,fun i H x H'=>H'=H∧x=.int (lo+i),fun i _=>n≤i⟩
theorem lS (a it:Af):Turn P w K tg (Itl K a) [it] it (fun i h=>h.IsListIter it a i) where
 mem:=by simp
 obj:=fun i h st b hb=>by
  have e:b=it:=by simpa using hb
  subst e;obtain⟨o,e,c,d⟩:=st;exact⟨o,e,fun v z=>by rw[d] at z;cases z⟩
 keep:=fun i h h' st k=>st.at fun o e=>k it (by simp) o e
 item:=by
  intro X hP hw hK hc i pins s σ H E I hf st hg;subst hP hw hK;obtain⟨xs,x,hq,hx⟩:=hg;obtain⟨its,rv,p,hz⟩:=I.list hq;obtain⟨u,hu,ru⟩:=rv.get hx;obtain⟨f0,f1,f2,f3,f4,f5⟩:=hf it (by simp)
  refine wpAny_pyNext_list_item st p.isList (x:=u) (by simpa using hu) fun h' st' sb=>?_
  have I1:Inv X pins σ H { s with heap:=h' }:=I.turned (t':=s.toks) (fun b o hb e=>(sb.2 b hb).trans e) f0 f1 f3 f4 f5
  obtain⟨o,e,c,d⟩:=id st';exact⟨u,rfl,iF (s:={ s with heap:=h' }) e c d (by decide) ⟨x,H,I1,ru,⟨rfl,fun ys hy=>by rw[I.list_inj hy hq];exact hx⟩,st',fun b hb=>(hf b hb).1⟩⟩
 done:=by
  intro X hP hw hK hc i pins s σ H E I hf st hg;subst hP hw hK;obtain⟨xs,hq,hx⟩:=hg;obtain⟨its,rv,p,hz⟩:=I.list hq;obtain⟨f0,f1,f2,f3,f4,f5⟩:=hf it (by simp)
  have hl:=rv.length;exact wpAny_pyNext_list_end (I.ok.hd hc) st p.isList (by simp;omega) fun h' eb=>⟨rfl,I.turned (t':=s.toks) (fun b o hb e=>eb b o hb e) f0 f1 f3 f4 f5⟩
 self:=fun _ _ _ _ _ st h=>wpAny_pyIter_listiter st h
theorem o6 (a it:Af):Turn P w K tg (Itt K a) [it] it (fun i h=>h.IsTupleIter it a i) where
 mem:=by simp
 obj:=fun i h st b hb=>by
  have e:b=it:=by simpa using hb
  subst e;obtain⟨o,e,c,d⟩:=st;exact⟨o,e,fun v z=>by rw[d] at z;cases z⟩
 keep:=fun i h h' st k=>st.at fun o e=>k it (by simp) o e
 item:=by
  intro X hP hw hK hc i pins s σ H E I hf st hg;subst hP hw hK;obtain⟨xs,x,hq,hx⟩:=hg;obtain⟨its,rv,p,hz⟩:=I.tuple hq;obtain⟨u,hu,ru⟩:=rv.get hx;obtain⟨f0,f1,f2,f3,f4,f5⟩:=hf it (by simp)
  refine wpAny_pyNext_tuple_item st (show s.heap.IsTuple a its.toArray from p) (x:=u) (by simpa using hu) fun h' st' sb=>?_
  have I1:Inv X pins σ H { s with heap:=h' }:=I.turned (t':=s.toks) (fun b o hb e=>(sb.2 b hb).trans e) f0 f1 f3 f4 f5
  obtain⟨o,e,c,d⟩:=id st';exact⟨u,rfl,iF (s:={ s with heap:=h' }) e c d (by decide) ⟨x,H,I1,ru,⟨rfl,fun ys hy=>by rw[I.tuple_inj hy hq];exact hx⟩,st',fun b hb=>(hf b hb).1⟩⟩
 done:=by
  intro X hP hw hK hc i pins s σ H E I hf st hg;subst hP hw hK;obtain⟨xs,hq,hx⟩:=hg;obtain⟨its,rv,p,hz⟩:=I.tuple hq;obtain⟨f0,f1,f2,f3,f4,f5⟩:=hf it (by simp)
  have hl:=rv.length;exact wpAny_pyNext_tuple_end (I.ok.hd hc) st (show s.heap.IsTuple a its.toArray from p) (by simp;omega) fun h' eb=>⟨rfl,I.turned (t':=s.toks) (fun b o hb e=>eb b o hb e) f0 f1 f3 f4 f5⟩
 self:=fun _ _ _ _ _ st h=>wpAny_pyIter_tupleiter st h
theorem o4 (it:Af)(lo:Al)(n:Aj):Turn P w K tg (Itr lo n) [it] it (fun i h=>IsRangeIter h it (lo+(i:Aj)*1) ((n:Al)-(i:Aj)) 1) where
 mem:=by simp
 obj:=fun i h st b hb=>by
  have e:b=it:=by simpa using hb
  subst e;exact⟨_,st,fun v z=>by
   have z':Data.fields _=Data.cell v:=z;cases z'⟩
 keep:=fun i h h' st k=>k it (by simp) _ st
 item:=by
  intro X hP hw hK hc i pins s σ H E I hf st hg;subst hP hw hK;obtain⟨f0,f1,f2,f3,f4,f5⟩:=hf it (by simp)
  have W:=Walks.range (prog:=X.prog) (w:=X.w) (I.ok.hd hc) it lo 1 n;refine W.item i s _ _ hg st fun v h' tk hv st' kk=>?_;obtain⟨t,rfl⟩:=hv;have I1:Inv X pins σ H { s with heap:=h',toks:=tk }:=I.turned (fun b o hb e=>kk b o (by simpa using hb) e) f0 f1 f3 f4 f5
  refine⟨_,rfl,iF (s:={ s with heap:=h',toks:=tk }) (n:="range_iterator") st' rfl rfl (by decide) ⟨.int (lo+i),H,I1,⟨t,?_⟩,⟨rfl,rfl⟩,st',fun b hb=>(hf b hb).1⟩⟩
  rw[Int.mul_one]
 done:=by
  intro X hP hw hK hc i pins s σ H E I hf st hg;subst hP hw hK;obtain⟨f0,f1,f2,f3,f4,f5⟩:=hf it (by simp)
  exact wpAny_pyNext_range_end (I.ok.hd hc) st (by have:n≤i:=hg;omega) fun h' eb=>⟨rfl,I.turned (t':=s.toks) (fun b o hb e=>eb b o hb e) f0 f1 f3 f4 f5⟩
 self:=fun _ _ _ _ _ st h=>wpAny_pyIter_rangeiter st h
end _L
namespace _L
open PySem PySem.Spec PyProof.Rows
variable {pins:Aa (Af × Cg)}{fp:Aa Af}{s:Ag}{H:Hp}{σ:St}
section
variable {X:Cx}{tg:Bp}
theorem rK {R:It→Hp→Prop}{E:Ac→Ag→Prop}{lo hi:Al}{t u v:OQ}{tk:Aj}(I:Inv X pins σ H s)(h1 : -(2 ^ 62)≤lo)(h2:lo<2 ^ 62)(h3 : -(2 ^ 62)≤hi)(h4:hi<2 ^ 62)
  (q:R (Itr lo (hi-lo).toNat) H):Ao (Au X.prog X.w) X.A (Mv (.ref s.heap.objs.size)) (PIE X pins σ tg R) E { s with heap:=s.heap.push { cls:=.type "range",data:=.fields #[.int lo t,.int hi u,.int 1 v] },toks:=tk }:=by
 refine wpAny_pyIter_range (IsRange.new ..) (small_one h1 h2 h3 h4) ?_;have I1:Inv X pins σ H { s with heap:=s.heap.push { cls:=.type "range",data:=.fields #[.int lo t,.int hi u,.int 1 v] },toks:=tk }:=I.kept fun b o e=>Ah _ e
 refine⟨(s.heap.push { cls:=.type "range",data:=.fields #[.int lo t,.int hi u,.int 1 v] }).objs.size,[(s.heap.push { cls:=.type "range",data:=.fields #[.int lo t,.int hi u,.int 1 v] }).objs.size],_,_,H,rfl,
  I1.kept (t':=tk) fun b o e=>Ah _ e,o4 _ lo (hi-lo).toNat,?_,fun b hb=>?_,q⟩
 ·have e1:lo+((0:Aj):Al)*1=lo:=by simp
  have e2:(((hi-lo).toNat:Aj):Al)-((0:Aj):Al)=Yr lo hi 1:=by rw[rangeSize_one];split <;> omega
  show IsRangeIter _ _ (lo+((0:Aj):Al)*1) ((((hi-lo).toNat:Aj):Al)-((0:Aj):Al)) 1;rw[e1,e2];exact Ba _ rfl
 ·have e:b=(s.heap.push { cls:=.type "range",data:=.fields #[.int lo t,.int hi u,.int 1 v] }).objs.size:=by simpa using hb
  subst e;exact I1.fpOk (Az _) (I1.hok.fresh (Az _))
def CV (wi:TI)(g:TG)(tb:TS):TS:=fun D σ H=>wi σ H fun J H1=>∃ W:Aj→Aj→St→Hp→Prop,(∃ m,W 0 m σ H1)∧∀ i m σ H,W i m σ H →
 (J.stop i H∧D.nx σ H)∨(J.go i H∧∃ N:St→Hp→Prop,(∀ σ' H',N σ' H'→∃ m',m'<m∧W (i+1) m' σ' H')∧∀ x H',J.yld i H x H'→g x σ H' fun σ2 H2=>tb { D with nx:=N,ct:=N,bk:=D.nx } σ2 H2)
def yX (fp:Aa Af)(h:Bk):Aa (Af × Cg):=fp.filterMap fun b=>(h.get? b).map fun o=>(b,o)
theorem uC {h:Bk}{b:Af}{o:Cg}(hb:b∈fp)(e:h.get? b=Ab o):(b,o)∈yX fp h:=Gg.mpr ⟨b,hb,by rw[e];rfl⟩
theorem lG {h:Bk}{p:Af × Cg}(hp:p∈yX fp h):p.1∈fp∧h.get? p.1=Ab p.2:=by
 obtain⟨b,hb,e⟩:=Gg.mp hp;cases q:h.get? b with
 |none=>rw[q] at e;cases e
 |some o =>
  rw[q] at e;have e':(b,o)=p:=Cm e;subst e';exact⟨hb,q⟩
theorem Inv.pinned (I:Inv X pins σ H s)(hf:∀ b∈fp,xH X pins H b)(ho:∀ b∈fp,∃ o,s.heap.get? b=Ab o∧∀ v,o.data≠.cell v):Inv X (pins++yX fp s.heap) σ H s:=
 I.pins_of fun p hp=>(Co.mp hp).elim (fun z=>I.pin p (Bv _ z)) fun z=>by
  obtain⟨hb,e⟩:=lG z;obtain⟨f0,f1,f2,_⟩:=hf p.1 hb;obtain⟨o,e',d⟩:=ho p.1 hb;rw[e] at e';cases e';exact⟨e,f0,f1,f2,d⟩
theorem Inv.unpinned {pl:Aa (Af × Cg)}(I:Inv X (pins++pl) σ H s):Inv X pins σ H s:=I.pins_of fun p hp=>I.pin p (Bv _ (Dd _ hp))
inductive ForI (X:Cx)(pins:Aa (Af × Cg))(fp:Aa Af)(tn:Aj→Bk→Prop)(W:Aj→Aj→St→Hp→Prop)(n:Aj)(s':Ag):Prop
 |mk (i:Aj) (σ' : St) (H':Hp) (I:Inv X pins σ' H' s') (t:tn i s'.heap) (f:∀ b∈fp,H' b=none) (w:W i n σ' H'):ForI X pins fp tn W n s'
theorem NV {iter:Bp}{body:Aa El}{wi:TI}{g:TG}{tb:TS}{pos:Ek}(hp:Ml (Au X.prog X.w) X.A X.env X.xe)(hc:X.calm=true)(hi:PI X tg iter wi)(hg:PG X tg g)(hb:PSs X body tb)
  (hs:∀ x,Fh iter X.env x=pure x:=by intro _;rfl):PS X (.For tg iter body [] pos) (CV wi g tb):=by
 intro pins s σ H D I h;refine wpAny_For (thn (hi pins s σ H _ I h) fun v s1 h1=>thn h1 fun itv s2 h2=>?_) hs;obtain⟨it,fp,tn,J,H2,e,I2,T,st2,f2,W,⟨m0,w0⟩,turn⟩:=h2;subst e;have stat:∀ {H':Hp},(∀ b∈fp,H' b=none)→∀ b∈fp,xH X pins H' b:=fun hn b hb=>⟨hn b hb,(f2 b hb).2⟩;refine codeAny_forLoop_any (ForI X pins fp tn W) ?_ m0 ⟨0,σ,H2,I2,st2,fun b hb=>(f2 b hb).1,w0⟩;rintro n s3 ⟨i,σ3,H3,I3,st3,fr3,w3⟩;rcases turn i n σ3 H3 w3 with⟨stop,qn⟩|⟨go,N,hN,step⟩
 ·refine Hz hp (thn (T.done X rfl rfl rfl hc i pins s3 σ3 H3 X.xe I3 (stat fr3) st3 stop) fun r s4 ⟨hr,I4⟩=>?_)
  subst hr;exact Ka ⟨σ3,H3,I4,qn⟩
 ·refine Hz hp (thn (T.item X rfl rfl rfl hc i pins s3 σ3 H3 X.xe I3 (stat fr3) st3 go) fun r s4 ⟨u,hr,h4⟩=>?_)
  subst hr;refine Hz hp (thn h4 fun _ s5 ⟨x,H5,I5,r5,y5,st5,fr5⟩=>?_);have I5':=I5.pinned (stat fr5) (T.obj _ _ st5);refine Hz hp (thn (hg _ s5 σ3 H5 x u _ I5' r5 (step x H5 y5)) fun _ s6 ⟨σ6,H6,I6,q6⟩=>?_);refine Hz hp (thn (hb _ s6 σ6 H6 _ I6 q6) fun f s7 q7=>?_);have again:∀ {σ7:St} {H7:Hp},Inv X (pins++yX fp s5.heap) σ7 H7 s7→N σ7 H7→∃ m,m<n∧ForI X pins fp tn W m s7:=fun {σ7 H7} I7 n7=>by
   obtain⟨m',hm,w7⟩:=hN σ7 H7 n7;refine⟨m',hm,i+1,σ7,H7,I7.unpinned,T.keep _ _ _ st5 fun b hb o e=>(I7.pin (b,o) (Bv _ (Bv _ (uC hb e)))).1,fun b hb=>?_,w7⟩;obtain⟨o,e,d⟩:=T.obj _ _ st5 b hb;exact(I7.pin (b,o) (Bv _ (Bv _ (uC hb e)))).2.1
  cases f with
  |next=>obtain⟨σ7,H7,I7,n7⟩:=q7;exact again I7 n7
  |cont=>obtain⟨σ7,H7,I7,n7⟩:=q7;exact again I7 n7
  |brk=>obtain⟨σ7,H7,I7,q7⟩:=q7;exact⟨σ7,H7,I7.unpinned,q7⟩
  |ret v=>obtain⟨x7,σ7,H7,I7,r7,q7⟩:=q7;exact⟨x7,σ7,H7,I7.unpinned,r7,q7⟩
end
end _L
namespace _L
open PySem PySem.Spec PyProof.Rows
variable {us:Aa Ac}{f:Ac→Ac→Me Ac}{g:Al→Al→Al}
abbrev R2:=V→V→Hp→VK→Prop
def OpR (X:Cx)(f:Ac→Ac→Me Ac)(r:R2):Prop:=
 ∀ (pins:Aa (Af × Cg)) (s:Ag) (σ : St) (H:Hp) (x y:V) (v u:Ac) (Q:VK),Inv X pins σ H s→qL x v→qL y u→r x y H Q →
  Ao (Au X.prog X.w) X.A (f v u) (EP X pins σ Q) X.xe s
def UnR (X:Cx)(f:Ac→Me Ac)(r:V→Hp→VK→Prop):Prop:=
 ∀ (pins:Aa (Af × Cg)) (s:Ag) (σ : St) (H:Hp) (x:V) (v:Ac) (Q:VK),Inv X pins σ H s→qL x v→r x H Q →
  Ao (Au X.prog X.w) X.A (f v) (EP X pins σ Q) X.xe s
def uZ (X:Cx)(f:Ac)(r:Aa V→Hp→VK→Prop):Prop:=
 ∀ (pins:Aa (Af × Cg)) (s:Ag) (σ : St) (H:Hp) (xs:Aa V) (us:Aa Ac) (Q:VK),Inv X pins σ H s→qJ xs us→r xs H Q →
  Ao (Au X.prog X.w) X.A (call f us) (EP X pins σ Q) X.xe s
def HA (X:Cx)(r:V→Hp→(Ar→Hp→Prop)→Prop):Prop:=
 ∀ (pins:Aa (Af × Cg)) (s:Ag) (σ : St) (H:Hp) (x:V) (v:Ac) (Q:Ar→Hp→Prop),Inv X pins σ H s→qL x v→r x H Q →
  Ao (Au X.prog X.w) X.A (truthy v) (TP X pins σ Q) X.xe s
def tOp (r:R2)(ta tb:TE):TE:=fun σ H Q=>ta σ H fun x H1=>tb σ H1 fun y H2=>r x y H2 Q
def rI (C:Al→Al→Prop)(g:Al→Al→V):R2:=fun x y H Q=>∃ i j,x=.int i∧y=.int j∧C i j∧Q (g i j) H
def rI0 (g:Al→Al→V):R2:=fun x y H Q=>∃ i j,x=.int i∧y=.int j∧Q (g i j) H
def rU (g:Al→V):V→Hp→VK→Prop:=fun x H Q=>∃ i,x=.int i∧Q (g i) H
section
variable {X:Cx}{a b c:Bp}{ta tb tc:TE}{pos:Ek}
theorem HG (ha:PE X a ta)(hb:PE X b tb){pins:Aa (Af × Cg)}{s:Ag}{σ : St}{H:Hp}{R:V→V→Hp→Prop}(I:Inv X pins σ H s)
  (h:ta σ H fun x H1=>tb σ H1 fun y H2=>R x y H2) {Q:Ac→Ag→Prop} {f:Ac→Ac→Me Ac}
  (hf:∀ v u s2 x y H2,Inv X pins σ H2 s2→qL x v→qL y u→R x y H2→Ao (Au X.prog X.w) X.A (f v u) Q X.xe s2) :
  Ao (Au X.prog X.w) X.A (eval a X.env) (fun v s₁=>Ao (Au X.prog X.w) X.A (eval b X.env) (fun u s₂=>Ao (Au X.prog X.w) X.A (f v u) Q X.xe s₂) X.xe s₁) X.xe s:=by
 refine thn (ha pins s σ H _ I h) fun v s1 ⟨x,H1,I1,r1,q1⟩=>?_;refine thn (hb pins s1 σ H1 _ I1 q1) fun u s2 ⟨y,H2,I2,r2,q2⟩=>?_;exact hf v u s2 x y H2 I2 r1 r2 q2
theorem opI {f:Ac→Ac→Me Ac}{C:Al→Al→Prop}
  (rule:∀ (i j:Al) (t u:OQ) (s:Ag) (Q:Ac→Ag→Prop) (E:Ac→Ag→Prop),C i j→Q (.int (g i j) s.toks) { s with toks:=s.toks+1 } → Ao (Au X.prog X.w) X.A (f (.int i t) (.int j u)) Q E s) :
  OpR X f (rI C fun i j=>.int (g i j)):=by
 intro pins s σ H x y v u Q I rx ry h;obtain⟨i,j,rfl,rfl,hc,q⟩:=h;obtain⟨t,rfl⟩:=rx;obtain⟨t',rfl⟩:=ry;exact rule i j t t' s _ _ hc ⟨.int (g i j),H,I.tok _,⟨_,rfl⟩,q⟩
theorem NF {f:Ac→Ac→Me Ac}
  (rule:∀ (i j:Al) (t u:OQ) (s:Ag) (Q:Ac→Ag→Prop) (E:Ac→Ag→Prop),Q (.int (g i j) s.toks) { s with toks:=s.toks+1 } → Ao (Au X.prog X.w) X.A (f (.int i t) (.int j u)) Q E s) :
  OpR X f (rI0 fun i j=>.int (g i j)):=by
 intro pins s σ H x y v u Q I rx ry h;obtain⟨i,j,rfl,rfl,q⟩:=h;obtain⟨t,rfl⟩:=rx;obtain⟨t',rfl⟩:=ry;exact rule i j t t' s _ _ ⟨.int (g i j),H,I.tok _,⟨_,rfl⟩,q⟩
theorem V0 {g:Al→Al→Ar}
  (rule:∀ (i j:Al) (t u:OQ) (s:Ag) (Q:Ac→Ag→Prop) (E:Ac→Ag→Prop),Q (.bool (g i j)) s→Ao (Au X.prog X.w) X.A (f (.int i t) (.int j u)) Q E s) :
  OpR X f (rI0 fun i j=>.bl (g i j)):=by
 intro pins s σ H x y v u Q I rx ry h;obtain⟨i,j,rfl,rfl,q⟩:=h;obtain⟨t,rfl⟩:=rx;obtain⟨t',rfl⟩:=ry;exact rule i j t t' s _ _ ⟨.bl (g i j),H,I,rfl,q⟩
def H0 (i j:Al):Prop:=0<j∧j<1073741824
def H8 (i j:Al):Prop:=0≤j∧j≤1000000∧i.natAbs<2 ^ 64
def XW (i j:Al):Prop:=(-(2 ^ 64)<i∧i<2 ^ 64)∨(-(2 ^ 64)<j∧j<2 ^ 64)
theorem XW.ok {i j:Al}(h:XW i j):IntMulOk i j:=by
 rcases h with⟨h1,h2⟩|⟨h1,h2⟩
 ·exact .of_left (intBits_le_64 h1 h2)
 ·exact .of_right (intBits_le_64 h1 h2)
theorem NG:OpR X (Dz .Add) (rI0 fun i j=>.int (i+j)):=NF fun _ _ _ _ _ _ _ q=>add_int q
theorem NL:OpR X (Dz .Sub) (rI0 fun i j=>.int (i-j)):=NF fun _ _ _ _ _ _ _ q=>sub_int q
theorem NJ:OpR X (Dz .Mult) (rI XW fun i j=>.int (i*j)):=opI fun _ _ _ _ _ _ _ hc q=>mul_int q hc.ok
theorem GT:OpR X (Dz .FloorDiv) (rI H0 fun i j=>.int (i/j)):=opI fun i j _ _ _ _ _ hc q=>by
 have h1:(0:Al)<j:=hc.1;have h2:j<1073741824:=hc.2;exact floordiv_int om (by rw[Int.fdiv_eq_ediv_of_nonneg i om];exact q) (.inl (PyProof.noPylong_small om))
theorem NI:OpR X (Dz .Mod) (rI (fun _ j=>0<j) fun i j=>.int (i % j)):=opI fun i j _ _ _ _ _ hc q=>by
 have h1:(0:Al)<j:=hc;exact mod_int' om (by rw[Int.fmod_eq_emod_of_nonneg i om];exact q)
theorem NK:OpR X (Dz .Pow) (rI H8 fun i j=>.int (i ^ j.toNat)):=opI fun _ _ _ _ _ _ _ hc q=>pow_int_small hc.1 hc.2.1 hc.2.2 q
theorem unI {f:Ac→Me Ac}{g:Al→Al}
  (rule:∀ (i:Al) (t:OQ) (s:Ag) (Q:Ac→Ag→Prop) (E:Ac→Ag→Prop),Q (.int (g i) s.toks) { s with toks:=s.toks+1 } → Ao (Au X.prog X.w) X.A (f (.int i t)) Q E s) :
  UnR X f (rU fun i=>.int (g i)):=by
 intro pins s σ H x v Q I rx h;obtain⟨i,rfl,q⟩:=h;obtain⟨t,rfl⟩:=rx;exact rule i t s _ _ ⟨.int (g i),H,I.tok _,⟨_,rfl⟩,q⟩
theorem D9:UnR X (Vu .USub) (rU fun i=>.int (-i)):=unI fun _ _ _ _ _ q=>neg_int q
end
section
variable {X:Cx}{a b c:Bp}{ta tb tc:TE}{pos:Ek}
theorem MI {pins:Aa (Af × Cg)}{σ:St}{H:Hp}{s:Ag}{Q:VK}{k k':Ar}(I:Inv X pins σ H s)(q:Q (.bl k) H)(e:k=k'):EP X pins σ Q (.bool k') s:=by
 subst e;exact⟨.bl k,H,I,rfl,q⟩
theorem RW:OpR X (Dc .Lt) (rI0 fun i j=>.bl (decide (i<j))):=V0 fun _ _ _ _ _ _ _ q=>lt_int q
theorem RV:OpR X (Dc .LtE) (rI0 fun i j=>.bl (decide (i≤j))):=V0 fun _ _ _ _ _ _ _ q=>le_int q
theorem RU:OpR X (Dc .GtE) (rI0 fun i j=>.bl (decide (j≤i))):=V0 fun _ _ _ _ _ _ _ q=>ge_int q
theorem NH:OpR X (Dc .Is) (fun x y H Q=>y=.non∧Q (.bl (decide (x=.non))) H):=by
 intro pins s σ H x y v u Q I rx ry h;obtain⟨rfl,q⟩:=h;cases ry;refine is_none_gen (MI I q ?_);cases x <;> first
  |(cases rx;rfl)
  |(obtain⟨t,rfl⟩:=rx;rfl)
theorem OpR.or {r r':R2}(h:OpR X f r)(h':OpR X f r'):OpR X f (fun x y H Q=>r x y H Q∨r' x y H Q):=by
 intro pins s σ H x y v u Q I rx ry q;rcases q with q|q
 ·exact h pins s σ H x y v u Q I rx ry q
 ·exact h' pins s σ H x y v u Q I rx ry q
theorem jT (b:Bp){op:Ss}(h:op≠.In:=by decide)(h2:op≠.NotIn:=by decide):Jv op b=false:=by
 have e1:(op == CmpOp.In)=false:=by cases op <;> first|rfl|exact absurd rfl h
 have e2:(op == CmpOp.NotIn)=false:=by cases op <;> first|rfl|exact absurd rfl h2
 cases b <;> simp[Jv,e1,e2]
def aS (K:Ai)(x:V)(H:Hp)(k:Ar):Prop:=
 match x with
 |.non=>k=false
 |.bl b=>k=b
 |.int i=>k=(i != 0)
 |.str y=>y.length≤sizeLine∧k=((y.length:Al) != 0)
 |.byt y=>y.size≤sizeLine∧k=((y.size:Al) != 0)
 |.ref p=>(∃ xs,SqL K H p xs∧k=!xs.isEmpty)∨(∃ xs,SqT K H p xs∧k=!xs.isEmpty)∨∃ kvs,H p=Ab (.dK kvs)∧k=!kvs.isEmpty
 |_=>Ev
theorem iH {κ:Type}{kvs:Aa (κ × V)}{vs:Aa (κ × Ac)}(r:KV kvs vs):(!vs.isEmpty)=!kvs.isEmpty:=by
 cases r <;> rfl
theorem fZ {xs:Aa V}{its:Aa Ac}(r:qJ xs its):(!its.toArray.isEmpty)=!xs.isEmpty:=by
 cases r <;> simp
theorem p7:(sizeLine:Aj)<2 ^ 63:=by rw[Ew];decide
theorem pA:HA X (fun x H Q=>∃ k,aS X.K x H k∧Q k H):=by
 intro pins s σ H x v Q I rx h;obtain⟨k,e,q⟩:=h;have hl:=p7;have hs:sizeLine=16777216:=Ew;cases x with
 |non =>
  cases rx;have e':k=false:=e;subst e';exact truthy_none ⟨H,I,q⟩
 |bl b =>
  cases rx;have e':k=b:=e;subst e';exact Uu ⟨H,I,q⟩
 |int i =>
  obtain⟨t,rfl⟩:=rx;have e':k=(i != 0):=e;subst e';exact PySem.P.truthy_int ⟨H,I,q⟩
 |str y =>
  obtain⟨t,rfl⟩:=rx;obtain⟨hy,e'⟩:y.length≤sizeLine∧k=((y.length:Al) != 0):=e;subst e';exact PySem.P.truthy_str om ⟨H,I.tok _,q⟩
 |byt y =>
  obtain⟨t,rfl⟩:=rx;obtain⟨hy,e'⟩:y.size≤sizeLine∧k=((y.size:Al) != 0):=e;subst e';exact PySem.W.truthy_bytes om ⟨H,I.tok _,q⟩
 |ref p =>
  cases rx;have e':(∃ xs,SqL X.K H p xs∧k=!xs.isEmpty)∨(∃ xs,SqT X.K H p xs∧k=!xs.isEmpty)∨∃ kvs,H p=Ab (.dK kvs)∧k=!kvs.isEmpty:=e;rcases e' with⟨xs,hx,e'⟩|⟨xs,hx,e'⟩|⟨kvs,hx,e'⟩
  ·subst e'
   obtain⟨its,r,pl,hz⟩:=I.list hx;have hlen:=r.length;exact wpAny_truthy_list pl.isList (by simp only[Aw];omega) ⟨H,I.tok _,by rw[fZ r];exact q⟩
  ·subst e'
   obtain⟨its,r,pl,hz⟩:=I.tuple hx;have hlen:=r.length;exact truthy_tuple pl (by simp only[Aw];omega) ⟨H,I.tok _,by rw[fZ r];exact q⟩
  ·subst e'
   obtain⟨hz,hS,vs,r,m⟩:kvs.length≤sizeLine∧(p == Io)=false∧∃ vs,KV kvs vs∧s.heap.DictOf (zI X.prog X.w) p vs:=I.hok p _ hx;have hlen:kvs.length=vs.length:=Paired.length r;exact wpAny_truthy_dict hS m om ⟨H,I.tok _,by rw[iH r];exact q⟩
 |_=>exact(show Ev from e).elim
theorem iR:OpR X (Dz .Add) (fun x y H Q=>∃ i j,x=.str i∧y=.str j∧i.length+j.length≤sizeLine∧Q (.str (i++j)) H):=by
 intro pins s σ H x y v u Q I rx ry h;obtain⟨i,j,rfl,rfl,hz,q⟩:=h;obtain⟨t,rfl⟩:=rx;obtain⟨t',rfl⟩:=ry;exact add_str (fun t' tk=>⟨.str (i++j),H,I.tok _,⟨_,rfl⟩,q⟩) hz
theorem jE {x:V}(r:qJ [x] us):∃ u,us=[u]∧qL x u:=by
 cases r with
 |cons r1 r2=>cases r2;exact⟨_,rfl,r1⟩
theorem dM {x y:V}(r:qJ [x,y] us):∃ u w',us=[u,w']∧qL x u∧qL y w':=by
 cases r with
 |cons r1 r2 =>
  cases r2 with
  |cons r3 r4=>cases r4;exact⟨_,_,rfl,r1,r3⟩
theorem nN:uZ X (.type "int") (fun xs H Q=>(∃ i,xs=[.int i]∧Q (.int i) H)∨∃ k,xs=[.bl k]∧Q (.int (if k then 1 else 0)) H):=by
 intro pins s σ H xs us Q I r h;rcases h with⟨i,rfl,q⟩|⟨k,rfl,q⟩
 ·obtain⟨u,rfl,t,rfl⟩:=jE r
  exact call_int_int ⟨.int i,H,I,⟨_,rfl⟩,q⟩
 ·obtain⟨u,rfl,r1⟩:=jE r
  cases r1;exact call_int_bool ⟨.int (if k then 1 else 0),H,I.tok _,⟨_,rfl⟩,q⟩
def BW (K:Ai)(x:V)(H:Hp)(n:Aj):Prop:=
 match x with
 |.str y=>y.length≤sizeLine∧n=y.length
 |.byt y=>y.size≤sizeLine∧n=y.size
 |.ref p=>(∃ xs,SqL K H p xs∧n=xs.length)∨∃ xs,SqT K H p xs∧n=xs.length
 |_=>Ev
theorem W1:uZ X (.builtin "len") (fun xs H Q=>∃ x n,xs=[x]∧BW X.K x H n∧Q (.int n) H):=by
 intro pins s σ H xs us Q I r h;obtain⟨x,n,rfl,e,q⟩:=h;obtain⟨u,rfl,rx⟩:=jE r;have hl:=p7;have hs:sizeLine=16777216:=Ew;cases x with
 |str y =>
  obtain⟨t,rfl⟩:=rx;obtain⟨hy,e'⟩:y.length≤sizeLine∧n=y.length:=e;subst e';exact len_str om ⟨.int _,H,I.tok _,⟨_,rfl⟩,q⟩
 |byt y =>
  obtain⟨t,rfl⟩:=rx;obtain⟨hy,e'⟩:y.size≤sizeLine∧n=y.size:=e;subst e';exact PySem.W.len_bytes om ⟨.int _,H,I.tok _,⟨_,rfl⟩,q⟩
 |ref p =>
  cases rx;have e':(∃ xs,SqL X.K H p xs∧n=xs.length)∨∃ xs,SqT X.K H p xs∧n=xs.length:=e;rcases e' with⟨xs,hx,e'⟩|⟨xs,hx,e'⟩
  ·subst e'
   obtain⟨its,r',pl,hz⟩:=I.list hx;have hlen:=r'.length;exact Calls.call_len_list pl.isList (by simp only[Aw];omega) ⟨.int xs.length,H,I.tok _,⟨_,by simp only[Aw];rw[hlen]⟩,q⟩
  ·subst e'
   obtain⟨its,r',pl,hz⟩:=I.tuple hx;have hlen:=r'.length;exact len_tuple pl (by simp only[Aw];omega) ⟨.int xs.length,H,I.tok _,⟨_,by simp only[Aw];rw[hlen]⟩,q⟩
 |_=>exact(show Ev from e).elim
end
end _L
namespace _L
open PySem PySem.Spec PyProof.Rows
variable {mA:As→Am Ac}
structure ObjM (h:Bk)(x dx C:Af)(mA:As→Am Ac):Prop where
 obj:h.get? x=Ab (Qi C dx)
 ns:h.Ns1 dx mA
 ne:dx≠x
set_option tactic.hygienic true in
theorem Z2 {h:Bk}{dx:Af}(n:h.Ns1 dx mA):∃ od,h.get? dx=Ab od∧∀ name,Rx name od=Ab (mA name):=by
 obtain⟨o,es,ep,ho,hd,hk,_,hm⟩:=n;refine⟨o,ho,fun name=>?_⟩;have e:=hm name;unfold nsFind findBy at e;rw[← Array.find?_toList] at e;unfold Rx;rw[hd];dsimp only
 split
 ·rename_i y q
  rw[q] at e;exact congrArg Ab e
 ·rename_i q
  rw[q] at e;have a:es.toList.any (·.refKey)=false:=by
   rw[List.any_eq_false];intro y hy;obtain⟨z,t,hkey⟩:=hk y (Mg.mp hy);simp[DictEntry.refKey,hkey]
  have a':¬ es.toList.any (·.refKey)=true:=by rw[a];exact Fp
  rw[Bn a'];exact congrArg Ab e
theorem ObjM.look {h:Bk}{x dx C:Af}(I:ObjM h x dx C mA):∃ od,PySem.W.InstAt h x (Qi C dx) C (Ab od)∧∀ name,Rx name od=Ab (mA name):=
 let ⟨od,ho,hl⟩:=Z2 I.ns
 ⟨od,⟨I.obj,rfl,rfl,ho⟩,hl⟩
theorem vA.some_of {v:V}{o:Am Ac}(r:vA (Ab v) o):∃ u,o=Ab u∧qL v u:=by
 cases o with
 |none=>exact(show Ev from r).elim
 |some u=>exact⟨u,rfl,r⟩
section
variable {P:Be}{w:Bt}{H H':Hp}{h h':Bk}{a C dx:Af}{fs fs':Aa (As × V)}
theorem KN (hok:HOk P w H h)(e:H a=Ab (.ins C dx fs)):∃ mA,ObjM h a dx C mA∧(∀ f,vA (fs.lookup f) (mA f))∧Yp mA (fs.map (·.1))∧fs.length≤1000∧H dx=Ab (.own a):=by
 obtain⟨d,z,ne,ob,mA,n,r,q⟩:=(show zA P w H h a (.ins C dx fs) from hok a _ e)
 exact⟨mA,⟨ob,n,ne⟩,r,q,z,d⟩
end
structure Cls (K:Ai)(C:Af):Prop where
 pg:Vv K C Str.empty=true
 hd:PySem.W.hasDictIn K C=true
 po:PySem.W.plainOver K C=true
 sa:Kz K (.ref C) "__setattr__" = Ab (Ab (.builtin "object.__setattr__"))
theorem Cls.get {K:Ai}{C:Af}(c:Cls K C)(f:As):Vv K C f=true:=c.pg
section
variable {X:Cx}{pins:Aa (Af × Cg)}{σ : St}{H:Hp}{s:Ag}{A:Bu}{E:Ac→Ag→Prop}{Q:Ac→Ag→Prop}{c:Ac}{b:Ar}
inductive TyOf (K:Ai)(H:Hp):V→Ac→Prop where
 |non:TyOf K H .non (.type "NoneType")
 |bl (x:Ar):TyOf K H (.bl x) (.type "bool")
 |int (i:Al):TyOf K H (.int i) (.type "int")
 |str (x:As):TyOf K H (.str x) (.type "str")
 |flt (x:UInt64):TyOf K H (.flt x) (.type "float")
 |lst {a:Af} {xs:Aa V} (e:H a=Ab (.lst xs)):TyOf K H (.ref a) (.type "list")
 |frz {a:Af} {o:Cg} {xs:Aa V} (e:H a=Ab (.frz o (.lst xs))):TyOf K H (.ref a) (.type "list")
 |tup {a:Af} {xs:Aa V} (e:H a=Ab (.tup xs)):TyOf K H (.ref a) (.type "tuple")
 |dK {a:Af} {kvs:Aa (Key × V)} (e:H a=Ab (.dK kvs)):TyOf K H (.ref a) (.type "dict")
 |dT {a:Af} {kvs:Aa (Aa Key × V)} (e:H a=Ab (.dT kvs)):TyOf K H (.ref a) (.type "dict")
 |ins {a C dx:Af} {fs:Aa (As × V)} (e:H a=Ab (.ins C dx fs)) (cl:Cls K C) (ha:Kz K (.ref C) "__class__" = Ab (Ab (.builtin "object.__class__")))
   (hn:Uv K (.builtin "object.__class__") "__get__" = Ab (Ab (.builtin "getset_descriptor.__get__"))) (htk:Wu K (.builtin "object.__class__")=Ab true)
   (hm:Su K C (.type "object")=Ab true):TyOf K H (.ref a) (.ref C)
theorem QL {x:V}{u t:Ac}(I:Inv X pins σ H s)(rx:qL x u)(ty:TyOf X.K H x t)(e:Jf X.K t c=Ab b)(h:∀ tk,Q (.bool b) { s with toks:=tk }) :
  Ao (Au X.prog X.w) A (call (.builtin "isinstance") [u,c]) Q E s:=by
 cases ty with
 |non=>cases (show u=Ez from rx);exact Ee Uw I.kIn Gm e (fun z=>nomatch z) h
 |bl y=>cases (show u=Fg y from rx);exact Ee Ux I.kIn Gm e (fun z=>nomatch z) h
 |int i=>obtain⟨t,q⟩:=(show ∃ t,u=Mj i t from rx);cases q;exact Ee Vw I.kIn Gm e (fun z=>nomatch z) h
 |str y=>obtain⟨t,q⟩:=(show ∃ t,u=Rc y t from rx);cases q;exact Ee Vx I.kIn Gm e (fun z=>nomatch z) h
 |flt y=>obtain⟨t,q⟩:=(show ∃ t,u=Zc y t from rx);cases q;exact Ee PySem.W.kitx_float I.kIn Gm e (fun z=>nomatch z) h
 |@lst a xs ea =>
  cases (show u=Cb a from rx)
  obtain⟨_,_,n,_,h1⟩:=(show zA X.prog X.w H s.heap a (.lst xs) from I.hok a _ ea)
  exact Ee Ib I.kIn ⟨_,h1,rfl⟩ e (fun z=>nomatch z) h
 |@frz a ob xs ea =>
  cases (show u=Cb a from rx)
  obtain⟨_,_,_,n,_,h1⟩:=(show zA X.prog X.w H s.heap a (.frz ob (.lst xs)) from I.hok a _ ea)
  exact Ee Ib I.kIn ⟨_,h1,rfl⟩ e (fun z=>nomatch z) h
 |@tup a xs ea =>
  cases (show u=Cb a from rx)
  obtain⟨_,_,_,p⟩:=(show zA X.prog X.w H s.heap a (.tup xs) from I.hok a _ ea)
  obtain⟨o,h1,h2,_⟩:=p;exact Ee Kn I.kIn ⟨o,h1,h2⟩ e (fun z=>nomatch z) h
 |@dK a kvs ea =>
  cases (show u=Cb a from rx)
  obtain⟨_,_,vs,_,p⟩:=(show zA X.prog X.w H s.heap a (.dK kvs) from I.hok a _ ea)
  obtain⟨o,es,ep,h1,h2,_⟩:=p;exact Ee Ld I.kIn ⟨o,h1,h2.1⟩ e (fun z=>nomatch z) h
 |@dT a kvs ea =>
  cases (show u=Cb a from rx)
  obtain⟨_,_,xs,_,o,es,ep,h1,h2,_⟩:=(show zA X.prog X.w H s.heap a (.dT kvs) from I.hok a _ ea)
  exact Ee Ld I.kIn ⟨o,h1,h2.1⟩ e (fun z=>nomatch z) h
 |@ins a C dx fs ea cl ha hn htk hm =>
  cases (show u=Cb a from rx)
  obtain⟨mA,O,_⟩:=KN I.hok ea;obtain⟨od,J,_⟩:=O.look;exact Ee (PySem.W.kitx_own (cl.get _) cl.hd ha hn htk hm) I.kIn J e (fun z=>nomatch z) h
end
end _L
namespace _L
open PySem PySem.Spec PyProof.Rows
variable {ps:Aa As}{K:Ai}{mg:As→Am Ac}{kindOf:As→Am Ha}{A:Bu}{scope:Ei}
structure Room (k:Aj)(A:Bu):Prop where
 hd:A.handled=none
 dp:A.depth+3*k+5<Nn
 un:A.units+16*k+200<Ex
 gd:A.guards=Ab []
theorem Room.deeper {k:Aj}(r:Room (k+1) A)(env:Ht):Room k (A.deeper env):=
 ⟨r.hd,by have:=r.dp;show A.depth+1+3*k+5<_;omega,by have:=r.un;show A.units+3+16*k+200<_;omega,r.gd⟩
theorem Room.depth {k:Aj}(r:Room k A):A.depth<Nn:=by have:=r.dp;omega
theorem Room.units {k:Aj}(r:Room k A):A.units+64<Ex:=by have:=r.un;omega
def CY:TA:=fun _ H Q=>Q [] H
section
variable {X:Cx}{e:Bp}{es:Aa Bp}{te:TE}{t:TA}{pos:Ek}
theorem NM:PA X [] CY:=fun _ _ _ _ H Q I h=>Oy ⟨[],H,I,.nil,h⟩
def A1 (t:TA):TE:=fun σ H Q=>t σ H fun xs H1=>xs.length≤sizeLine∧∀ p,H1 p=none→Q (.ref p) (upd H1 p (.tup xs))
def CW (t:TA):TE:=fun σ H Q=>t σ H fun xs H1=>xs.length≤sizeLine∧∀ p,H1 p=none→Q (.ref p) (upd H1 p (.lst xs))
theorem NR  (h:PA X es t):PE X (.Tuple es x1 pos) (A1 t):=by
 intro pins s σ H Q I hq;refine wpAny_Tuple_spliced (thn (h pos pins s σ H _ I hq) fun us s1 ⟨xs,H1,I1,r,z,q⟩=>⟨by rw[← r.length];exact z,?_⟩)
 have hf:H1 s1.heap.objs.size=none:=I1.hok.fresh (Az _);refine⟨.ref s1.heap.objs.size,upd H1 s1.heap.objs.size (.tup xs),I1.laid (t':=s1.toks) (fun b u e=>Ah _ e) (Az _) ?_,rfl,q _ hf⟩;exact⟨z,us,r,⟨_,Ba _ rfl,rfl,_,rfl⟩⟩
theorem ZL (h:PA X es t):PE X (.List es pos) (CW t):=by
 intro pins s σ H Q I hq;refine wpAny_List_spliced (thn (h pos pins s σ H _ I hq) fun us s1 ⟨xs,H1,I1,r,z,q⟩=>⟨by rw[← r.length];exact z,?_⟩)
 have hf:H1 s1.heap.objs.size=none:=I1.hok.fresh (Az _);refine⟨.ref s1.heap.objs.size,upd H1 s1.heap.objs.size (.lst xs),I1.laid (t':=s1.toks) (fun b u e=>Ah _ e) (Az _) ?_,rfl,q _ hf⟩;exact⟨z,us,0,r,Ba _ rfl⟩
end
abbrev Sp:=Aa V→Hp→VK→XK→Prop
abbrev CXT:=Aa Ht→Hp→Ag→XK→Ac→Ag→Prop
structure Env0 (P:Be)(w:Bt)(K:Ai)(mg:As→Am Ac)(base:Bk)(A:Bu)(outer:Aa Ht)(s:Ag)(H:Hp):Prop where
 frames:A.frames=Ab outer
 mod:Mod K mg base
 bs:∀ b o,base.get? b=Ab o→s.heap.get? b=Ab o∧H b=none
 bsz:base.objs.size≤s.heap.objs.size
 funs:s.heap.FunFrames base outer
 frf:∀ b∈frs outer,H b=none
 hok:HOk P w H s.heap
 bare:Lq s.gens
def CE (outer:Aa Ht)(P:Be)(w:Bt)(H:Hp)(s:Ag)(Q:VK)(u:Ac)(s':Ag):Prop:=
 ∃ v H',s'.os=s.os∧Lq s'.gens∧Un (frs outer) [] H H' s.heap s'.heap∧HOk P w H' s'.heap∧qL v u∧Q v H'
def CR (CX:CXT)(outer:Aa Ht)(P:Be)(w:Bt)(H:Hp)(s:Ag)(Q:VK)(E:XK)(r:Vy)(s':Ag):Prop:=
 match r with
 |.ok (.ret u)=>CE outer P w H s Q u s'
 |.ok _=>Ev
 |.error e=>CX outer H s E e s'
structure FnOk (P:Be)(w:Bt)(K:Ai)(mg:As→Am Ac)(base:Bk)(CX:CXT)(k:Aj)(f:Af)(fd:Fb)(ps:Aa As)(sp:Sp):Prop where
 len:∀ vs H Q E,sp vs H Q E→vs.length=ps.length
 run:∀ (A:Bu) (outer:Aa Ht) (s:Ag) (H:Hp) (args:Args) (us:Aa Ac) (vs:Aa V) (Q:VK) (E:XK),Room k A→Env0 P w K mg base A outer s H→Lu s fd args (ps.zip us)→qJ vs us→sp vs H Q E →
  Ic (Au P w) A (.call (.ref f) args) (CR CX outer P w H s Q E) s
section
variable {X:Cx}{pins:Aa (Af × Cg)}{σ : St}{H:Hp}{s s':Ag}
theorem Inv.env0 (I:Inv X pins σ H s):Env0 X.prog X.w X.K X.mg X.base X.A X.stack s H:=
 ⟨I.ok.frames,I.ok.mod,I.bs,Cr I.ok.bsz I.sz,I.stack,I.stkFree,I.hok,I.bare⟩
theorem Inv.after {Q:VK}{u:Ac}(I:Inv X pins σ H s)(h:CE X.stack X.prog X.w H s Q u s'):EP X pins σ Q u s':=by
 obtain⟨v,H',os,bare,un,hok,r,q⟩:=h;obtain⟨hh,g,d,t,os'⟩:=s';obtain rfl:os'=s.os:=os;exact⟨v,H',I.call (h':=hh) (g':=g) (d':=d) (t':=t) (ch:=[]) un hok bare (fun b z=>absurd z (by simp)),r,q⟩
end
def vL (K:Ai)(fd:Fb)(ps:Aa As)(ds:Aa Ac):Prop:=
 ∀ (s:Ag) (us:Aa Ac),K.In s.heap→(us++ds).length=ps.length→Lu s fd ⟨us,[]⟩ (ps.zip (us++ds))
theorem vL.all {fd:Fb}(h:∀ us:Aa Ac,us.length=ps.length→Qj fd ⟨us,[]⟩=pure (ps.zip us)):vL K fd ps []:=fun s us _ hl=>by
 rw[Gs] at hl ⊢;exact .of_eq (h us hl)
structure FnScope (N P:Aa As)(sc:Ei):Prop where
 kind:sc.kind=.function
 co:sc.isCoroutine=false
 gen:sc.isGenerator=false
 nd:N.Nodup
 pre:N.take P.length=P
 par:∀ x∈P,sc.names.lookup x=Ab .local ∨ sc.names.lookup x=Ab .cell
 nofree:∀ y∈sc.names,y.2≠.free
theorem nK {x:As}:∀ {binds:Aa (As × Ac)} {m:As→Am Ac},(∀ v,(x,v) ∉ binds)→Sv kindOf binds m x=m x
 |[],_,_=>rfl
 |(n,v)::r,m,h=>by
  unfold Sv;rw[nK fun w hw=>h w (By _ hw)]
  split
  ·have:x≠n:=by rintro rfl;exact h v Cn
   simp[this]
  ·rfl
theorem nH {x:As}:∀ {binds:Aa (As × Ac)} {m:As→Am Ac},(∀ v,(x,v) ∉ binds)→Sw kindOf binds m x=m x
 |[],_,_=>rfl
 |(n,v)::r,m,h=>by
  unfold Sw;rw[nH fun w hw=>h w (By _ hw)]
  split
  ·rfl
  ·have:x≠n:=by rintro rfl;exact h v Cn
   simp[this]
theorem nJ {x:As}{v:Ac}:∀ {P:Aa As} {vs:Aa Ac} {i:Aj} {m:As→Am Ac},P.Nodup→P[i]? = Ab x→vs[i]? = Ab v→kindOf x=Ab .local →
  Sv kindOf (P.zip vs) m x=Ab v
 |[],_,_,_,_,h,_,_=>by simp at h
 |_::_,[],_,_,_,_,h,_=>by simp at h
 |p::P,w::vs,0,m,nd,h1,h2,hk=>by
  simp at h1 h2;subst h1;subst h2;show Sv kindOf ((p,w)::P.zip vs) m p=_;unfold Sv;rw[nK fun v hv=>(IU.mp nd).1 (Kb hv).1,Bh hk];simp
 |p::P,w::vs,i+1,m,nd,h1,h2,hk=>by
  show Sv kindOf ((p,w)::P.zip vs) m x=_;unfold Sv;exact nJ (i:=i) (IU.mp nd).2 (by simpa using h1) (by simpa using h2) hk
theorem nG {x:As}{v:Ac}:∀ {P:Aa As} {vs:Aa Ac} {i:Aj} {m:As→Am Ac},P.Nodup→P[i]? = Ab x→vs[i]? = Ab v→kindOf x≠Ab .local →
  Sw kindOf (P.zip vs) m x=Ab v
 |[],_,_,_,_,h,_,_=>by simp at h
 |_::_,[],_,_,_,_,h,_=>by simp at h
 |p::P,w::vs,0,m,nd,h1,h2,hk=>by
  simp at h1 h2;subst h1;subst h2;show Sw kindOf ((p,w)::P.zip vs) m p=_;unfold Sw;rw[nH fun v hv=>(IU.mp nd).1 (Kb hv).1,Bn hk];simp
 |p::P,w::vs,i+1,m,nd,h1,h2,hk=>by
  show Sw kindOf ((p,w)::P.zip vs) m x=_;unfold Sw;exact nG (i:=i) (IU.mp nd).2 (by simpa using h1) (by simpa using h2) hk
def xV (N:Aa As)(vs:Aa V):St:=vs.map Ab++Ct (N.length-vs.length) none
def mZ (CX:CXT)(P:Be)(w:Bt)(K:Ai)(mg:As→Am Ac)(base:Bk)(N:Aa As)(qual:As)(scope:Ei)(f:Af)(cd:Ac)(A:Bu)(outer:Aa Ht)(s:Ag)(H:Hp)(E:XK):Cx where
 prog:=P
 w:=w
 K:=K
 mg:=mg
 base:=base
 A:=A.deeper (Fv qual scope s.heap.objs.size f cd)
 N:=N
 s₀:=s
 H₀:=H
 env:=Fv qual scope s.heap.objs.size f cd
 outer:=outer
 stack:=Fv qual scope s.heap.objs.size f cd::outer
 ex:=[]
 calm:=true
 fn:=fun _=>true
 pn:=[]
 xe:=fun e s'=>Ao (Au P w) (A.deeper (Fv qual scope s.heap.objs.size f cd)) (leaving (Fv qual scope s.heap.objs.size f cd) e) (fun _ s''=>CX outer H s E e s'') (fun e' s''=>CX outer H s E e' s'') s'
theorem dY {sc:Ei}{n:Aj}{x:As}(h:sc.names.lookup x=Ab .cell):∃ c,(Gw n sc.names []).lookup x=Ab c:=by
 have q:=IV sc.names n [] (.inl h);exact Ik.mp q
theorem nY {CX:CXT}{P:Be}{w:Bt}{base:Bk}{N:Aa As}{qual:As}{f:Af}{cd:Ac}{outer:Aa Ht}{s s1:Ag}{H:Hp}{E:XK}{us:Aa Ac}{vs:Aa V}
  (S:FnScope N ps scope) (hd:A.handled=none) (e0:Env0 P w K mg base A outer s H) (hl:vs.length=ps.length) (r:qJ vs us)
  (x:InCallC s s.heap.objs.size (Sv (Fv qual scope s.heap.objs.size f cd).kindOf (ps.zip us) fun _=>none) (Gw (s.heap.objs.size+1) scope.names []) (Sw (Fv qual scope s.heap.objs.size f cd).kindOf (ps.zip us) fun _=>none) s1) :
  Inv (mZ CX P w K mg base N qual scope f cd A outer s H E) [] (xV N vs) H s1:=by
 have hpl:ps.length≤N.length:=by have:=congrArg Rg S.pre;rw[Hm] at this;omega
 obtain⟨h1,tk,rfl,hk⟩:=x.done;have noA:∀ b:Af,b ∉ (mZ CX P w K mg base N qual scope f cd A outer s H E).ex:=fun b z=>absurd (show b∈([]:Aa Af) from z) (by simp)
 refine⟨⟨e0.mod,S.kind,rfl,rfl,Az _,fun y z c h1 h2=>?_,fun y hy=>?_,fun y c _ h=>?_,fun _=>hd,Mh e0.frames,.inr ⟨rfl,rfl⟩,fun b z=>absurd z (noA b),e0.bs,e0.bsz,fun b _ _=>noA b,fun b z=>absurd z (noA b),e0.funs,e0.frf⟩,
  rfl,e0.bare,Un.kept hk,⟨_,x.toInCall.ns,fun i y v h1 h2 h3=>?_⟩,fun y c h=>⟨_,x.cell y c h⟩,e0.hok.fresh (Az _),fun y c h=>?_,fun p hp=>absurd (show p∈([]:Aa (Af × Cg)) from hp) (by simp),e0.hok.kept hk,?_⟩
 ·exact name_of_addr x.apart (Ey h1) (Ey h2)
 ·have hy:scope.names.lookup y=Ab .cell∨scope.names.lookup y=Ab .free:=hy
  rcases hy with hy|hy
  ·exact dY hy
  ·exact absurd rfl (S.nofree _ (Ey hy))
 ·exact Fm (x.above y c (Ey h))
 ·have hi:i<vs.length:=by
   unfold xV at h2;by_cases hi:i<vs.length
   ·exact hi
   ·rw[Df (by simpa using hi)] at h2
    rw[Ks] at h2
    split at h2 <;> cases h2
  have ha:vs[i]? = Ab v:=by
   unfold xV at h2;rw[Bg (by simpa using hi),Dg] at h2
   cases e:vs[i]? with
   |none=>rw[e] at h2;cases h2
   |some a=>rw[e] at h2;cases h2;rfl
  obtain⟨u,hu,rv⟩:=r.get ha;have hp:ps[i]? = Ab y:=by
   rw[← S.pre,OR om];exact h1
  have ndP:ps.Nodup:=by rw[← S.pre];exact S.nd.sublist (List.take_sublist _ _)
  refine⟨u,rv,?_⟩;rcases S.par y (Bm hp) with k|k
  ·exact .inl ⟨k,nJ ndP hp hu k⟩
  ·obtain⟨c,e⟩:=dY (n:=s.heap.objs.size+1) k
   refine .inr ⟨.inl k,c,e,?_⟩;have q:=x.cell y c e;rw[nG ndP hp hu (by show scope.names.lookup y≠_;rw[k];decide)] at q
   exact q
 ·exact e0.hok.fresh (Fm (x.above y c (Ey h)))
 ·unfold xV
  show _=N.length;rw[Ca,Aq,List.length_replicate];omega
theorem SQ {CX:CXT}{P:Be}{w:Bt}{base:Bk}{k:Aj}{f:Af}{name qual:As}{params:Mm}{body:Aa El}{dV kV doc pm cdv ct oc:Ac}{an od:Am Af}
  {osl:Bl (Am Ac)} {N ps:Aa As} {sp:Sp} (lk:K.lookup f=Ab ⟨oc,od,.func (Gd name qual params body scope dV kV doc pm an cdv ct),osl⟩) (hcd:Jg K cdv qual=true) (S:FnScope N ps scope)
  (len:∀ vs H Q E,sp vs H Q E→vs.length=ps.length)
  (hbody:∀ (A:Bu) (outer:Aa Ht) (s:Ag) (H:Hp) (vs:Aa V) (Q:VK) (E:XK),Room k (A.deeper (Fv qual scope s.heap.objs.size f cdv))→sp vs H Q E →
   ∃ t,PSs (mZ CX P w K mg base N qual scope f cdv A outer s H E) body t∧t { nx:=fun _ H'=>Q .non H',rt:=Q } (xV N vs) H) :
  FnOk P w K mg base CX (k+1) f (Gd name qual params body scope dV kV doc pm an cdv ct) ps sp:=by
 refine⟨len,fun A outer s H args us vs Q E hr e0 hb r hsp=>?_⟩;have hl:=len _ _ _ _ hsp;have KX:K.In s.heap:=e0.mod.kin.keeps fun b o e=>(e0.bs b o e).1;have lim:s.heap.NoLimit:=e0.mod.nolimit.keeps fun b o e=>(e0.bs b o e).1;have hkind:∀ y∈ps.zip us,scope.names.lookup y.1=Ab .local ∨ (scope.names.lookup y.1=Ab .cell∧((Gw (s.heap.objs.size+1) scope.names []).lookup y.1).isSome=true):=fun ⟨n,v⟩ hy=>by
  rcases S.par n (Kb hy).1 with q|q
  ·exact .inl q
  ·exact .inr ⟨q,IV _ _ _ (.inl q)⟩
 refine Rh hr.depth (KX _ _ lk) rfl S.co S.gen rfl (Tw KX hcd) (hb _ _ _ _ ?_);refine Om S.kind hkind fun env he s1 x=>?_;subst he;refine⟨lim.keeps x.toInCall.keep,codeAny_func ?_⟩;obtain⟨t,ht,hq⟩:=hbody A outer s H vs Q E (hr.deeper _) hsp;have I:Inv (mZ CX P w K mg base N qual scope f cdv A outer s H E) [] (xV N vs) H s1:=nY S hr.hd e0 hl r x;refine Gj (ht [] s1 (xV N vs) H _ I hq) (fun fl s' hs=>?_) fun e s' hs=>hs;have fin:∀ {σ' : St} {H':Hp} {v:V} {u:Ac},Inv (mZ CX P w K mg base N qual scope f cdv A outer s H E) [] σ' H' s'→qL v u→Q v H'→CE outer P w H s Q u s':=
  fun {σ' H' v u} J rv q=>⟨v,H',J.os,J.bare,J.base,J.hok,rv,q⟩
 cases fl with
 |ret u =>
  obtain⟨v,σ',H',J,rv,q⟩:=hs;exact fin J rv q
 |next =>
  obtain⟨σ',H',J,q⟩:=hs;exact fin (v:=V.non) (u:=Ez) J rfl q
 |brk =>
  obtain⟨_,_,_,q⟩:=hs;exact An q
 |cont =>
  obtain⟨_,_,_,q⟩:=hs;exact An q
end _L
namespace _H
open PySem PyProof.Rows
variable {Q:Ac→Ag→Prop}{lo hi:Am Al}{items:Bl Ac}
def lexLt:Aa Al→Aa Al→Ar
 |[],[]=>false
 |[],_::_=>true
 |_::_,[]=>false
 |x::xs,y::ys=>if x=y then lexLt xs ys else decide (x<y)
theorem lexLt_cons (x y:Al)(xs ys:Aa Al):lexLt (x::xs) (y::ys)=if x=y then lexLt xs ys else decide (x<y):=rfl
theorem lU:lexLt [] []=false:=rfl
theorem tR (y:Al)(ys:Aa Al):lexLt [] (y::ys)=true:=rfl
theorem tQ (x:Al)(xs:Aa Al):lexLt (x::xs) [] = false:=rfl
theorem WY (A:Bu)(s:Ag)(a:Al)(t:OQ)(c:Al)(u:OQ):∃ e,SeqAt.EqAt A s (.int a t) (.int c u) e∧(e=true↔a=c):=
 ⟨(a == c),SeqAt.EqAt.int_int a t c u,by simp⟩
theorem VM (A:Bu)(s:Ag)(a:Al)(t:OQ)(c:Al)(u:OQ)(prog:Be)(w:Bt)(E:Ac→Ag→Prop)(Q:Ac→Ag→Prop)(h:Q (.bool (decide (a<c))) s) :
  Ao (Au prog w) A (richCompare .Lt (.int a t) (.int c u)) Q E s:=
 (Sx h:Ao (Au prog w) A (Dc .Lt (.int a t) (.int c u)) Q E s)
section
open PySem.SeqAt
open PySem.AutoSeq1 (wpAny_loadPart')
open PySem.MeetsSeq PySem.MeetsSeq2 PySem.MeetsSeq3
theorem lW (l b:Af)(items items2:Bl Ac)(n n2:Aj)(dd dd2:Am Af)(sl sl2:Bl (Am Ac))(ns ms:Aa Al)(hi:Ip items.toList ns)(hj:Ip items2.toList ms) :
  Meets (Hd.«tuple.__lt__» ⟨[.ref l,.ref b],[]⟩)
   (fun _ R s=>s.heap.get? l=Ab { cls:=.type "tuple",dict:=dd,data:=.seq items n,slots:=sl } ∧ s.heap.get? b=Ab { cls:=.type "tuple",dict:=dd2,data:=.seq items2 n2,slots:=sl2 } ∧
    R (.ok (.ret (.bool (lexLt ns ms)))) s):=
 .of_wp fun prog w A R s h=>by
  obtain⟨hp,g,d,tk,os⟩:=s;obtain⟨hl,hb,h⟩:=h;have f2:=AutoSeq1.sub_tuple_tuple;have z1:items.size=ns.length:=by rw[← hi.length];simp
  have z2:items2.size=ms.length:=by rw[← hj.length];simp
  wp_walk using wpAny_loadPart' hl,wpAny_loadPart' hb,Lv _ (fun rest b s'=>b.1=none∧s'=⟨hp,g,d,tk,os⟩∧∃ (vs ws:Aa Ac) (ns' ms':Aa Al),rest=vs.zip ws ∧
   Ip vs ns'∧Ip ws ms'∧ns'.length+items2.size=ms'.length+items.size∧R (.ok (.ret (.bool (lexLt ns' ms')))) ⟨hp,g,d,tk,os⟩) _
  case turn =>
   rintro⟨y,x⟩ rest b s' ⟨hb',rfl,vs,ws,ns',ms',hz,hvi,hwi,hlen,hR⟩;cases hvi with
   |nil=>rw[List.zip_nil_left] at hz;cases hz
   |cons a t hvi' =>
    cases hwi with
    |nil=>rw[List.zip_nil_right] at hz;cases hz
    |cons c u hwi' =>
     rw[Ob] at hz;injection hz with hyx hrest
     injection hyx with hy hx
     subst hy hx;rw[lexLt_cons] at hR;simp only[Cj] at hlen;obtain⟨e,he,hiff⟩:=WY A.in1 ⟨hp,g,d,tk,os⟩ a t c u;refine Ad (he prog w _ _ ?_);cases e with
     |true =>
      rw[Bh (hiff.mp rfl)] at hR
      wp_walk
      exact⟨rfl,rfl,_,_,_,_,hrest,hvi',hwi',by omega,hR⟩
     |false =>
      rw[Bn (fun q=>absurd (hiff.mpr q) Fp)] at hR;have hri:=VM A.in1 ⟨hp,g,d,tk,os⟩ a t c u prog w
      wp_walk using hri
      exact⟨_,rfl,by simpa using hR⟩
  case fin =>
   rintro⟨b1,b2⟩ s' ⟨hb',rfl,vs,ws,ns',ms',hz,hvi,hwi,hlen,hR⟩;simp only at hb';subst hb';have hv:lexLt ns' ms'=decide (items.size<items2.size):=by
    cases hvi with
    |nil =>
     cases hwi with
     |nil =>
      simp only[Et] at hlen;rw[lU];exact(Cq om).symm
     |cons c u hw =>
      simp only[Et,Cj] at hlen;rw[tR];exact(Cu om).symm
    |cons a t hv =>
     cases hwi with
     |nil =>
      simp only[Et,Cj] at hlen;rw[tQ];exact(Cq om).symm
     |cons c u hw =>
      rw[Ob] at hz;cases hz
   rw[hv] at hR
   wp_walk
   exact⟨_,rfl,by simpa [Vz] using hR⟩
  case h =>
   exact⟨rfl,rfl,items.toList,items2.toList,ns,ms,rfl,hi,hj,by omega,h⟩
end
section
variable {prog:Be}{w:Bt}{A:Bu}{E:Ac→Ag→Prop}{s:Ag}
theorem lt_tupInts {l b:Af}{items2:Bl Ac}{ns ms:Aa Al}(hl:Nm s.heap l items)(hb:Nm s.heap b items2)(hi:Ip items.toList ns)(hj:Ip items2.toList ms)
  (hu:A.units<Ex) (h:Q (.bool (lexLt ns ms)) s):Ao (Au prog w) A (Dc .Lt (.ref l) (.ref b)) Q E s:=by
 obtain⟨⟨cls,dd,data,sl⟩,ho,hc,n,hd⟩:=id hl;obtain⟨⟨cls2,dd2,data2,sl2⟩,ho2,hc2,n2,hd2⟩:=id hb;simp only at hc hd hc2 hd2;subst hc hd hc2 hd2;exact richCompare_meets_room (op:=.Lt) ⟨_,ho,rfl⟩ ⟨_,ho2,rfl⟩ PySem.F.slot_tuple_lt PySem.F.entry_tuple_lt (PySem.F.args_tuple_lt_2 _ _) (lW l b items items2 n n2 dd dd2 sl sl2 ns ms hi hj)
  ⟨ho,ho2,show Fg (lexLt ns ms)≠Value.notImplemented∧Q (.bool (lexLt ns ms)) s from⟨(fun x=>nomatch x),h⟩⟩ hu
theorem cat_tup {t b:Af}{vs ws:Aa Ac}(ht:Nm s.heap t vs.toArray)(hb:Nm s.heap b ws.toArray)(hv:vs≠[])
  (h1:ws=[]→Q (.ref t) s) (h2:ws≠[]→Q (.ref s.heap.objs.size) { s with heap:=s.heap.push { cls:=.type "tuple",data:=.seq (vs++ws).toArray } })
  (hsz:vs.length+ws.length≤sizeLine):Ao (Au prog w) A (Dz .Add (.ref t) (.ref b)) Q E s:=by
 obtain⟨⟨cls,dd,data,sl⟩,ho,hc,n,hd⟩:=id ht;obtain⟨⟨cls2,dd2,data2,sl2⟩,ho2,hc2,n2,hd2⟩:=id hb;simp only at hc hd hc2 hd2;subst hc hd hc2 hd2;have e:vs.toArray++ws.toArray=(vs++ws).toArray:=by simp
 by_cases hw:ws=[]
 ·exact Ue ⟨_,ho,rfl⟩ ⟨_,ho2,rfl⟩ Pc Sy Ll Kt (Kl _ _)
   (tuple_addW1 t b vs.toArray ws.toArray n n2 dd dd2 sl sl2 (by simpa using hv) (by simp[hw])) ⟨ho,ho2,h1 hw⟩
 ·refine Ue ⟨_,ho,rfl⟩ ⟨_,ho2,rfl⟩ Pc Sy Ll Kt (Kl _ _)
   (tuple_addW2 t b vs.toArray ws.toArray n n2 dd dd2 sl sl2 (by simpa using hv) (by simpa using hw) (by rw[Aw,Aw];exact hsz)) ⟨ho,ho2,?_⟩
  rw[e];exact h2 hw
def sIx (n d:Aj):Am Al→Aj
 |none=>d
 |some v=>if v<0 then (v+(n:Al)).toNat else min v.toNat n
theorem sIx_none (n d:Aj):sIx n d none=d:=rfl
theorem sIx_nat (n d k:Aj):sIx n d (Ab (k:Al))=min k n:=by
 show (if (k:Al)<0 then ((k:Al)+(n:Al)).toNat else min (k:Al).toNat n)=min k n
 rw[Bn om,Em]
theorem LR (n d:Aj)(hd:d≤n)(o:Am Al):sIx n d o≤n:=by
 cases o with
 |none=>exact hd
 |some v =>
  show (if v<0 then (v+(n:Al)).toNat else min v.toNat n)≤n
  by_cases hv:v<0
  ·rw[Bh hv];omega
  ·rw[Bn hv];exact Nat.min_le_right _ _
theorem eV (v:Al)(n d:Aj):(if v<0 then max (v+(n:Al)) 0 else min v (n:Al))=((sIx n d (Ab v):Aj):Al):=by
 show (if v<0 then max (v+(n:Al)) 0 else min v (n:Al))=(((if v<0 then (v+(n:Al)).toNat else min v.toNat n):Aj):Al)
 by_cases hv:v<0
 ·simp only[Bh hv];omega
 ·simp only[Bn hv];omega
theorem aW (lo hi:Am Al)(n:Aj):Fc lo hi 1 (n:Al)=(((sIx n 0 lo:Aj):Al),((sIx n n hi:Aj):Al)):=by
 have h1:¬ ((1:Al)<0):=by omega
 unfold Fc;simp only[h1,DL];refine Kc ?_ ?_
 ·cases lo with
  |none=>rfl
  |some v=>exact eV v n 0
 ·cases hi with
  |none=>rfl
  |some v=>exact eV v n n
theorem iS (i j:Aj):Fy (i:Al) (j:Al) 1=j-i:=by
 unfold Fy;have h1:(1:Al)>0:=by omega
 simp only[h1,Eb,Int.ediv_one]
 split <;> omega
theorem mQ {v:Ac}{o:Am Al}{Q:Am Al→Ag→Prop}(p:On v o)(h:Q o s):Ao (Au prog w) A (Xj v) Q E s:=by
 cases p with
 |none=>exact No h
 |int i t=>exact slicePart_int h
theorem uV {sl:Af}{vl vu:Ac}{n:Aj}{Q:Al × Al × Aj→Ag→Prop}(hs:s.heap.IsSliceOf sl vl vu .none)(pl:On vl lo)(pu:On vu hi)
  (h:Q (((sIx n 0 lo:Aj):Al),1,sIx n n hi-sIx n 0 lo) s):Ao (Au prog w) A (Hu (.ref sl) (pure (n:Al))) Q E s:=by
 obtain⟨os,hos,hcs,hds⟩:=id hs;unfold Hu O0;refine Ad (Ad (Do hos hds (x:=vl) rfl (Ad (Do hos hds (x:=vu) rfl (Ad (Do hos hds (x:=.none) rfl (Ak ?_)))))));refine Ad (No ?_);show Ao _ _ (if ((1:Al) == 0)=true then _ else _) _ _ s
 rw[Bn (by decide)]
 refine Ad (mQ pl (Ad (mQ pu (Ad (Ak ?_)))));show Ao _ _ (match Fc lo hi 1 (n:Al) with|(lo,hi)=>pure (lo,(1:Al),Fy lo hi 1)) _ _ s
 rw[aW lo hi n];show Ao _ _ (pure (((sIx n 0 lo:Aj):Al),(1:Al),Fy ((sIx n 0 lo:Aj):Al) ((sIx n n hi:Aj):Al) 1)) _ _ s;rw[iS];exact Ak h
theorem V5 (xs:Bl Ac)(i k:Aj):((Ce k).filterMap fun (m:Aj)=>xs[((i:Al)+(m:Al)*1).toNat]?).toArray=((xs.toList.drop i).take k).toArray:=by
 have e:(fun (m:Aj)=>xs[((i:Al)+(m:Al)*1).toNat]?)=fun m=>xs[i+m]?:=by
  funext m
  have:((i:Al)+(m:Al)*1).toNat=i+m:=by omega
  rw[this]
 rw[e];have:=pick_run xs i k;rw[List.filterMap_map] at this;have e2:((fun x=>xs[x]?)∘fun x=>i+x)=fun m=>xs[i+m]?:=rfl;rw[e2] at this;rw[this]
theorem getItem_tuple_cut {t sl:Af}{vl vu:Ac}(ht:Nm s.heap t items)(hs:s.heap.IsSliceOf sl vl vu .none)(pl:On vl lo)(pu:On vu hi)
  (hw:¬ (sIx items.size 0 lo=0∧sIx items.size items.size hi=items.size))
  (h:Q (.ref s.heap.objs.size) { s with heap:=s.heap.push { cls:=.type "tuple",data:=.seq ((items.toList.drop (sIx items.size 0 lo)).take (sIx items.size items.size hi-sIx items.size 0 lo)).toArray } })
  (hsz:items.size≤sizeLine):Ao (Au prog w) A (Jh (.ref t) (.ref sl)) Q E s:=by
 have htake:sizeOk (.seq ((items.toList.drop (sIx items.size 0 lo)).take (sIx items.size items.size hi-sIx items.size 0 lo)).toArray):=by
  show ((items.toList.drop (sIx items.size 0 lo)).take (sIx items.size items.size hi-sIx items.size 0 lo)).toArray.size≤sizeLine;rw[Aw,Hm,Iq,Cz];omega
 have hj:sIx items.size items.size hi≤items.size:=LR _ _ (Az _) hi;obtain⟨os,hos,hcs,hds⟩:=id hs;have hTs:s.TypeIs (.ref sl) "slice":=⟨os,hos,hcs⟩;unfold Jh
 try with_reducible refine Du ?_
 first|refine Ad (Ak ?_)|skip
 refine Ad (O1 ht.typeIs (by decide) ?_)
 refine Ad (Dr (name:=Gv "__getitem__") ht.typeIs Dj
  (Dw Dj ht.typeIs My ?_ (Oc _ _)))
 show Ao _ _ (Jp (.ref t) >>= _) _ _ s;refine Ad (Sz ht ?_);refine Ad (Jl hTs ?_);rw[Bh (by decide)]
 refine Ad (uV hs pl pu ?_);have hno:¬ ((((sIx items.size 0 lo:Aj):Al) == 0&&(1:Al) == 1&&(sIx items.size items.size hi-sIx items.size 0 lo) == items.size)=true):=by
  intro q;rw[AT,AT] at q;have q1:((sIx items.size 0 lo:Aj):Al)=0:=eq_of_beq q.1.1;have q2:sIx items.size items.size hi-sIx items.size 0 lo=items.size:=eq_of_beq q.2;exact hw ⟨by omega,by omega⟩
 show Ao _ _ (if (((sIx items.size 0 lo:Aj):Al) == 0&&(1:Al) == 1&&(sIx items.size items.size hi-sIx items.size 0 lo) == items.size)=true then _ else _) _ _ s
 rw[Bn hno,V5]
 first
  |exact Ad (m:=Es _) (Dl (Ak ⟨_,rfl,Ak h⟩) htake)
  |exact Ad (m:=Es _) (Dl (Ad (Ak (Ak ⟨_,rfl,Ak h⟩))) htake)
  |exact Ad (Ad (m:=Es _) (Dl (Ak (Ak ⟨_,rfl,Ak h⟩)) htake))
  |exact Ad (Ad (m:=Es _) (Dl (Ak ⟨_,rfl,Ak h⟩) htake))
end
end _H
namespace _L
open PySem PySem.Spec PyProof.Rows
abbrev TO:=St→Hp→(Am Al→Hp→Prop)→Prop
def PO (X:Cx)(e:Am Bp)(t:TO):Prop:=
 ∀ (pins:Aa (Af × Cg)) (s:Ag) (σ : St) (H:Hp) (Q:Am Al→Hp→Prop),Inv X pins σ H s→t σ H Q →
  Ao (Au X.prog X.w) X.A (evalPart e X.env) (fun u s'=>∃ o H',Inv X pins σ H' s'∧On u o∧Q o H') X.xe s
def BE:TO:=fun _ H Q=>Q none H
def EG (t:TE):TO:=fun σ H Q=>t σ H fun x H1=>∃ i,x=.int i∧Q (Ab i) H1
theorem kR {ns:Aa Al}:∀ {us:Aa Ac},qJ (ns.map V.int) us→Ip us ns:=by
 induction ns with
 |nil=>intro us r;rw[Uf] at r;cases r;exact .nil
 |cons n ns ih =>
  intro us r;rw[Dv] at r;cases r with
  |cons r1 r2 =>
   obtain⟨t,e⟩:=r1;subst e;exact .cons n t (ih r2)
section
variable {X:Cx}{e:Bp}{te:TE}{lo hi:Am Bp}{tl th:TO}{pos p2:Ek}
theorem P7:PO X none BE:=by
 intro pins s σ H Q I h;rw[Ta];exact Ak ⟨none,H,I,.none,h⟩
theorem P8 (h:PE X e te):PO X (Ab e) (EG te):=by
 intro pins s σ H Q I hw;rw[evalPart_some];refine thn (h pins s σ H _ I hw) fun u s1 ⟨x,H1,I1,r1,q1⟩=>?_;obtain⟨i,rfl,q⟩:=q1;obtain⟨t,rfl⟩:=r1;exact⟨Ab i,H1,I1,.int i t,q⟩
def SlR (X:Cx)(r:V→Am Al→Am Al→Hp→VK→Prop):Prop:=
 ∀ (pins:Aa (Af × Cg)) (s:Ag) (σ : St) (H:Hp) (x:V) (v vl vu:Ac) (lo hi:Am Al) (sl:Af) (Q:VK),Inv X pins σ H s→qL x v→s.heap.IsSliceOf sl vl vu .none→On vl lo→On vu hi→r x lo hi H Q →
  ∃ T id,Xk (.type T) "__getitem__" = pure (Ab (.builtin id))∧s.TypeIs v T∧Ao (Au X.prog X.w) X.A (Jh v (.ref sl)) (EP X pins σ Q) X.xe s
theorem SlR.or {r r':V→Am Al→Am Al→Hp→VK→Prop}(h:SlR X r)(h':SlR X r'):SlR X (fun x lo hi H Q=>r x lo hi H Q∨r' x lo hi H Q):=by
 intro pins s σ H x v vl vu lo hi sl Q I rx hs pl pu q;rcases q with q|q
 ·exact h pins s σ H x v vl vu lo hi sl Q I rx hs pl pu q
 ·exact h' pins s σ H x v vl vu lo hi sl Q I rx hs pl pu q
def tSl (r:V→Am Al→Am Al→Hp→VK→Prop)(te:TE)(tl th:TO):TE:=fun σ H Q=>te σ H fun x H1=>tl σ H1 fun l H2=>th σ H2 fun u H3=>r x l u H3 Q
theorem V3 {r:V→Am Al→Am Al→Hp→VK→Prop}(hr:SlR X r)(he:PE X e te)(hl:PO X lo tl)(hu:PO X hi th):PE X (.Subscript e (.Slice lo hi none p2) pos) (tSl r te tl th):=by
 intro pins s σ H Q I h;refine Tc (thn (he pins s σ H _ I h) fun v s1 ⟨x,H1,I1,r1,q1⟩=>?_);refine wpAny_Slice (thn (hl pins s1 σ H1 _ I1 q1) fun vl s2 ⟨l,H2,I2,pl,q2⟩=>thn (hu pins s2 σ H2 _ I2 q2) fun vu s3 ⟨u,H3,I3,pu,q3⟩=>?_);rw[Ta];refine Ak ?_;have I4:Inv X pins σ H3 { s3 with heap:=s3.heap.push { cls:=.type "slice",data:=.fields #[vl,vu,.none] } }:=I3.kept (t':=s3.toks) fun b ob q=>Ah _ q
 obtain⟨T,id,hT,ht,hg⟩:=hr pins { s3 with heap:=s3.heap.push { cls:=.type "slice",data:=.fields #[vl,vu,.none] } } σ H3 x v vl vu l u s3.heap.objs.size Q I4 r1 (Tx ..) pl pu q3
 show Ao (Au X.prog X.w) X.A (O6 e (.Slice lo hi none p2) v (.ref s3.heap.objs.size)) (EP X pins σ Q) X.xe { s3 with heap:=s3.heap.push { cls:=.type "slice",data:=.fields #[vl,vu,.none] } }
 exact tail_any (ops:=[.ref s3.heap.objs.size,v]) ht hT hg (by with_unfolding_all rfl)
def gS (xs:Aa V)(lo hi:Am Al):Aa V:=(xs.drop (_H.sIx xs.length 0 lo)).take (_H.sIx xs.length xs.length hi-_H.sIx xs.length 0 lo)
theorem bD (xs:Aa V)(lo hi:Am Al):(gS xs lo hi).length≤xs.length:=by
 unfold gS;rw[Hm,Iq];omega
def CT (K:Ai):V→Am Al→Am Al→Hp→VK→Prop:=fun x lo hi H Q=>∃ a xs,x=.ref a∧SqT K H a xs ∧
 ¬ (_H.sIx xs.length 0 lo=0∧_H.sIx xs.length xs.length hi=xs.length)∧∀ p,H p=none→Q (.ref p) (upd H p (.tup (gS xs lo hi)))
theorem LV:SlR X (CT X.K):=by
 intro pins s σ H x v vl vu lo hi sl Q I rx hs pl pu h;obtain⟨a,xs,rfl,hx,hw,q⟩:=h;cases rx;obtain⟨its,r,ht,hz⟩:=I.tuple hx;have hlen:its.toArray.size=xs.length:=by rw[Aw];exact r.length.symm
 refine⟨"tuple",_,Dj.lookup,ht.typeIs,?_⟩;refine _H.getItem_tuple_cut ht hs pl pu (by rw[hlen];exact hw) ?_ (by rw[hlen];exact hz)
 rw[hlen];refine⟨.ref s.heap.objs.size,_,I.laid (t':=s.toks) (o:=.tup (gS xs lo hi)) (fun b ob q=>Ah _ q) (Az _) ?_,rfl,q _ (I.hok.fresh (Az _))⟩;exact⟨Cr (bD xs lo hi) hz,_,(r.drop (_H.sIx xs.length 0 lo)).take (_H.sIx xs.length xs.length hi-_H.sIx xs.length 0 lo),Ut _ _⟩
end
end _L
namespace _L
open PySem PySem.Spec PyProof.Rows
variable {pins:Aa (Af × Cg)}{s:Ag}{H:Hp}{σ:St}
def ixN (n:Aj)(i:Al):Am Aj:=if 0≤i then (if i<n then Ab i.toNat else none) else if -(n:Al)≤i then Ab (i+n).toNat else none
def atI {α:Type}(xs:Aa α)(i:Al):Am α:=(ixN xs.length i).bind fun j=>xs[j]?
theorem cG {n:Aj}{i:Al}{j:Aj}(h:ixN n i=Ab j):Uy i n=Ab j∧j<n ∧ -(n:Al)≤i∧i<n:=by
 unfold ixN at h;by_cases h0:0≤i
 ·rw[Bh h0] at h
  by_cases h1:i<n
  ·rw[Bh h1] at h
   have e:i.toNat=j:=Cm h;exact⟨by rw[Wa h0 h1,e],by omega,by omega,h1⟩
  ·rw[Bn h1] at h;cases h
 ·rw[Bn h0] at h
  by_cases h1 : -(n:Al)≤i
  ·rw[Bh h1] at h
   have e:(i+n).toNat=j:=Cm h;exact⟨by rw[seqIndex_neg om h1,e],by omega,h1,by omega⟩
  ·rw[Bn h1] at h;cases h
theorem eR {α:Type}{xs:Aa α}{i:Al}{v:α}(h:atI xs i=Ab v):∃ j,Uy i xs.length=Ab j∧xs[j]? = Ab v∧j<xs.length ∧ -(xs.length:Al)≤i∧i<xs.length:=by
 unfold atI at h;cases e:ixN xs.length i with
 |none=>rw[e] at h;cases h
 |some j =>
  rw[e] at h;obtain⟨h1,h2,h3,h4⟩:=cG e;exact⟨j,h1,h,h2,h3,h4⟩
def mV (b:Bp):Prop:=∀ o i,subscripted b false o i=operate [o,i] (Jh o i)
def IxR (X:Cx)(r:R2):Prop:=
 ∀ (value slice:Bp) (pins:Aa (Af × Cg)) (s:Ag) (σ : St) (H:Hp) (x y:V) (v u:Ac) (Q:VK),Inv X pins σ H s→qL x v→qL y u→r x y H Q →
  subscripted slice false v u=operate [v,u] (Jh v u)→Ao (Au X.prog X.w) X.A (O6 value slice v u) (EP X pins σ Q) X.xe s
def MtR (X:Cx)(id:Ed)(r:V→Aa V→Hp→VK→Prop):Prop:=
 ∀ (pins:Aa (Af × Cg)) (s:Ag) (σ : St) (H:Hp) (x:V) (xs:Aa V) (v:Ac) (us:Aa Ac) (Q:VK),Inv X pins σ H s→qL x v→qJ xs us→r x xs H Q →
  Ao (Au X.prog X.w) X.A (call (.builtin id) (v::us)) (EP X pins σ Q) X.xe s
section
variable {X:Cx}{a b:Bp}{ta tb:TE}{pos:Ek}
theorem IxR.or {r r':R2}(h:IxR X r)(h':IxR X r'):IxR X (fun x y H Q=>r x y H Q∨r' x y H Q):=by
 intro value slice pins s σ H x y v u Q I rx ry q hs;rcases q with q|q
 ·exact h value slice pins s σ H x y v u Q I rx ry q hs
 ·exact h' value slice pins s σ H x y v u Q I rx ry q hs
theorem MtR.or {id:Ed}{r r':V→Aa V→Hp→VK→Prop}(h:MtR X id r)(h':MtR X id r'):MtR X id (fun x xs H Q=>r x xs H Q∨r' x xs H Q):=by
 intro pins s σ H x xs v us Q I rx rs q;rcases q with q|q
 ·exact h pins s σ H x xs v us Q I rx rs q
 ·exact h' pins s σ H x xs v us Q I rx rs q
theorem RY {r:R2}(hr:IxR X r)(ha:PE X a ta)(hb:PE X b tb)(hs:mV b):PE X (.Subscript a b pos) (tOp r ta tb):=by
 intro pins s σ H Q I h;exact Tc (HG ha hb I h fun v u s2 x y H2 I2 rx ry q=>hr a b pins s2 σ H2 x y v u Q I2 rx ry q (hs _ _))
def CO (K:Ai):R2:=fun x y H Q=>∃ p xs i v,x=.ref p∧y=.int i∧SqL K H p xs∧atI xs i=Ab v∧Q v H
def CP (K:Ai):R2:=fun x y H Q=>∃ p xs i v,x=.ref p∧y=.int i∧SqT K H p xs∧atI xs i=Ab v∧Q v H
theorem cH:IxR X (CO X.K):=by
 intro value slice pins s σ H x y v u Q I rx ry h hs;obtain⟨p,xs,i,z,rfl,rfl,hq,he,q⟩:=h;cases rx;obtain⟨t,rfl⟩:=ry;obtain⟨its,r,pl,hz⟩:=I.list hq;obtain⟨j,h1,h2,h3,h4,h5⟩:=eR he;obtain⟨w,ew,rw'⟩:=r.get h2;have hl:=r.length;have hn:=p7;have fin:EP X pins σ Q w s:=⟨z,H,I,rw',q⟩;by_cases h0:0≤i
 ·have hj:i.toNat=j:=by
   rw[Wa h0 h5] at h1;exact Cm h1
  exact item_listR pl.isList h0 om (by rw[hj];simpa using ew) fin hs
 ·have hj:(i+(its.toArray.size:Al)).toNat=j:=by
   rw[seqIndex_neg om h4] at h1;rw[Aw,← hl];exact Cm h1
  exact Qk (x:=w) pl.isList.typeIs Uz.lookup
   (wpAny_getItem_list_neg (Q:=fun r s'=>r=w∧EP X pins σ Q r s') pl.isList om (by rw[Aw] <;> omega) om (by rw[hj];simpa using ew) ⟨rfl,fin⟩) hs
theorem MW:IxR X (CP X.K):=by
 intro value slice pins s σ H x y v u Q I rx ry h hs;obtain⟨p,xs,i,z,rfl,rfl,hq,he,q⟩:=h;cases rx;obtain⟨t,rfl⟩:=ry;obtain⟨its,r,pl,hz⟩:=I.tuple hq;obtain⟨j,h1,h2,h3,h4,h5⟩:=eR he;obtain⟨w,ew,rw'⟩:=r.get h2;have hl:=r.length;have hn:=p7;have fin:EP X pins σ Q w s:=⟨z,H,I,rw',q⟩;exact Qk (x:=w) pl.typeIs slot_tuple_getitem.lookup
  (getItem_tuple (j:=j) (Q:=fun r s'=>r=w∧EP X pins σ Q r s') pl om om (by rw[Aw,← hl];exact h1) (by simpa using ew) ⟨rfl,fin⟩) hs
theorem iQ (its:Aa Ac)(n j:Aj)(u:Ac):Eg (·.setIfInBounds j u) { cls:=.type "list",data:=.seq its.toArray n } = { cls:=.type "list",data:=.seq (its.set j u).toArray n }:=by
 simp[Eg]
theorem Inv.lst {p:Af}{xs:Aa V}(I:Inv X pins σ H s)(h:H p=Ab (.lst xs)) :
  ∃ (its:Aa Ac) (n:Aj),qJ xs its∧s.heap.get? p=Ab { cls:=.type "list",data:=.seq its.toArray n } ∧ xs.length≤sizeLine:=by
 obtain⟨z,its,n,r,e⟩:=I.hok p _ h;exact⟨its,n,r,e,z⟩
theorem Inv.lstUpd {p:Af}{xs ys:Aa V}{its its':Aa Ac}{n n':Aj}{f:Cg→Cg}(I:Inv X pins σ H s)(h:H p=Ab (.lst xs))
  (ho:s.heap.get? p=Ab { cls:=.type "list",data:=.seq its.toArray n }) (hf:f { cls:=.type "list",data:=.seq its.toArray n } = { cls:=.type "list",data:=.seq its'.toArray n' }) (r:qJ ys its') (hz:ys.length≤sizeLine) (t:Aj) :
  Inv X pins σ (upd H p (.lst ys)) { s with heap:=s.heap.update p f,toks:=t }:=by
 have e:(s.heap.update p f).get? p=Ab { cls:=.type "list",data:=.seq its'.toArray n' }:=by
  rw[Fi f ho (by rw[hf] <;> rfl),hf]
 refine I.write (x:=p) (e:=p) (by rw[h];trivial) (.inl rfl) (fun b u hb q=>(Cy _ _ (Fx hb)).trans q) ⟨_,e⟩ ?_
 exact⟨hz,its',n',r,e⟩
def E4:V→V→V→Hp→(Hp→Prop)→Prop:=fun o i v H Q=>∃ p xs k j,o=.ref p∧i=.int k∧H p=Ab (.lst xs)∧ixN xs.length k=Ab j∧Q (upd H p (.lst (xs.set j v)))
theorem VT:dP X E4:=by
 intro pins s σ H o i v ov iv u Q I ro ri rv h;obtain⟨p,xs,k,j,rfl,rfl,hp,hj,q⟩:=h;cases ro;obtain⟨t,rfl⟩:=ri;obtain⟨its,n,r,ho,hz⟩:=I.lst hp;obtain⟨h1,h2,h3,h4⟩:=cG hj;have hl:=r.length;have hn:=p7;have I':Inv X pins σ (upd H p (.lst (xs.set j v))) { s with heap:=s.heap.update p (Eg (·.setIfInBounds j u)) }:=
  I.lstUpd hp ho (iQ its n j u) (r.set rv j) (by rw[Ql];exact hz) s.toks
 by_cases h0:0≤k
 ·have hk:k.toNat=j:=by
   rw[Wa h0 h4] at h1;exact Cm h1
  exact PySem.W.ki_setAt ho h0 om (by rw[Aw,← hl];exact h4) (by rw[hk];exact⟨_,I',q⟩)
 ·have hk:(k+(its.toArray.size:Al)).toNat=j:=by
   rw[seqIndex_neg om h3] at h1;rw[Aw,← hl];exact Cm h1
  exact PySem.W.ki_setBack ho om (by rw[Aw,← hl];exact h3) om (by rw[hk];exact⟨_,I',q⟩)
theorem rS (lo hi:Am Al)(n:Aj):(Ke lo hi none n).1=((_H.sIx n 0 lo:Aj):Al)∧(Ke lo hi none n).2.1=((_H.sIx n n hi:Aj):Al)∧(Ke lo hi none n).2.2=1:=by
 refine⟨?_,?_,rfl⟩
 ·cases lo with
  |none=>simp[Ke,_H.sIx]
  |some i =>
   simp only[Ke,_H.sIx,Wb,show (1:Al)>0 by decide,Eb]
   by_cases h:i<0
   ·simp only[h,Eb] <;> omega
   ·simp only[h,DL] <;> omega
 ·cases hi with
  |none=>simp[Ke,_H.sIx]
  |some i =>
   simp only[Ke,_H.sIx,Wb,show (1:Al)>0 by decide,Eb]
   by_cases h:i<0
   ·simp only[h,Eb] <;> omega
   ·simp only[h,DL] <;> omega
theorem lV (its:Aa Ac)(lo hi:Am Al):slicePick its.toArray lo hi none=((its.drop (_H.sIx its.length 0 lo)).take (_H.sIx its.length its.length hi-_H.sIx its.length 0 lo)).toArray:=by
 obtain⟨h1,h2,h3⟩:=rS lo hi its.toArray.size;unfold slicePick;rw[h1,h2,h3];simp only[sliceRange_one,pick_run,Aw] <;> rfl
def CS (K:Ai):V→Am Al→Am Al→Hp→VK→Prop:=fun x lo hi H Q=>∃ a xs,x=.ref a∧SqL K H a xs∧∀ p,H p=none→Q (.ref p) (upd H p (.lst (gS xs lo hi)))
theorem aD:SlR X (CS X.K):=by
 intro pins s σ H x v vl vu lo hi sl Q I rx hs pl pu h;obtain⟨a,xs,rfl,hx,q⟩:=h;cases rx;obtain⟨its,r,ht,hz⟩:=I.list hx;have hlen:=r.length;refine⟨"list",_,Uz.lookup,ht.isList.typeIs,?_⟩;refine wpAny_getItem_list_slice ht.isList hs pl pu .none (by simp) ?_ (by rw[Aw] <;> omega)
 rw[lV,← hlen];refine⟨.ref s.heap.objs.size,_,I.laid (t':=s.toks) (o:=.lst (gS xs lo hi)) (fun b ob q=>Ah _ q) (Az _) ?_,rfl,q _ (I.hok.fresh (Az _))⟩;exact⟨Cr (bD xs lo hi) hz,_,0,(r.drop (_H.sIx xs.length 0 lo)).take (_H.sIx xs.length xs.length hi-_H.sIx xs.length 0 lo),Ba _ rfl⟩
theorem uZ.or {f:Ac}{r r':Aa V→Hp→VK→Prop}(h:uZ X f r)(h':uZ X f r'):uZ X f (fun xs H Q=>r xs H Q∨r' xs H Q):=by
 intro pins s σ H xs us Q I rs q;rcases q with q|q
 ·exact h pins s σ H xs us Q I rs q
 ·exact h' pins s σ H xs us Q I rs q
theorem gP:uZ X (.type "list") (fun xs H Q=>∃ p ys,xs=[.ref p]∧(SqL X.K H p ys∨SqT X.K H p ys)∧∀ l,H l=none→Q (.ref l) (upd H l (.lst ys))):=by
 intro pins s σ H xs us Q I r h;obtain⟨p,ys,rfl,hq,q⟩:=h;obtain⟨u,rfl,rx⟩:=jE r;cases rx;have fin:∀ (its:Aa Ac),qJ ys its→ys.length≤sizeLine→∀ (h':Bk) (c':Aj),(∀ b o',s.heap.get? b=Ab o'→h'.get? b=Ab o') →
   h'.get? s.heap.objs.size=Ab { cls:=.type "list",dict:=none,data:=.seq its.toArray c',slots:=#[] } → EP X pins σ Q (.ref s.heap.objs.size) { s with heap:=h' }:=fun its r' hz h' c' kp e =>
  ⟨.ref s.heap.objs.size,_,I.laid (t':=s.toks) kp (Az _) (show zA X.prog X.w _ h' _ (.lst ys) from⟨hz,its,c',r',e⟩),rfl,q _ (I.hok.fresh (Az _))⟩
 rcases hq with hq|hq
 ·obtain⟨its,r',pl,hz⟩:=I.list hq
  have hlen:=r'.length;obtain⟨o,ho,hc,n,hd⟩:=pl.isList;exact call_list_seq p (.inl rfl) ho hc hd (fun h' c' kp e=>fin its r' hz h' c' kp e) (by simp only[Aw] <;> omega)
 ·obtain⟨its,r',pl,hz⟩:=I.tuple hq
  have hlen:=r'.length;obtain⟨o,ho,hc,n,hd⟩:=pl;exact call_list_seq p (.inr rfl) ho hc hd (fun h' c' kp e=>fin its r' hz h' c' kp e) (by simp only[Aw] <;> omega)
theorem gJ:uZ X (.type "tuple") (fun xs H Q=>∃ p ys,xs=[.ref p]∧((SqL X.K H p ys∧∀ l,H l=none→Q (.ref l) (upd H l (.tup ys)))∨(SqT X.K H p ys∧Q (.ref p) H))):=by
 intro pins s σ H xs us Q I r h;obtain⟨p,ys,rfl,h⟩:=h;obtain⟨u,rfl,rx⟩:=jE r;cases rx;rcases h with⟨hq,q⟩|⟨hq,q⟩
 ·obtain⟨its,r',pl,hz⟩:=I.list hq
  have hlen:=r'.length;refine call_tuple_list pl.isList (fun h' kp=>?_) (by simp only[Aw] <;> omega)
  have I1:Inv X pins σ H { s with heap:=h' }:=I.kept (t':=s.toks) kp
  have I2:Inv X pins σ (upd H h'.objs.size (.tup ys)) { s with heap:=h'.push { cls:=.type "tuple",data:=.seq its.toArray } }:=
   I1.laid (t':=s.toks) (fun b o e=>Ah _ e) (Az _) (show zA X.prog X.w _ _ _ (.tup ys) from⟨hz,its,r',Ut _ _⟩)
  exact⟨.ref h'.objs.size,_,I2,rfl,q _ (I1.hok.fresh (Az _))⟩
 ·obtain⟨its,r',pl,hz⟩:=I.tuple hq
  exact call_tuple_same pl ⟨.ref p,H,I,rfl,q⟩
def tyV (K:Ai)(T:Ed)(x:V)(H:Hp):Prop:=match x with
 |.str _=>T = "str"
 |.int _=>T = "int"
 |.ref p=>(T = "list" ∧ ∃ xs,SqL K H p xs)∨(T = "tuple" ∧ ∃ o,K.lookup p=Ab o∧o.cls=.type "tuple" ∧ o.dict=none) ∨
   (T = "dict" ∧ ((∃ kvs,H p=Ab (.dK kvs))∨∃ kvs,H p=Ab (.dT kvs)))∨(T = "set" ∧ ∃ S n,H p=Ab (.set S n))
 |_=>Ev
theorem XJ {T:Ed}{x:V}{v:Ac}(I:Inv X pins σ H s)(r:qL x v)(ty:tyV X.K T x H) :
  s.TypeIs v T∧∀ a,v=.ref a→∃ ob,s.heap.get? a=Ab ob∧ob.dict=none:=by
 cases x with
 |str z =>
  obtain⟨t,rfl⟩:=r;cases (show T = "str" from ty)
  exact⟨typeIs_str s z t,fun _ e=>nomatch e⟩
 |int i =>
  obtain⟨t,rfl⟩:=r;cases (show T = "int" from ty)
  exact⟨Xl s i t,fun _ e=>nomatch e⟩
 |ref p =>
  cases r;rcases ty with⟨rfl,xs,hq⟩|⟨rfl,o,hk,hc,hd⟩|⟨rfl,hk⟩|⟨rfl,S,n,hk⟩
  ·obtain⟨its,_,pl,_⟩:=I.list hq
   refine⟨pl.isList.typeIs,fun a e=>?_⟩;cases e;obtain⟨o,n,e,c,hd,_⟩:=pl;exact⟨o,e,hd⟩
  ·refine⟨⟨o,I.kIn p o hk,hc⟩,fun a e=>?_⟩
   cases e;exact⟨o,I.kIn _ o hk,hd⟩
  ·have z:∃ o,s.heap.get? p=Ab o∧o.ExactDict:=by
    rcases hk with⟨kvs,hk⟩|⟨kvs,hk⟩
    ·obtain⟨_,_,_,_,o,_,_,e,ex,_⟩:=I.hok p _ hk
     exact⟨o,e,ex⟩
    ·obtain⟨_,_,_,_,o,_,_,e,ex,_⟩:=I.hok p _ hk
     exact⟨o,e,ex⟩
   obtain⟨o,e,ex⟩:=z;refine⟨⟨o,e,ex.1⟩,fun a e2=>?_⟩;cases e2;exact⟨o,e,ex.2.1⟩
  ·obtain⟨o,_,_,_,e,ex,_⟩:=I.hok p _ hk
   refine⟨⟨o,e,ex.1⟩,fun a e2=>?_⟩;cases e2;exact⟨o,e,ex.2.1⟩
 |_=>exact An ty
variable {o e:Bp}{es:Aa Bp}{to:TE}{t:TA}{name:As}{apos cpos:Ek}{T id:Ed}{r:V→Aa V→Hp→VK→Prop}
/- xs.append(e),list.index on a module's tuple .. are MtR facts of 06m -/
end
end _L
namespace _L
open PySem PySem.Spec PyProof.Rows
variable {us:Aa Ac}
def MtM (X:Cx)(id:Ed)(r:V→Aa V→Hp→VK→Prop):Prop:=
 ∀ (pins:Aa (Af × Cg)) (s:Ag) (σ : St) (H:Hp) (x:V) (xs:Aa V) (v:Ac) (us:Aa Ac) (Q:VK),Inv X pins σ H s→qL x v→qJ xs us→r x xs H Q →
  Ao (Au X.prog X.w) X.A (call (.builtin id) (v::us)) (EP X pins σ Q) X.xe s
theorem qJ.one {x:V}(h:qJ [x] us):∃ u,us=[u]∧qL x u:=jE h
theorem qJ.two {x y:V}(h:qJ [x,y] us):∃ u v,us=[u,v]∧qL x u∧qL y v:=dM h
theorem qJ.eraseIdx:∀ {xs:Aa V} {us:Aa Ac} (i:Aj),qJ xs us→qJ (xs.eraseIdx i) (us.eraseIdx i)
 |_,_,_,.nil=>.nil
 |_,_,0,.cons _ t=>t
 |_,_,i+1,.cons r t=>.cons r (qJ.eraseIdx i t)
theorem qJ.rep {xs:Aa V}(h:qJ xs us):∀ k:Aj,qJ (Ct k xs).flatten (Ct k us).flatten
 |0=>.nil
 |k+1=>by
  rw[Fz,Fz,He,He];exact qJ.append h (qJ.rep h k)
theorem l8 {α:Type}:∀ (l:Aa α) (i:Aj),(l.eraseIdx i).length≤l.length
 |[],_=>Az _
 |_::_,0=>Oo _
 |_::r,i+1=>Nat.succ_le_succ (l8 r i)
theorem nU (its:Aa Ac):∀ (k:Aj) (acc:Aa Ac),
  Xm (fun x1 x2=>x1++x2) acc.toArray (Ct k its.toArray)=(acc++(Ct k its).flatten).toArray
 |0,acc=>by simp
 |k+1,acc=>by
  have e:acc.toArray++its.toArray=(acc++its).toArray:=by simp
  have e2:(acc++its)++(Ct k its).flatten=acc++(Ct (k+1) its).flatten:=by
   rw[Fz,He,Gr]
  rw[← e2,← nU its k (acc++its),← e,Fz,Kf]
section
variable {X:Cx}{pins:Aa (Af × Cg)}{σ : St}{H:Hp}{s:Ag}{l b:Af}{xs ys zs:Aa V}
theorem Inv.lset {its its':Aa Ac}{n:Aj}{f:Bl Ac→Bl Ac}{t':Aj}(I:Inv X pins σ H s)(hH:H l=Ab (.lst xs))
  (e:s.heap.get? l=Ab { cls:=.type "list",data:=.seq its.toArray n }) (hf:f its.toArray=its'.toArray) (hv:qJ ys its') (hz:ys.length≤sizeLine) :
  Inv X pins σ (upd H l (.lst ys)) { s with heap:=s.heap.update l (Eg f),toks:=t' }:=by
 have q:=Wc e f;rw[hf] at q;refine I.write (x:=l) (e:=l) (by rw[hH];exact trivial) (.inl rfl) (fun b' u hb hu=>(Cy s.heap (Eg f) (Fx hb)).trans hu) ⟨_,q⟩ ?_
 exact⟨hz,its',_,hv,q⟩
theorem Inv.lstM (I:Inv X pins σ H s)(hH:H l=Ab (.lst xs)):xs.length≤sizeLine∧∃ (its:Aa Ac) (n:Aj),qJ xs its∧xs.length=its.length∧s.heap.get? l=Ab { cls:=.type "list",data:=.seq its.toArray n }:=by
 obtain⟨z,its,n,r,e⟩:=I.hok l _ hH;exact⟨z,its,n,r,r.length,e⟩
theorem YU {n:Aj}(h:n≤sizeLine):Km n=false:=by
 unfold Km;exact Cq om
end
section
variable {X:Cx}
def PV:V→Aa V→Hp→VK→Prop:=fun x vs H Q=>∃ l xs y,x=.ref l∧vs=[y]∧H l=Ab (.lst xs)∧xs.length<sizeLine∧Q .non (upd H l (.lst (xs++[y])))
theorem Z8:MtM X "list.append" PV:=by
 intro pins s σ H x vs v us Q I rx rv h;obtain⟨l,xs,y,rfl,rfl,hH,hz,q⟩:=h;cases rx;obtain⟨u,rfl,ru⟩:=rv.one;obtain⟨z,its,n,r,hl,e⟩:=I.lstM hH;refine Lm Tz ⟨_,e,rfl⟩ Td (Sh _ _) (Va l its.toArray n u (by rw[Aw];omega)) ⟨e,?_⟩
 refine⟨.non,_,I.lset (its':=its++[u]) hH e (by simp) (r.append (.cons ru .nil)) ?_,rfl,q⟩
 rw[Ca,Ri];omega
def LP:V→Aa V→Hp→VK→Prop:=fun x vs H Q=>∃ l xs i k y,x=.ref l∧vs=[.int i]∧H l=Ab (.lst xs) ∧ -(2 ^ 63)≤i∧i<2 ^ 63∧Uy i xs.length=Ab k∧xs[k]? = Ab y∧Q y (upd H l (.lst (xs.eraseIdx k)))
theorem YS:MtM X "list.pop" LP:=by
 intro pins s σ H x vs v us Q I rx rv h;obtain⟨l,xs,i,k,y,rfl,rfl,hH,h1,h2,hk,hy,q⟩:=h;cases rx;obtain⟨u,rfl,ru⟩:=rv.one;obtain⟨t,rfl⟩:=ru;obtain⟨z,its,n,r,hl,e⟩:=I.lstM hH;obtain⟨w,hw,rw'⟩:=r.get hy;refine Lm F.slot_list_pop ⟨_,e,rfl⟩ F.entry_list_pop (F.args_list_pop_2 _ _)
  (MeetsSeq.list_pop_at l its.toArray n i t k w (fitsIndex_both h1 h2) (by rw[Aw,← hl];exact hk) (by rw[← Bx];exact hw) (by rw[Aw];omega)) ⟨e,?_⟩
 refine⟨y,_,I.lset (its':=its.eraseIdx k) hH e ?_ (r.eraseIdx k) ?_,rw',q⟩
 ·show its.toArray.eraseIdxIfInBounds k=(its.eraseIdx k).toArray
  rw[List.eraseIdxIfInBounds_toArray]
 ·have:=l8 xs k
  omega
theorem GB {α:Type}(xs:Aa α)(k:Aj):(Ct k xs).flatten.length=k*xs.length:=by
 induction k with
 |zero=>simp
 |succ k ih=>rw[Fz,He,Ca,ih,Nat.succ_mul,Ys]
end
end _L
namespace _L
open PySem PySem.Spec PyProof.Rows
variable {xs:Aa (Aa Key × Af × Ac)}{kvs:Aa (Aa Key × V)}{Q:Ac→Ag→Prop}{H':Hp}
section
variable {κ : Type}[Vs κ]
def yB (kvs:Aa (κ × V))(k:κ):Am V:=(kvs.find? fun kv=>decide (kv.1=k)).map (·.2)
def yL (kvs:Aa (κ × V))(k:κ)(v:V):Aa (κ × V):=
 if (kvs.any fun kv=>decide (kv.1=k))=true then kvs.map (fun kv=>if kv.1=k then (kv.1,v) else kv) else kvs++[(k,v)]
theorem fM {p:κ × V}{r:Aa (κ × V)}{k:κ}(e:p.1=k):yB (p::r) k=Ab p.2:=by simp[yB,IW,e]
theorem fL {p:κ × V}{r:Aa (κ × V)}{k:κ}(e:¬ p.1=k):yB (p::r) k=yB r k:=by simp[yB,IW,e]
theorem eA (k:κ):∀ kvs:Aa (κ × V),(kvs.any fun kv=>decide (kv.1=k))=(yB kvs k).isSome
 |[]=>rfl
 |p::r=>by
  rw[Hl];by_cases e:p.1=k
  ·simp only[fM e,Cu e,Yt,T0]
  ·rw[fL e,Cq e,Bool.false_or];exact eA k r
theorem jJ (kvs:Aa (κ × V))(k:κ)(v:V):(yL kvs k v).length≤kvs.length+1:=by
 unfold yL
 split
 ·rw[Aq];omega
 ·rw[Ca,Cj,Et];omega
theorem vA.isSome_eq {o:Am V}{u:Am Ac}(r:vA o u):o.isSome=u.isSome:=by
 cases o with
 |none=>cases u with
  |none=>rfl
  |some _=>exact(show Ev from r).elim
 |some _=>cases u with
  |none=>exact(show Ev from r).elim
  |some _=>rfl
theorem vA.getD {o:Am V}{u:Am Ac}{d:V}{d':Ac}(r:vA o u)(rd:qL d d'):qL (o.getD d) (u.getD d'):=by
 cases o with
 |none=>cases u with
  |none=>exact rd
  |some _=>exact(show Ev from r).elim
 |some _=>cases u with
  |none=>exact(show Ev from r).elim
  |some _=>exact r
theorem KV.val {kvs:Aa (κ × V)}{vs:Aa (κ × Ac)}(r:KV kvs vs)(k:κ):vA (yB kvs k) (Qm vs k):=by
 unfold KV at r
 induction r with
 |nil=>exact Gm
 |@cons p q ps qs h t ih =>
  obtain⟨h1,h2⟩:=h;by_cases e:p.1=k
  ·have e':q.1=k:=h1.symm.trans e
   have b:Qm (q::qs) k=Ab q.2:=by simp[Qm,IW,e']
   rw[fM e,b];exact h2
  ·have e':¬ q.1=k:=fun z=>e (h1.trans z)
   have b:Qm (q::qs) k=Qm qs k:=by simp[Qm,IW,e']
   rw[fL e,b];exact ih
theorem KV.any {kvs:Aa (κ × V)}{vs:Aa (κ × Ac)}(r:KV kvs vs)(k:κ):(kvs.any fun kv=>decide (kv.1=k))=vs.any fun kv=>decide (kv.1=k):=by
 unfold KV at r
 induction r with
 |nil=>rfl
 |cons h t ih=>rw[Hl,Hl,ih,h.1]
theorem KV.repl {kvs:Aa (κ × V)}{vs:Aa (κ × Ac)}(r:KV kvs vs)(k:κ){y:V}{u:Ac}(ry:qL y u) :
  KV (kvs.map fun kv=>if kv.1=k then (kv.1,y) else kv) (vs.map fun kv=>if kv.1=k then (kv.1,u) else kv):=by
 unfold KV at r ⊢
 induction r with
 |nil=>exact .nil
 |@cons p q ps qs h t ih =>
  rw[Dv,Dv];refine .cons ?_ ih;obtain⟨h1,h2⟩:=h;by_cases e:p.1=k
  ·rw[Bh e,Bh (h1.symm.trans e)];exact⟨h1,ry⟩
  ·rw[Bn e,Bn (fun z=>e (h1.trans z))];exact⟨h1,h2⟩
theorem KV.put {kvs:Aa (κ × V)}{vs:Aa (κ × Ac)}(r:KV kvs vs)(k:κ){y:V}{u:Ac}(ry:qL y u):KV (yL kvs k y) (stored vs k u):=by
 unfold yL stored;rw[r.any k];by_cases e:(vs.any fun kv=>decide (kv.1=k))=true
 ·rw[Bh e,Bh e];exact r.repl k ry
 ·rw[Bn e,Bn e];exact Paired.snoc r ⟨rfl,ry⟩
theorem KV.length {kvs:Aa (κ × V)}{vs:Aa (κ × Ac)}(r:KV kvs vs):kvs.length=vs.length:=Paired.length r
end
theorem m7 {P:Be}{w:Bt}{k:Key}{u:Ac}(r:qL (kV k) u):(zI P w).is k u=true:=by
 cases k with
 |inl i=>obtain⟨t,e⟩:=(show ∃ t,u=Mj i t from r);subst e;exact eI P w i t
 |inr x=>obtain⟨t,e⟩:=(show ∃ t,u=Rc x t from r);subst e;exact eJ P w x t
theorem l5 {P:Be}{w:Bt}:∀ {ks:Aa Key} {us:Aa Ac},qJ (ks.map kV) us→ItemsAre (zI P w) ks us
 |[],_,r=>by rw[Uf] at r;cases r;exact .nil
 |k::ks,_,r=>by
  rw[Dv] at r;cases r with
  |cons h t=>exact .cons (m7 h) (l5 t)
abbrev KT (H:Hp):Aa (Aa Key × V)→Aa (Aa Key × Af × Ac)→Prop:=Paired fun p q=>p.1=q.1∧H q.2.1=Ab (.tup (p.1.map kV))∧qL p.2 q.2.2
theorem KT.val {H:Hp}(r:KT H kvs xs)(k:Aa Key):vA (yB kvs k) ((Te xs k).map (·.2)):=by
 induction r with
 |nil=>exact Gm
 |@cons p q ps qs h t ih =>
  obtain⟨h1,_,h2⟩:=h;by_cases e:p.1=k
  ·have e':q.1=k:=h1.symm.trans e
   have b:Te (q::qs) k=Ab q.2:=by simp[Te,IW,e']
   rw[fM e,b];exact h2
  ·have e':¬ q.1=k:=fun z=>e (h1.trans z)
   have b:Te (q::qs) k=Te qs k:=by simp[Te,IW,e']
   rw[fL e,b];exact ih
theorem KT.repl {H:Hp}(r:KT H kvs xs)(k:Aa Key){y:V}{u:Ac}(ry:qL y u) :
  KT H (kvs.map fun kv=>if kv.1=k then (kv.1,y) else kv) (xs.map (putAt k u)):=by
 induction r with
 |nil=>exact .nil
 |@cons p q ps qs h t ih =>
  rw[Dv,Dv];refine .cons ?_ ih;obtain⟨h1,h2,h3⟩:=h;unfold putAt;by_cases e:p.1=k
  ·rw[Bh e,Bh (h1.symm.trans e)];exact⟨h1,h2,ry⟩
  ·rw[Bn e,Bn (fun z=>e (h1.trans z))];exact⟨h1,h2,h3⟩
theorem KT.put {H:Hp}(r:KT H kvs xs)(k:Aa Key){b:Af}{y:V}{u:Ac}(hb:H b=Ab (.tup (k.map kV)))(ry:qL y u) :
  KT H (yL kvs k y) (storedH xs k b u):=by
 have e:(kvs.any fun kv=>decide (kv.1=k))=(Te xs k).isSome:=by
  rw[eA,(r.val k).isSome_eq,O7]
 unfold yL storedH;rw[e];by_cases q:(Te xs k).isSome=true
 ·rw[Bh q,Bh q];exact r.repl k ry
 ·rw[Bn q,Bn q];exact Paired.snoc r ⟨rfl,hb,ry⟩
theorem KT.keeps {H:Hp}(r:KT H kvs xs)(ht:∀ b ys,H b=Ab (.tup ys)→H' b=Ab (.tup ys)):KT H' kvs xs:=
 Paired.mapP r fun _ _ z=>⟨z.1,ht _ _ z.2.1,z.2.2⟩
section
variable {P:Be}{w:Bt}{H:Hp}{h:Bk}{a:Af}
theorem J2 {u:HO}(ok:HOk P w H h)(e:Rd H a u):zA P w H h a u:=e.ok ok
theorem d3 {kvs:Aa (Key × V)}(ok:HOk P w H h)(e:Rd H a (.dK kvs)):kvs.length≤sizeLine∧(a == Io)=false∧∃ vs,KV kvs vs∧h.DictOf (zI P w) a vs:=
 show zA P w H h a (.dK kvs) from J2 ok e
theorem iB {kvs:Aa (Key × V)}(ok:HOk P w H h)(e:H a=Ab (.dK kvs)):kvs.length≤sizeLine∧(a == Io)=false∧∃ vs,KV kvs vs∧h.DictOf (zI P w) a vs:=d3 ok (.inl e)
theorem m9 {ks:Aa Key}(ok:HOk P w H h)(e:H a=Ab (.tup (ks.map kV))):(Rf (zI P w)).is h ks a:=by
 obtain⟨_,its,r,o,h1,h2,n,h3⟩:=(show zA P w H h a (.tup (ks.map kV)) from ok a _ e)
 exact⟨o,its.toArray,n,h1,h2,h3,by simpa using l5 r⟩
theorem d7 (ok:HOk P w H h)(e:Rd H a (.dT kvs)):kvs.length≤sizeLine∧(a == Io)=false ∧
  ∃ xs,KT H kvs xs∧h.DictOfH (Rf (zI P w)) a xs:=by
 obtain⟨z,y,xs,r,o,es,ep,h1,h2,h3,h4,h5⟩:=(show zA P w H h a (.dT kvs) from J2 ok e)
 refine⟨z,y,xs,r,o,es,ep,h1,h2,h3,h4,fun x hx=>?_,h5⟩;have all:∀ {l:Aa (Aa Key × V)} {m:Aa (Aa Key × Af × Ac)},KT H l m→∀ x∈m,(Rf (zI P w)).is h x.1 x.2.1:=by
  intro l m q
  induction q with
  |nil=>intro x hx;exact nomatch hx
  |@cons p q ps qs hq t ih =>
   intro x hx;rcases Ay.mp hx with e|hx
   ·subst e
    exact m9 ok (by rw[← hq.1];exact hq.2.1)
   ·exact ih x hx
 exact all r x hx
theorem SL (ok:HOk P w H h)(e:H a=Ab (.dT kvs)):kvs.length≤sizeLine∧(a == Io)=false ∧
  ∃ xs,KT H kvs xs∧h.DictOfH (Rf (zI P w)) a xs:=d7 ok (.inl e)
end
def kF (H:Hp)(a:Af)(y:V)(r:Am V):Prop:=
 (∃ kvs k,Rd H a (.dK kvs)∧y=kV k∧r=yB kvs k)∨∃ kvs k b,Rd H a (.dT kvs)∧y=.ref b∧H b=Ab (.tup (k.map kV))∧r=yB kvs k
def mT (H:Hp)(a:Af)(y v:V)(H':Hp):Prop:=
 (∃ kvs k,H a=Ab (.dK kvs)∧y=kV k∧kvs.length<sizeLine∧H'=upd H a (.dK (yL kvs k v))) ∨
 ∃ kvs k b,H a=Ab (.dT kvs)∧y=.ref b∧H b=Ab (.tup (k.map kV))∧kvs.length<sizeLine∧H'=upd H a (.dT (yL kvs k v))
theorem kF.k {H:Hp}{a:Af}{kvs:Aa (Key × V)}{k:Key}(e:H a=Ab (.dK kvs)):kF H a (kV k) (yB kvs k):=.inl ⟨kvs,k,.inl e,rfl,rfl⟩
theorem kF.t {H:Hp}{a b:Af}{k:Aa Key}(e:H a=Ab (.dT kvs))(eb:H b=Ab (.tup (k.map kV))):kF H a (.ref b) (yB kvs k):=.inr ⟨kvs,k,b,.inl e,rfl,eb,rfl⟩
theorem mT.k {H:Hp}{a:Af}{kvs:Aa (Key × V)}{k:Key}{v:V}(e:H a=Ab (.dK kvs))(hl:kvs.length<sizeLine):mT H a (kV k) v (upd H a (.dK (yL kvs k v))):=.inl ⟨kvs,k,e,rfl,hl,rfl⟩
theorem mT.t {H:Hp}{a b:Af}{k:Aa Key}{v:V}(e:H a=Ab (.dT kvs))(eb:H b=Ab (.tup (k.map kV)))(hl:kvs.length<sizeLine) :
  mT H a (.ref b) v (upd H a (.dT (yL kvs k v))):=.inr ⟨kvs,k,b,e,rfl,eb,hl,rfl⟩
section
variable {X:Cx}{pins:Aa (Af × Cg)}{σ : St}{H:Hp}{s:Ag}{a:Af}{y v:V}{u r:Ac}{o:Am V}{A:Bu}{E:Ac→Ag→Prop}
theorem Inv.big (I:Inv X pins σ H s):Io<s.heap.objs.size:=by
 have h:Cf<s.heap.objs.size:=(I.mod.glob.keeps I.bk).lt;exact Ku (by decide) h
theorem oT (hu:A.units+1<Ex)(I:Inv X pins σ H s)(g:kF H a y (Ab v))(ry:qL y u)(h:∀ w' s',Inv X pins σ H s'→qL v w'→Q w' s') :
  Ao (Au X.prog X.w) A (Jh (.ref a) u) Q E s:=by
 rcases g with⟨kvs,k,e,ey,l⟩|⟨kvs,k,b,e,ey,eb,l⟩
 ·subst ey
  obtain⟨z,hd,vs,rel,dd⟩:=d3 I.hok e;obtain⟨w',hw,rw'⟩:=vA.some_of (v:=v) (o:=Qm vs k) (by rw[l];exact rel.val k)
  exact wpAny_getItem_of (m7 ry) dd.mapOf hw (h w' _ (I.tok _) rw')
 ·subst ey
  cases (show u=Cb b from ry)
  obtain⟨z,hd,xs,rel,dd⟩:=d7 I.hok e;obtain⟨w',hw,rw'⟩:=vA.some_of (v:=v) (o:=(Te xs k).map (·.2)) (by rw[l];exact rel.val k)
  obtain⟨p,hp,hp2⟩:=Cs.mp hw;refine wpAny_getItem_heap (Od hu) (m9 I.hok eb) dd hp ?_;rw[hp2];exact h w' _ (I.tok _) rw'
theorem HN (hu:A.units+1<Ex)(I:Inv X pins σ H s)(g:kF H a y o)(ry:qL y u)(h:∀ s',Inv X pins σ H s'→Q (.bool o.isSome) s') :
  Ao (Au X.prog X.w) A (Dc .In u (.ref a)) Q E s:=by
 rcases g with⟨kvs,k,e,ey,l⟩|⟨kvs,k,b,e,ey,eb,l⟩
 ·subst ey
  obtain⟨z,hd,vs,rel,dd⟩:=d3 I.hok e;refine wpAny_in_of (m7 ry) hd dd.mapOf ?_;rw[← (rel.val k).isSome_eq,← l];exact h _ (I.tok _)
 ·subst ey
  cases (show u=Cb b from ry)
  obtain⟨z,hd,xs,rel,dd⟩:=d7 I.hok e;refine wpAny_in_heap (Od hu) (m9 I.hok eb) hd dd ?_;have q:=(rel.val k).isSome_eq;rw[O7] at q;rw[← q,← l];exact h _ (I.tok _)
theorem t8 {h':Bk}{t':Aj}{ob:HO}(I:Inv X pins σ H s)(mu:Mut (H a))(hs:En a s.heap h')(he:∃ q,h'.get? a=Ab q)(new:zA X.prog X.w (upd H a ob) h' a ob) :
  Inv X pins σ (upd H a ob) { s with heap:=h',toks:=t' }:=
 I.write (x:=a) (e:=a) mu (.inl rfl) (fun b q hb z=>(hs.2 b hb).trans z) he new
theorem oY {P:Be}{w:Bt}{h':Bk}{kvs:Aa (Key × V)}{vs:Aa (Key × Ac)}(z:kvs.length≤sizeLine)(hd:(a == Io)=false)(rel:KV kvs vs)(dd:h'.DictOf (zI P w) a vs) :
  zA P w H' h' a (.dK kvs):=⟨z,hd,vs,rel,dd⟩
theorem oU {Q:Ow→Ag→Prop}(hu:A.units+1<Ex)(I:Inv X pins σ H s)(g:mT H a y v H')(ry:qL y u)(rv:qL v r)(h:∀ s',Inv X pins σ H' s'→Q () s') :
  Ao (Au X.prog X.w) A (Yb (.ref a) u r) Q E s:=by
 rcases g with⟨kvs,k,e,ey,l,eH⟩|⟨kvs,k,b,e,ey,eb,l,eH⟩
 ·subst ey eH
  obtain⟨z,hd,vs,rel,dd⟩:=iB I.hok e;have hz:vs.length≤sizeLine:=by rw[← rel.length];exact z
  have hl:(yL kvs k v).length≤sizeLine:=by have:=jJ kvs k v;omega
  refine wpAny_setItem_pairs (hsz:=hz) (m7 ry) dd fun h' dd' hs=>h _ ?_;have he:∃ q,h'.get? a=Ab q:=let ⟨q,_,_,hq,_⟩:=dd';⟨q,hq⟩
  exact t8 I (by rw[e];exact Gm) hs he (oY hl hd (rel.put k rv) dd')
 ·subst ey eH
  cases (show u=Cb b from ry)
  obtain⟨z,hd,xs,rel,dd⟩:=SL I.hok e;have hz:xs.length≤sizeLine:=by rw[← Paired.length rel];exact z
  have hl:(yL kvs k v).length≤sizeLine:=by have:=jJ kvs k v;omega
  refine wpAny_setItem_heap (hsz:=hz) (Od hu) (m9 I.hok eb) dd fun h' dd' hs=>h _ ?_;obtain⟨q,es,ep,hq,h2,h3,h4,_,h5⟩:=dd';refine t8 I (by rw[e];exact Gm) hs ⟨q,hq⟩ ⟨hl,hd,_,(rel.put k eb rv).keeps fun c ys ec=>?_,q,es,ep,hq,h2,h3,h4,h5⟩
  rw[qF (RB ec e (fun z=>nomatch z))];exact ec
end
def XY (i:Bp):Prop:=∀ ov iv,subscripted i false ov iv=operate [ov,iv] (Jh ov iv)
theorem BD {prog:Be}{w:Bt}{A:Bu}{E:Ac→Ag→Prop}{s:Ag}{env:Ht}{value slice:Bp}{pos:Ek}{T id:Ed}
  (hl:Xk (.type T) "__getitem__" = pure (Ab (.builtin id))) (hs:XY slice)
  (h:Ao (Au prog w) A (eval value env) (fun o s₁=>Ao (Au prog w) A (eval slice env) (fun i s₂=>s₂.TypeIs o T∧Ao (Au prog w) A (Jh o i) Q E s₂) E s₁) E s) :
  Ao (Au prog w) A (eval (.Subscript value slice pos) env) Q E s:=by
 refine Tc (Gj h (fun o s₁ h₁=>Gj h₁ (fun i s₂ h₂=>?_) fun _ _ x=>x) fun _ _ x=>x);obtain⟨hT,h₂⟩:=h₂;unfold O6;refine Ad ?_;rw[getitemInPython_of_ne hT.not_modules];refine Ad (Qn hT hl ?_);have fin:Ao (Au prog w) A (subscripted slice false o i) (fun r s₃=>Ao (Au prog w) A (letTemporaryGo value o r >>= fun _=>pure r) Q E s₃) E s₂:=by
  rw[hs o i];exact wpAny_operating (Gj h₂ (fun r s₃ h₃=>Ad (wpAny_letTemporaryGo (Ak h₃))) fun _ _ x=>x)
 first
  |exact Ak (Ad fin)
  |exact Ad (Ak (Ad fin))
  |exact Ad fin
theorem eF {X:Cx}{pins:Aa (Af × Cg)}{σ:St}{H:Hp}{s:Ag}{a:Af}{y:V}{o:Am V}(I:Inv X pins σ H s)(g:kF H a y o):s.TypeIs (.ref a) "dict":=by
 rcases g with⟨kvs,k,e,_,_⟩|⟨kvs,k,b,e,_,_,_⟩
 ·obtain⟨_,_,vs,_,dd⟩:=d3 I.hok e
  exact dd.typeIs
 ·obtain⟨_,_,xs,_,dd⟩:=d7 I.hok e
  exact dd.typeIs
theorem WN {P:Be}{w:Bt}{H:Hp}(h:Bk)(hb:Io<h.objs.size):zA P w H (h.push { cls:=.type "dict",data:=.dict #[] }) h.objs.size (.dK []):=
 ⟨Gx _,Im.mpr (Fx (Cd hb)),[],.nil,Heap.DictOf.new h⟩
def D1:TE:=fun _ H Q=>∀ p,H p=none→Q (.ref p) (upd H p (.dK []))
section
variable {X:Cx}{pos:Ek}
theorem rD:PE X (.Dict [] [] pos) D1:=fun pins s σ H Q I h =>
 wpAny_Dict_empty ⟨.ref s.heap.objs.size,_,I.laid (a:=s.heap.objs.size) (o:=.dK []) (t':=s.toks) (fun _ _ q=>Ah _ q) (Az _) (WN s.heap I.big),rfl,h _ (I.hok.fresh (Az _))⟩
end
end _L
namespace _A
open PySem PySem.W PySem.Calls PyProof.Rows
theorem fY {P:Params}{h:Bk}:∀ (ns:Aa Al) (vs:Aa Ac),WellAll P h vs (ns.map Zq)→Ip vs ns:=by
 intro ns
 induction ns with
 |nil =>
  intro vs w;rw[Uf] at w;cases w;exact .nil
 |cons n ns ih =>
  intro vs w;rw[Dv] at w;cases w with
  |cons a b =>
   cases a;exact .cons _ _ (ih _ b)
theorem XE {l:OpenLaw}{n:Aj}(hn:l.most=Ab n){P:Params}{h:Bk}{args:Aa WData}{vals:Aa Ac}
  (hpre:l.row.toRowW.claim.pre args=true) (hwl:WellAll P h vals args) :
  ∃ a vs ns,vals=[Cb a]∧args=[WData.list (ns.map Zq)]∧h.get? a=Ab { cls:=.type "list",data:=.seq vs.toArray } ∧ Ip vs ns∧ns.length≤n:=by
 have hsh:WShape.hasAll [] args [.list .int]=true:=(pre_splitW hpre).1;have hc:l.pre.holds [] { args:=args } = true:=(pre_splitW hpre).2;obtain⟨d,r,rfl,h1,h2⟩:=hasAllW_cons hsh;obtain rfl:=hasAllW_nil h2;obtain⟨xs,rfl,h3⟩:=hasW_list h1;obtain⟨ns,rfl⟩:=items_int h3;have hlen:ns.length≤n:=by
  unfold OpenLaw.pre at hc;have h4:(WTm.not (.lt (.lit (.int (n:Al))) (.len (.arg 0)))).holds [] { args:=[.list (ns.map .int)] } = true:=by
   have h4:=(holds_andW hc).1;rw[hn] at h4;exact h4
  have h5:=condW_of h4 (w_not (w_lt w_lit (w_len_list (w_arg rfl))));rw[Aq] at h5;refine Pd fun q=>?_;have q':(n:Al)<((ns.length:Aj):Al):=by omega
  first
   |(rw[Cu q'] at h5;exact absurd h5 (by decide))
   |(simp at h5;omega)
 cases hwl with
 |cons w1 w2 =>
  cases w2;cases w1 with
  |list ho hall=>exact⟨_,_,ns,rfl,rfl,ho,fY ns _ hall,hlen⟩
theorem ZQ (l:OpenLaw)(args:Aa WData):l.row.toRowW.claim.post args (.bool true) args=true:=
 postW_of (r:=l.row.toRowW) (X:=(true == true))
  (show Zi [] (.bool true) .bool=true by first|rfl|decide|simp[Zi,WShape.arms,WShape.armsAll])
  (show (WTm.eq .res (.lit (.bool true))).value [] { args:=args,res:=Ab (.bool true),after:=args } = Ab (.bool (true == true)) from w_eq_bool (w_res rfl) w_lit) rfl
theorem attach_call {l:OpenLaw}{n:Aj}{q:Be}{loose:Aa As}{XP:(As→Am Ac)→Bk→Prop}{YP:Bt→Bk→Prop}{d:DefRec}
  (hn:l.most=Ab n) (hdf:d.params.defaults=[])
  (call:∀ (w:Bt) (s₀ s₁:Ag) (mg mb:As→Am Ac) (fa:Af) (o:Cg) (pm cd doc:Ac) (a:Af) (vs:Aa Ac) (ns:Aa Al),
   Ground q loose [] XP w s₀ mg mb s₁.heap→YP w s₁.heap →
   s₁.heap.get? fa=Ab o→o.data=.func (docDef d.name d.params d.body d.scope pm cd doc)→s₁.heap.CodeRec cd d.name→mg d.name=Ab (.ref fa) →
   s₁.heap.get? a=Ab { cls:=.type "list",data:=.seq vs.toArray } → Ip vs ns→ns.length≤n→s₁.gens=#[] →
   Ic (Au l.prog w) O8 (.call (.ref fa) ⟨[.ref a],[]⟩) (fun r s'=>r=.ok (.ret (.bool true))∧OldK s₁.heap s'.heap∧s'.os=s₁.os∧Lq s'.gens) s₁) :
  WalkO q loose XP YP l.row.toRowW d [] (fun f vs=>Xn f vs):=by
 intro w s₀ s₁ mg mb G Y fa o pm cd doc dV kV ho hd hcd hD hmg hg args vals as hpre hlay hrd hwl hlo;obtain rfl:dV=.none:=Dflts.none hD hdf;obtain rfl:kV=.none:=Dflts.noKw hD;obtain⟨a,vs,ns,rfl,rfl,hobj,hints,hlen⟩:=XE hn hpre hwl;refine enter_call (Iw (call w s₀ s₁ mg mb fa o pm cd doc a vs ns G Y ho (fd_plain hd) hcd hmg hobj hints hlen hg) fun r s' hq=>?_);obtain⟨rfl,h2,h3,h4⟩:=hq;exact⟨.inl ⟨.bool true,.bool true,[],rfl,fun _=>rfl,.bool true,ZQ l _,fun _=>⟨Le,fun _ hm=>(nomatch hm)⟩⟩,h2,h3,h4⟩
end _A
namespace _L
open PySem PySem.Spec PyProof.Rows
theorem XO {vs:Aa Ac}{ns:Aa Al}(h:Ip vs ns):qJ (ns.map V.int) vs:=by
 induction h with
 |nil=>exact .nil
 |cons n t h ih=>exact .cons ⟨t,rfl⟩ ih
def SqX (K:Ai)(H:Hp)(a:Af)(xs:Aa V):Prop:=
 Rd H a (.lst xs)∨∃ (its:Aa Ac) (n:Aj),K.lookup a=Ab { cls:=.type "list",data:=.seq its.toArray n } ∧ xs.length≤sizeLine∧qJ xs its
theorem SqX.l {K:Ai}{H:Hp}{a:Af}{xs:Aa V}(h:SqX K H a xs):SqL K H a xs:=by
 rcases h with h|⟨its,n,e,l,v⟩
 ·exact .inl h
 ·exact .inr ⟨_,its.toArray,n,e,rfl,rfl,rfl,by rw[Aw,← v.length];exact l,by simpa using v⟩
end _L
namespace _L
open PySem PySem.Spec PyProof.Rows
variable {ps:Aa As}{f:Af}{x qual:As}{H:Hp}
def y7 (s:El):Mm:=match s with
 |.FunctionDef _ a _ _ _ _ _ _ _ _=>a
 |_=>{ posonlyargs:=[],args:=[],vararg:=none,kwonlyargs:=[],kw_defaults:=[],kwarg:=none,defaults:=[] }
def zH (s:El):Aa El:=match s with
 |.FunctionDef _ _ b _ _ _ _ _ _ _=>b
 |_=>[]
def qH (s:El):Ei:=match s with
 |.FunctionDef _ _ _ _ _ _ sc _ _ _=>sc
 |_=>{ kind:=.function,names:=[],isGenerator:=false,isCoroutine:=false }
abbrev CX0:CXT:=fun _ _ _ _ _ _=>Ev
structure Fun (K:Ai)(x qual:As)(st:El)(f:Af)(fd:Fb):Prop where
 ex:∃ (oc:Ac) (od:Am Af) (kV doc pm:Ac) (an:Am Af) (cdv ct:Ac) (osl:Bl (Am Ac)),
  fd=Gd x qual (y7 st) (zH st) (qH st) .none kV doc pm an cdv ct∧K.lookup f=Ab ⟨oc,od,.func fd,osl⟩∧Jg K cdv qual=true
 kp:Eu K (.ref f)=true
section
variable {P:Be}{w:Bt}{K:Ai}{mg:As→Am Ac}{base:Bk}
theorem Fun.ok {st:El}{fd:Fb}{N:Aa As}{k:Aj}{sp:Sp}(F:Fun K x qual st f fd)(S:FnScope N ps (qH st))(len:∀ vs H Q E,sp vs H Q E→vs.length=ps.length)
  (hbody:∀ (cdv:Ac) (A:Bu) (outer:Aa Ht) (s:Ag) (H:Hp) (vs:Aa V) (Q:VK) (E:XK),Room k (A.deeper (Fv qual (qH st) s.heap.objs.size f cdv))→sp vs H Q E →
   ∃ t,PSs (mZ CX0 P w K mg base N qual (qH st) f cdv A outer s H E).nox (zH st) t∧t { nx:=fun _ H'=>Q .non H',rt:=Q } (xV N vs) H):FnOk P w K mg base CX0 (k+1) f fd ps sp:=by
 obtain⟨oc,od,kV,doc,pm,an,cdv,ct,osl,rfl,lk,hcd⟩:=F.ex;refine SQ lk hcd S len fun A outer s H vs Q E hr hsp=>?_;obtain⟨t,h,q⟩:=hbody cdv A outer s H vs Q E hr hsp;exact⟨t,h.nox,q⟩
theorem Fun.binds {st:El}{fd:Fb}(F:Fun K x qual st f fd)
  (h:∀ (kV doc pm:Ac) (an:Am Af) (cdv ct:Ac) (us:Aa Ac),us.length=ps.length→Qj (Gd x qual (y7 st) (zH st) (qH st) .none kV doc pm an cdv ct) ⟨us,[]⟩=pure (ps.zip us)):vL K fd ps []:=by
 obtain⟨oc,od,kV,doc,pm,an,cdv,ct,osl,rfl,lk,hcd⟩:=F.ex;exact .all (h kV doc pm an cdv ct)
theorem MM {st:El}{oc:Ac}{od an:Am Af}{osl:Bl (Am Ac)}{kV doc pm cdv ct:Ac}(l:K.lookup f=Ab ⟨oc,od,.func (Gd x qual (y7 st) (zH st) (qH st) .none kV doc pm an cdv ct),osl⟩)
  (c:Jg K cdv qual=true) (k:Eu K (.ref f)=true):Fun K x qual st f (Gd x qual (y7 st) (zH st) (qH st) .none kV doc pm an cdv ct):=⟨⟨oc,od,kV,doc,pm,an,cdv,ct,osl,rfl,l,c⟩,k⟩
end
def qE (H H':Hp):Prop:=∀ b o,H b=Ab o→H' b=Ab o
theorem qE.refl (H:Hp):qE H H:=fun _ _ h=>h
theorem qE.trans {H1 H2:Hp}(a:qE H H1)(b:qE H1 H2):qE H H2:=fun c o h=>b c o (a c o h)
theorem qE.free {H':Hp}(e:qE H H'){l:Af}(h:H' l=Zd):H l=Zd:=by
 cases q:H l with
 |none=>rfl
 |some o =>
  rw[e l o q] at h;cases h
theorem qE.seq {K:Ai}{H':Hp}{a:Af}{xs:Aa V}(e:qE H H')(h:SqL K H a xs):SqL K H' a xs:=by
 rcases h with (h|⟨o,h⟩)|h
 ·exact .inl (.inl (e _ _ h))
 ·exact .inl (.inr ⟨o,e _ _ h⟩)
 ·exact .inr h
end _L
end
section
namespace _D
open PySem PySem.Spec PyProof.Rows _L
inductive D where
 |non|bl (b:Ar)|int (i:Al)|str (x:As)|ty (n:Ed)|obj (a:Af)|tup (xs:Aa D)|lst (xs:Aa D)|dct0|loc (i:Aj)|exn (c:Ac)|fd (ks:Aa Key) (ds:Aa D)|clo (a:Af) (vs:Aa V) (ds:Aa D)
def sJ (a:Af)(c:Ac):HO:=.ext fun h=>∃ ob,h.get? a=Ab ob∧ob.cls=c
inductive MO where
 |dead|lst (xs:Aa D)|dct (kvs:Aa (Key × D))|ins (C:Af) (fs:Aa (As × D))
abbrev Sto:=Aa MO
inductive Res (β : Type) where
 |ok (d:β) (S:Sto)|ex (c:Ac) (x:D) (S:Sto)|bad
@[inline] def Res.bind {β γ:Type}(r:Res β)(f:β→Sto→Res γ) : Res γ:=
 match r with
 |.ok d S=>f d S
 |.ex c x S=>.ex c x S
 |.bad=>.bad
theorem Res.bind_ok {β γ:Type}(d:β)(S:Sto)(f:β→Sto→Res γ) : (Res.ok d S).bind f=f d S:=rfl
section
variable (K:Ai)(P:Hp)(α : Aa Af)
mutual
def Rep:D→V→Prop
 |.non,v=>v=.non
 |.bl b,v=>v=.bl b
 |.int i,v=>v=.int i
 |.str x,v=>v=.str x
 |.ty n,v=>v=.ty n
 |.obj a,v=>v=.ref a∧Eu K (.ref a)=true
 |.tup ds,v=>∃ a vs,v=.ref a∧SqT K P a vs∧qD ds vs
 |.lst ds,v=>∃ a vs,v=.ref a∧SqX K P a vs∧qD ds vs
 |.dct0,v=>∃ a,v=.ref a∧P a=Ab (.dK [])
 |.loc i,v=>∃ a,v=.ref a∧α[i]? = Ab a
 |.exn c,v=>∃ a,v=.ref a∧P a=Ab (sJ a c)
 |.fd ks ds,v=>∃ a o vs,v=.ref a∧P a=Ab (.frz o (.dK (ks.zip vs)))∧ks.length=vs.length∧qD ds vs
 |.clo a vs ds,v=>v=.ref a∧qD ds vs
def qD:Aa D→Aa V→Prop
 |[],vs=>vs=[]
 |d::ds,vs=>∃ w ws,vs=w::ws∧Rep d w∧qD ds ws
end
end
section
variable {K:Ai}{P P':Hp}{α α':Aa Af}
theorem yN (e:qE P P'){a:Af}{xs:Aa V}(h:SqT K P a xs):SqT K P' a xs:=by
 rcases h with (h|⟨o,h⟩)|h
 ·exact .inl (.inl (e _ _ h))
 ·exact .inl (.inr ⟨o,e _ _ h⟩)
 ·exact .inr h
theorem cY (e:qE P P'){a:Af}{u:HO}(h:Rd P a u):Rd P' a u:=by
 rcases h with h|⟨o,h⟩
 ·exact .inl (e _ _ h)
 ·exact .inr ⟨o,e _ _ h⟩
theorem xA (e:qE P P'){a:Af}{xs:Aa V}(h:SqX K P a xs):SqX K P' a xs:=by
 rcases h with h|h
 ·exact .inl (cY e h)
 ·exact .inr h
theorem pX {i:Aj}{a:Af}(h:α<+:α')(e:α[i]? = Ab a):α'[i]? = Ab a:=by
 obtain⟨r,rfl⟩:=h;rw[Bg (Av.mp e).1];exact e
mutual
theorem Rep.mono (e:qE P P')(h:α<+:α'):∀ (d:D) (v:V),Rep K P α d v→Rep K P' α' d v
 |.non,_,r=>by simpa only [Rep] using r
 |.bl _,_,r=>by simpa only [Rep] using r
 |.int _,_,r=>by simpa only [Rep] using r
 |.str _,_,r=>by simpa only [Rep] using r
 |.ty _,_,r=>by simpa only [Rep] using r
 |.obj _,_,r=>by simpa only [Rep] using r
 |.tup ds,v,r=>by
  simp only[Rep] at r ⊢;obtain⟨a,vs,rfl,q,t⟩:=r;exact⟨a,vs,rfl,yN e q,qD.mono e h ds vs t⟩
 |.lst ds,v,r=>by
  simp only[Rep] at r ⊢;obtain⟨a,vs,rfl,q,t⟩:=r;exact⟨a,vs,rfl,xA e q,qD.mono e h ds vs t⟩
 |.dct0,v,r=>by
  simp only[Rep] at r ⊢;obtain⟨a,rfl,q⟩:=r;exact⟨a,rfl,e _ _ q⟩
 |.loc i,v,r=>by
  simp only[Rep] at r ⊢;obtain⟨a,rfl,q⟩:=r;exact⟨a,rfl,pX h q⟩
 |.exn c,v,r=>by
  simp only[Rep] at r ⊢;obtain⟨a,rfl,q⟩:=r;exact⟨a,rfl,e _ _ q⟩
 |.fd ks ds,v,r=>by
  simp only[Rep] at r ⊢;obtain⟨a,o,vs,rfl,q,hl,t⟩:=r;exact⟨a,o,vs,rfl,e _ _ q,hl,qD.mono e h ds vs t⟩
 |.clo a vs ds,v,r=>by
  simp only[Rep] at r ⊢;exact⟨r.1,qD.mono e h ds vs r.2⟩
theorem qD.mono (e:qE P P')(h:α<+:α'):∀ (ds:Aa D) (vs:Aa V),qD K P α ds vs→qD K P' α' ds vs
 |[],vs,r=>by simpa only [qD] using r
 |d::ds,vs,r=>by
  simp only[qD] at r ⊢;obtain⟨w,ws,rfl,r1,r2⟩:=r;exact⟨w,ws,rfl,Rep.mono e h d w r1,qD.mono e h ds ws r2⟩
end
theorem qD.nil:qD K P α [] []:=by simp only[qD]
theorem qD.cons {d:D}{v:V}{ds:Aa D}{vs:Aa V}(r:Rep K P α d v)(t:qD K P α ds vs):qD K P α (d::ds) (v::vs):=by
 simp only[qD];exact⟨v,vs,rfl,r,t⟩
theorem qD.nil_inv {vs:Aa V}(r:qD K P α [] vs):vs=[]:=by simpa only [qD] using r
theorem qD.cons_inv {d:D}{ds:Aa D}{vs:Aa V}(r:qD K P α (d::ds) vs):∃ w ws,vs=w::ws∧Rep K P α d w∧qD K P α ds ws:=by simpa only [qD] using r
theorem qD.length:∀ {ds:Aa D} {vs:Aa V},qD K P α ds vs→ds.length=vs.length
 |[],vs,r=>by rw[r.nil_inv];rfl
 |d::ds,vs,r=>by
  obtain⟨w,ws,rfl,_,t⟩:=r.cons_inv;rw[Cj,Cj,t.length]
theorem qD.append:∀ {ds es:Aa D} {vs ws:Aa V},qD K P α ds vs→qD K P α es ws→qD K P α (ds++es) (vs++ws)
 |[],es,vs,ws,r,t=>by rw[r.nil_inv];exact t
 |d::ds,es,vs,ws,r,t=>by
  obtain⟨w,us,rfl,r1,r2⟩:=r.cons_inv;exact .cons r1 (r2.append t)
theorem qD.get:∀ {ds:Aa D} {vs:Aa V} {i:Aj} {d:D},qD K P α ds vs→ds[i]? = Ab d→∃ v,vs[i]? = Ab v∧Rep K P α d v
 |[],_,_,_,_,e=>by simp at e
 |d::ds,vs,i,d',r,e=>by
  obtain⟨w,ws,rfl,r1,r2⟩:=r.cons_inv;cases i with
  |zero=>simp at e;subst e;exact⟨w,rfl,r1⟩
  |succ i =>
   obtain⟨v,h1,h2⟩:=r2.get (i:=i) (d:=d') (by simpa using e)
   exact⟨v,by simpa using h1,h2⟩
theorem qD.drop:∀ {ds:Aa D} {vs:Aa V} (n:Aj),qD K P α ds vs→qD K P α (ds.drop n) (vs.drop n)
 |ds,vs,0,r=>by simpa using r
 |[],vs,n+1,r=>by rw[r.nil_inv];exact .nil
 |d::ds,vs,n+1,r=>by
  obtain⟨w,ws,rfl,_,r2⟩:=r.cons_inv;simpa using r2.drop n
theorem qD.take:∀ {ds:Aa D} {vs:Aa V} (n:Aj),qD K P α ds vs→qD K P α (ds.take n) (vs.take n)
 |ds,vs,0,r=>by simpa using qD.nil
 |[],vs,n+1,r=>by rw[r.nil_inv];exact .nil
 |d::ds,vs,n+1,r=>by
  obtain⟨w,ws,rfl,r1,r2⟩:=r.cons_inv;simpa using qD.cons r1 (r2.take n)
theorem qD.set {d:D}{v:V}(q:Rep K P α d v):∀ {ds:Aa D} {vs:Aa V} (n:Aj),qD K P α ds vs→qD K P α (ds.set n d) (vs.set n v)
 |[],vs,n,r=>by rw[r.nil_inv];exact .nil
 |e::ds,vs,0,r=>by
  obtain⟨w,ws,rfl,r1,r2⟩:=r.cons_inv;exact .cons q r2
 |e::ds,vs,n+1,r=>by
  obtain⟨w,ws,rfl,r1,r2⟩:=r.cons_inv;exact .cons r1 (r2.set q n)
end
abbrev qG:=Aa (Am D)
def qZ (K:Ai)(P:Hp)(α : Aa Af)(σ : _L.St)(env:qG):Prop:=env.length=σ.length∧∀ (i:Aj) (d:D),env[i]? = Ab (Ab d)→∃ v,σ[i]? = Ab (Ab v)∧Rep K P α d v
def KVs (K:Ai)(P:Hp)(α : Aa Af){κ : Type}:Aa (κ × D)→Aa (κ × V)→Prop:=Paired fun (p:κ × D) (q:κ × V)=>p.1=q.1∧Rep K P α p.2 q.2
def MOk (K:Ai)(H P:Hp)(α : Aa Af)(a:Af):MO→Prop
 |.dead=>Je
 |.lst ds=>∃ vs,H a=Ab (.lst vs)∧qD K P α ds vs
 |.dct kvs=>∃ vs,H a=Ab (.dK vs)∧KVs K P α kvs vs
 |.ins C fs=>∃ dx vs,H a=Ab (.ins C dx vs)∧KVs K P α fs vs
inductive TbAt (x:As)(H P:Hp)(α : Aa Af)(T:Af):Prop
 |mk (ps:Bl Ac) (e:H T=Ab (.tbl ps)) (pn:P T=none) (an:T ∉ α) (ok:Jw ps.toList) (cd:∀ pos cv,Mn pos ps.toList=Ab cv→∃ c oc vs t,cv=.ref c∧H c=Ab (.frz oc (.frz oc (.own 0)))∧oc.data=.fields vs∧vs[1]? = Ab (.str (x ++ ".<locals>." ++ "<lambda>") t)):TbAt x H P α T
def aR (K:Ai)(H P:Hp)(α : Aa Af):Prop:=∀ x∈w9,∀ c T,Dk K x=Ab (c,T)→TbAt x H P α T
def MT (u:HO):Prop:=(∃ ps,u=.tbl ps)∨∃ o,u=.frz o (.frz o (.own 0))
theorem aR.keep {K:Ai}{H H' P P':Hp}{α α':Aa Af}(r:aR K H P α)(e:∀ b u,H b=Ab u→MT u→H' b=Ab u)(hp:∀ b u,H b=Ab u→MT u→P b=none→b ∉ α→P' b=none∧b ∉ α'):aR K H' P' α':=fun x hx c T h =>
 let ⟨ps,e1,pn,an,ok,cd⟩:=r x hx c T h
 let z:=hp _ _ e1 (.inl ⟨_,rfl⟩) pn an
 ⟨ps,e _ _ e1 (.inl ⟨_,rfl⟩),z.1,z.2,ok,fun pos cv q=>let ⟨c,oc,vs,t,a,b,d⟩:=cd pos cv q;⟨c,oc,vs,t,a,e _ _ b (.inr ⟨_,rfl⟩),d⟩⟩
structure Rel (K:Ai)(H P:Hp)(α : Aa Af)(S:Sto):Prop where
 tb:aR K H P α
 sub:qE P H
 len:α.length=S.length
 nd:α.Nodup
 sep:∀ (i:Aj) (a:Af) (o:MO),α[i]? = Ab a→S[i]? = Ab o→o≠.dead→P a=none
 at':∀ (i:Aj) (a:Af) (o:MO),α[i]? = Ab a→S[i]? = Ab o→MOk K H P α a o
 own:∀ (i:Aj) (a:Af),α[i]? = Ab a→H a≠none
section
variable {K:Ai}{H P P':Hp}{α α':Aa Af}{S:Sto}
theorem qZ.mono {σ : _L.St}{env:qG}(e:qE P P')(h:α<+:α')(r:qZ K P α σ env):qZ K P' α' σ env:=
 ⟨r.1,fun i d q=>let ⟨v,h1,h2⟩:=r.2 i d q;⟨v,h1,Rep.mono e h d v h2⟩⟩
theorem KVs.mono {κ : Type}(e:qE P P')(h:α<+:α'){kvs:Aa (κ × D)}{vs:Aa (κ × V)}(r:KVs K P α kvs vs):KVs K P' α' kvs vs:=by
 refine Paired.mapP r fun p q z=>⟨z.1,Rep.mono e h _ _ z.2⟩
theorem MOk.mono {a:Af}(e:qE P P')(h:α<+:α'):∀ {o:MO},MOk K H P α a o→MOk K H P' α' a o
 |.dead,_=>trivial
 |.lst _,⟨vs,q,r⟩=>⟨vs,q,qD.mono e h _ _ r⟩
 |.dct _,⟨vs,q,r⟩=>⟨vs,q,r.mono e h⟩
 |.ins _ _,⟨dx,vs,q,r⟩=>⟨dx,vs,q,r.mono e h⟩
theorem Rel.grow {H':Hp}(r:Rel K H P α S)(e:qE H H'):Rel K H' P α S where
 tb:=r.tb.keep (fun b u q _=>e _ _ q) fun _ _ _ _ p n=>⟨p,n⟩
 sub:=r.sub.trans e
 len:=r.len
 nd:=r.nd
 sep:=r.sep
 at':=fun i a o q1 q2=>by
  have m:=r.at' i a o q1 q2;cases o with
  |dead=>trivial
  |lst ds=>obtain⟨vs,q,t⟩:=m;exact⟨vs,e _ _ q,t⟩
  |dct kvs=>obtain⟨vs,q,t⟩:=m;exact⟨vs,e _ _ q,t⟩
  |ins C fs=>obtain⟨dx,vs,q,t⟩:=m;exact⟨dx,vs,e _ _ q,t⟩
 own:=fun i a q=>by
  have m:=r.own i a q;cases z:H a with
  |none=>exact absurd z m
  |some o=>rw[e _ _ z];intro w;cases w
theorem gB {H:Hp}{a:Af}{o:HO}(h:H a=none):qE H (upd H a o):=fun b u e=>by rw[qF (qR e h)];exact e
theorem Rel.pure {a:Af}{o:HO}(r:Rel K H P α S)(h:H a=none):Rel K (upd H a o) (upd P a o) α S∧qE P (upd P a o):=by
 have hP:P a=none:=by
  cases z:P a with
  |none=>rfl
  |some u=>rw[r.sub _ _ z] at h;cases h
 have sP:qE P (upd P a o):=gB hP;have r1:=r.grow (gB (o:=o) h);refine⟨⟨r.tb.keep (fun b u q _=>(qF (qR q h)).trans q) fun b u q _ p n=>⟨(qF (qR q h)).trans p,n⟩,fun b u e=>?_,r.len,r.nd,fun i b u q1 q2 q3=>?_,fun i b u q1 q2=>(r1.at' i b u q1 q2).mono sP (Bb _),r1.own⟩,sP⟩
 ·by_cases hb:b=a
  ·subst hb;rw[qQ] at e ⊢;exact e
  ·rw[qF hb] at e ⊢;exact r.sub _ _ e
 ·have hb:b≠a:=by rintro rfl;exact r.own i b q1 h
  rw[qF hb];exact r.sep i b u q1 q2 q3
theorem Rel.new {a:Af}{o:HO}{m:MO}(r:Rel K H P α S)(h:H a=none)(hm:MOk K (upd H a o) P (α ++ [a]) a m):Rel K (upd H a o) P (α ++ [a]) (S++[m]):=by
 have hP:P a=none:=by
  cases z:P a with
  |none=>rfl
  |some u=>rw[r.sub _ _ z] at h;cases h
 have r1:=r.grow (gB (o:=o) h);have hp:α<+:α++[a]:=Fa _ _;have split:∀ (i:Aj) (b:Af),(α++[a])[i]? = Ab b→(i<α.length∧α[i]? = Ab b)∨(i=α.length∧b=a):=fun i b q=>by
  by_cases hi:i<α.length
  ·rw[Bg hi] at q;exact .inl ⟨hi,q⟩
  ·rw[Df om] at q
   cases hk:i-α.length with
   |zero=>rw[hk] at q;simp at q;exact .inr ⟨by omega,q.symm⟩
   |succ k=>rw[hk] at q;simp at q
 refine⟨r.tb.keep (fun b u q _=>(qF (qR q h)).trans q) fun b u q _ p n=>⟨p,fun z=>(Co.mp z).elim n fun w=>qR q h (by simpa using w)⟩,r1.sub,by simp[r.len],?_,fun i b u q1 q2 q3=>?_,fun i b u q1 q2=>?_,fun i b q=>?_⟩
 ·rw[Hf]
  refine⟨r.nd,by simp,fun b hb c hc e=>?_⟩
  simp at hc;subst hc;subst e;obtain⟨i,hi,e⟩:=De.mp hb;exact r.own i b (by rw[Ap hi,e]) h
 ·rcases split i b q1 with⟨hi,z⟩|⟨hi,rfl⟩
  ·rw[Bg (by rw[← r.len];exact hi)] at q2
   exact r.sep i b u z q2 q3
  ·exact hP
 ·rcases split i b q1 with⟨hi,z⟩|⟨hi,rfl⟩
  ·rw[Bg (by rw[← r.len];exact hi)] at q2
   exact(r1.at' i b u z q2).mono (qE.refl _) hp
  ·rw[hi,r.len,Df (Az _)] at q2
   simp at q2;subst q2;exact hm
 ·rcases split i b q with⟨_,z⟩|⟨_,rfl⟩
  ·exact r1.own i b z
  ·rw[qQ];intro z;cases z
theorem lF {N:Aa Af}(hN:N.Nodup){i j:Aj}{x:Af}(a:N[i]? = Ab x)(b:N[j]? = Ab x):i=j:=by
 obtain⟨h1,e1⟩:=Av.mp a;obtain⟨h2,e2⟩:=Av.mp b;exact(Lr hN).mp (e1.trans e2.symm)
theorem Rel.put {a:Af}{i:Aj}{o:HO}{m m':MO}(r:Rel K H P α S)(ha:α[i]? = Ab a)(hs:S[i]? = Ab m)(hd:m≠.dead)(hm:MOk K (upd H a o) P α a m'):Rel K (upd H a o) P α (S.set i m'):=by
 have hP:=r.sep i a m ha hs hd;have hi:i<S.length:=(Av.mp hs).1;refine⟨r.tb.keep (fun b u q hu=>?_) fun _ _ _ _ p n=>⟨p,n⟩,fun b u e=>?_,by simp[r.len],r.nd,fun j b u q1 q2 q3=>?_,fun j b u q1 q2=>?_,fun j b q=>?_⟩
 ·refine(qF ?_).trans q
  rintro rfl;have z:=r.at' i _ m ha hs;cases m with
  |dead=>exact hd rfl
  |lst ds=>obtain⟨vs,z,_⟩:=z;rw[q] at z;rcases hu with⟨_,rfl⟩|⟨_,rfl⟩ <;> cases z
  |dct kvs=>obtain⟨vs,z,_⟩:=z;rw[q] at z;rcases hu with⟨_,rfl⟩|⟨_,rfl⟩ <;> cases z
  |ins C fs=>obtain⟨dx,vs,z,_⟩:=z;rw[q] at z;rcases hu with⟨_,rfl⟩|⟨_,rfl⟩ <;> cases z
 ·have hb:b≠a:=by rintro rfl;rw[hP] at e;cases e
  rw[qF hb];exact r.sub _ _ e
 ·by_cases hj:j=i
  ·subst hj;rw[ha] at q1;cases q1;exact hP
  ·rw[Bz (Fx hj)] at q2;exact r.sep j b u q1 q2 q3
 ·by_cases hj:j=i
  ·subst hj;rw[ha] at q1;cases q1
   rw[Cw hi] at q2;cases q2;exact hm
  ·rw[Bz (Fx hj)] at q2
   have hb:b≠a:=by rintro rfl;exact hj (lF r.nd q1 ha)
   have z:=r.at' j b u q1 q2;cases u with
   |dead=>trivial
   |lst ds=>obtain⟨vs,q,t⟩:=z;exact⟨vs,by rw[qF hb];exact q,t⟩
   |dct kvs=>obtain⟨vs,q,t⟩:=z;exact⟨vs,by rw[qF hb];exact q,t⟩
   |ins C fs=>obtain⟨dx,vs,q,t⟩:=z;exact⟨dx,vs,by rw[qF hb];exact q,t⟩
 ·by_cases hb:b=a
  ·subst hb;rw[qQ];intro z;cases z
  ·rw[qF hb];exact r.own j b q
end
theorem nn {β : Type}{a:β}{p:Prop}(h:(none:Am β) = Ab a):p:=by cases h
theorem kS {β : Type}{c:Prop}[Lc c]{a b:β}(h:(if c then Ab a else none)=Ab b):c∧a=b:=by
 by_cases z:c
 ·rw[Bh z] at h;exact⟨z,Cm h⟩
 ·rw[Bn z] at h;exact nn h
end _D
end
namespace _D
open PySem PySem.Spec PyProof.Rows _L
variable {more:Aa (Af × Cg)}{us args cs:Aa Ac}{body:Aa El}{vs:Aa V}{u vv:Ac}{p C:Af}{od:Am Af}{sl:Bl (Am Ac)}{np:Ek}{R:It→Hp→Prop}{M:Ls}{sp:Sp}{S S1:Sto}{Q:VK}
abbrev DE:=qG→Sto→Res D
abbrev DT:=qG→Sto→Res Ar
abbrev DA:=qG→Sto→Res (Aa D)
inductive Out where
 |nx (env:qG) (S:Sto)|rt (d:D) (S:Sto)|bk (env:qG) (S:Sto)|ct (env:qG) (S:Sto)|ex (c:Ac) (x:D) (env:qG) (S:Sto)|bad
abbrev DS:=qG→Sto→Out
def Old (X:Cx)(pins:Aa (Af × Cg))(H:Hp)(b:Af):Prop:=
 (∃ o,X.s₀.heap.get? b=Ab o)∨H b≠none∨(∃ p∈X.pn++pins,p.1=b)∨∃ x,X.env.cells.lookup x=Ab b
def Cv (X:Cx)(pins:Aa (Af × Cg))(H:Hp)(B h:Bk):Prop:=∀ b o,h.get? b=Ab o→Old X pins H b→b ∉ frs X.stack→B.get? b=Ab o
inductive FlyX (X:Cx)(pins:Aa (Af × Cg))(H:Hp)(c:Ac)(e:Af)(h:Bk):Prop where
 |new (g:Bk) (args:Aa Ac):Ry g h e c args→g.FunFrames X.base X.stack→(∀ b o,h.get? b=Ab o→Old X pins H b→g.get? b=Ab o)→FlyX X pins H c e h
 |fly (B:Bk) (a0:Ac):Mw B X.stack e c a0 h→Cv X pins H B h→FlyX X pins H c e h
inductive XOk (X:Cx)(P:Hp)(α : Aa Af)(c:Ac)(x:D)(S:Sto)(u:Ac)(s:Ag):Prop
 |mk (e:Af) (pins:Aa (Af × Cg)) (σ : _L.St) (H:Hp) (P':Hp) (α' : Aa Af) (e1:u=.ref e) (I:Inv X pins σ H s) (r:Rel X.K H P' α' S) (q1:qE P P') (q2:α<+:α') (q3:X.ex=[]∧X.stack=X.env::X.outer∧X.env.frame=Ab X.env.locals) (q4:FlyX X pins H c e s.heap):XOk X P α c x S u s
theorem XOk.base {X:Cx}{P P1:Hp}{α α1:Aa Af}{c:Ac}{x:D}{s:Ag}(e:qE P P1)(h:α<+:α1)(k:XOk X P1 α1 c x S u s):XOk X P α c x S u s:=by
 obtain⟨a,pins,σ,H,P',α',e1,I,r,q1,q2,q3,q4⟩:=k;exact⟨a,pins,σ,H,P',α',e1,I,r,e.trans q1,h.trans q2,q3,q4⟩
section
variable (X:Cx)
def qI {β:Type}(P:Hp)(α : Aa Af)(r:Res β)(Ok:β→Sto→Prop):Prop:=
 match r with
 |.ok d S'=>Ok d S'
 |.ex c x S'=>∀ u s',XOk X P α c x S' u s'→X.xe u s'
 |.bad=>Ev
def OkV (P:Hp)(α : Aa Af)(Q:VK)(d:D)(S':Sto):Prop:=∀ v H' P' α',Rel X.K H' P' α' S'→qE P P'→α<+:α'→Rep X.K P' α' d v→Q v H'
def OkT (P:Hp)(α : Aa Af)(Q:Ar→Hp→Prop)(b:Ar)(S':Sto):Prop:=∀ H' P' α',Rel X.K H' P' α' S'→qE P P'→α<+:α'→Q b H'
def OkA (P:Hp)(α : Aa Af)(Q:Aa V→Hp→Prop)(ds:Aa D)(S':Sto):Prop:=∀ vs H' P' α',Rel X.K H' P' α' S'→qE P P'→α<+:α'→qD X.K P' α' ds vs→Q vs H'
abbrev qV (P:Hp)(α : Aa Af)(r:Res D)(Q:VK):Prop:=qI X P α r (OkV X P α Q)
abbrev yC (P:Hp)(α : Aa Af)(r:Res Ar)(Q:Ar→Hp→Prop):Prop:=qI X P α r (OkT X P α Q)
abbrev gN (P:Hp)(α : Aa Af)(r:Res (Aa D))(Q:Aa V→Hp→Prop):Prop:=qI X P α r (OkA X P α Q)
def qX (P:Hp)(α : Aa Af)(r:Out)(D:Ends):Prop:=
 match r with
 |.nx env' S'=>∀ σ' H' P' α',Rel X.K H' P' α' S'→qZ X.K P' α' σ' env'→qE P P'→α<+:α'→D.nx σ' H'
 |.bk env' S'=>∀ σ' H' P' α',Rel X.K H' P' α' S'→qZ X.K P' α' σ' env'→qE P P'→α<+:α'→D.bk σ' H'
 |.ct env' S'=>∀ σ' H' P' α',Rel X.K H' P' α' S'→qZ X.K P' α' σ' env'→qE P P'→α<+:α'→D.ct σ' H'
 |.rt d S'=>∀ v H' P' α',Rel X.K H' P' α' S'→qE P P'→α<+:α'→Rep X.K P' α' d v→D.rt v H'
 |.ex c x _ S'=>∀ u s',XOk X P α c x S' u s'→X.xe u s'
 |.bad=>Ev
inductive tD (f:DE)(σ : _L.St)(H:Hp)(Q:VK):Prop
 |mk (P:Hp) (α : Aa Af) (env:qG) (S:Sto) (r:Rel X.K H P α S) (re:qZ X.K P α σ env) (af:qV X P α (f env S) Q):tD f σ H Q
inductive tDT (f:DT)(σ : _L.St)(H:Hp)(Q:Ar→Hp→Prop):Prop
 |mk (P:Hp) (α : Aa Af) (env:qG) (S:Sto) (r:Rel X.K H P α S) (re:qZ X.K P α σ env) (af:yC X P α (f env S) Q):tDT f σ H Q
inductive tDA (f:DA)(σ : _L.St)(H:Hp)(Q:Aa V→Hp→Prop):Prop
 |mk (P:Hp) (α : Aa Af) (env:qG) (S:Sto) (r:Rel X.K H P α S) (re:qZ X.K P α σ env) (af:gN X P α (f env S) Q):tDA f σ H Q
inductive tDS (f:DS)(D:Ends)(σ : _L.St)(H:Hp):Prop
 |mk (P:Hp) (α : Aa Af) (env:qG) (S:Sto) (r:Rel X.K H P α S) (re:qZ X.K P α σ env) (af:qX X P α (f env S) D):tDS f D σ H
end
section
variable {X:Cx}{P P1:Hp}{α α1:Aa Af}
theorem qV.base {r:Res D}(e:qE P P1)(h:α<+:α1)(k:qV X P α r Q):qV X P1 α1 r Q:=by
 cases r with
 |ok d S=>exact fun v H' P' α' r q1 q2 q3=>k v H' P' α' r (e.trans q1) (h.trans q2) q3
 |ex c x S=>exact fun u s' q=>k u s' (q.base e h)
 |bad=>exact k
theorem yC.base {r:Res Ar}{Q:Ar→Hp→Prop}(e:qE P P1)(h:α<+:α1)(k:yC X P α r Q):yC X P1 α1 r Q:=by
 cases r with
 |ok d S=>exact fun H' P' α' r q1 q2=>k H' P' α' r (e.trans q1) (h.trans q2)
 |ex c x S=>exact fun u s' q=>k u s' (q.base e h)
 |bad=>exact k
theorem gN.base {r:Res (Aa D)}{Q:Aa V→Hp→Prop}(e:qE P P1)(h:α<+:α1)(k:gN X P α r Q):gN X P1 α1 r Q:=by
 cases r with
 |ok d S=>exact fun v H' P' α' r q1 q2 q3=>k v H' P' α' r (e.trans q1) (h.trans q2) q3
 |ex c x S=>exact fun u s' q=>k u s' (q.base e h)
 |bad=>exact k
theorem qX.base {r:Out}{D:Ends}(e:qE P P1)(h:α<+:α1)(k:qX X P α r D):qX X P1 α1 r D:=by
 cases r with
 |nx env S=>exact fun v H' P' α' r q0 q1 q2=>k v H' P' α' r q0 (e.trans q1) (h.trans q2)
 |bk env S=>exact fun v H' P' α' r q0 q1 q2=>k v H' P' α' r q0 (e.trans q1) (h.trans q2)
 |ct env S=>exact fun v H' P' α' r q0 q1 q2=>k v H' P' α' r q0 (e.trans q1) (h.trans q2)
 |rt d S=>exact fun v H' P' α' r q1 q2 q3=>k v H' P' α' r (e.trans q1) (h.trans q2) q3
 |ex c x env S=>exact fun u s' q=>k u s' (q.base e h)
 |bad=>exact k
theorem xr {v:V}{H:Hp}{d:D}(k:OkV X P α Q d S)(r:Rel X.K H P α S)(q:Rep X.K P α d v):Q v H:=k v H P α r (qE.refl _) (Bb _) q
end
section
variable {X:Cx}{a b e:Bp}{pos:Ek}
theorem peW {t t':TE}(h:PE X e t)(w:∀ σ H Q,t' σ H Q→t σ H Q):PE X e t':=fun pins s σ H Q I q=>h pins s σ H Q I (w σ H Q q)
theorem psW {st:El}{t t':TS}(h:PS X st t)(w:∀ D σ H,t' D σ H→t D σ H):PS X st t':=fun pins s σ H D I q=>h pins s σ H D I (w D σ H q)
theorem NY {st:Aa El}{t t':TS}(h:PSs X st t)(w:∀ D σ H,t' D σ H→t D σ H):PSs X st t':=fun pins s σ H D I q=>h pins s σ H D I (w D σ H q)
theorem paW {es:Aa Bp}{t t':TA}(h:PA X es t)(w:∀ σ H Q,t' σ H Q→t σ H Q):PA X es t':=fun pos pins s σ H Q I q=>h pos pins s σ H Q I (w σ H Q q)
structure Got (X:Cx)(pins:Aa (Af × Cg))(σ : _L.St)(env:qG)(P:Hp)(α : Aa Af)(u:Ac)(s1:Ag)(v:V)(H1 P1:Hp)(α1:Aa Af)(d:D)(S1:Sto):Prop where
 inv:Inv X pins σ H1 s1
 val:qL v u
 rel:Rel X.K H1 P1 α1 S1
 env:qZ X.K P1 α1 σ env
 rep:Rep X.K P1 α1 d v
 same:qE P P1
 pre:α<+:α1
inductive GotG (X:Cx)(pins:Aa (Af × Cg))(σ : _L.St)(env:qG)(P:Hp)(α : Aa Af)(u:Ac)(s1:Ag){γ : Type}(g:D→Sto→Res γ)(Ok:γ→Sto→Prop):Prop
 |mk (v:V) (H1 P1:Hp) (α1:Aa Af) (d:D) (S1:Sto) (G:Got X pins σ env P α u s1 v H1 P1 α1 d S1) (q:qI X P α (g d S1) Ok):GotG X pins σ env P α u s1 g Ok
inductive GotAG (X:Cx)(pins:Aa (Af × Cg))(σ : _L.St)(env:qG)(P:Hp)(α : Aa Af)(us:Aa Ac)(s1:Ag){γ : Type}(g:Aa D→Sto→Res γ)(Ok:γ→Sto→Prop):Prop
 |mk (vs:Aa V) (H1 P1:Hp) (α1:Aa Af) (ds:Aa D) (S1:Sto) (I:Inv X pins σ H1 s1) (rv:qJ vs us) (r:Rel X.K H1 P1 α1 S1) (re:qZ X.K P1 α1 σ env) (rp:qD X.K P1 α1 ds vs) (e1:qE P P1) (e2:α<+:α1) (q:qI X P α (g ds S1) Ok):GotAG X pins σ env P α us s1 g Ok
inductive GotT (X:Cx)(pins:Aa (Af × Cg))(σ : _L.St)(env:qG)(P:Hp)(α : Aa Af)(b:Ar)(s1:Ag){γ : Type}(g:Ar→Sto→Res γ)(Ok:γ→Sto→Prop):Prop
 |mk (H1 P1:Hp) (α1:Aa Af) (S1:Sto) (I:Inv X pins σ H1 s1) (r:Rel X.K H1 P1 α1 S1) (re:qZ X.K P1 α1 σ env) (e1:qE P P1) (e2:α<+:α1) (q:qI X P α (g b S1) Ok):GotT X pins σ env P α b s1 g Ok
theorem zL {γ:Type}{f:DE}{g:D→Sto→Res γ}{Ok:γ→Sto→Prop}{pins:Aa (Af × Cg)}{s:Ag}{σ:_L.St}{H P:Hp}{α:Aa Af}{env:qG}(he:PE X e (tD X f))(I:Inv X pins σ H s)(r:Rel X.K H P α S)
  (re:qZ X.K P α σ env) (af:qI X P α ((f env S).bind g) Ok) :
  Ao (Au X.prog X.w) X.A (eval e X.env) (fun u s1=>GotG X pins σ env P α u s1 g Ok) X.xe s:=by
 refine thn (he pins s σ H (fun v H1=>∃ P1 α1 d S1,Rel X.K H1 P1 α1 S1∧qZ X.K P1 α1 σ env∧Rep X.K P1 α1 d v∧qE P P1∧α<+:α1∧qI X P α (g d S1) Ok) I ⟨P,α,env,S,r,re,?_⟩) fun u s1 ⟨v,H1,I1,rv,P1,α1,d,S1,q1,q2,q3,q4,q5,q6⟩=>⟨v,H1,P1,α1,d,S1,⟨I1,rv,q1,q2,q3,q4,q5⟩,q6⟩;cases q:f env S with
 |bad=>rw[q] at af;exact af
 |ex c x S'=>rw[q] at af;exact af
 |ok d S' =>
  rw[q] at af;exact fun v H' P' α' r' e1 e2 rp=>⟨P',α',d,S',r',re.mono e1 e2,rp,e1,e2,af⟩
theorem wV {γ:Type}{es:Aa Bp}{f:DA}{g:Aa D→Sto→Res γ}{Ok:γ→Sto→Prop}{pins:Aa (Af × Cg)}{s:Ag}{σ:_L.St}{H P:Hp}{α:Aa Af}{env:qG}(he:PA X es (tDA X f))(I:Inv X pins σ H s)(r:Rel X.K H P α S)
  (re:qZ X.K P α σ env) (af:qI X P α ((f env S).bind g) Ok) (pos:Ek) :
  Ao (Au X.prog X.w) X.A (spliced (Fq pos (Bi es X.env))) (fun us s1=>GotAG X pins σ env P α us s1 g Ok) X.xe s:=by
 refine thn (he pos pins s σ H (fun vs H1=>∃ P1 α1 ds S1,Rel X.K H1 P1 α1 S1∧qZ X.K P1 α1 σ env∧qD X.K P1 α1 ds vs∧qE P P1∧α<+:α1∧qI X P α (g ds S1) Ok) I ⟨P,α,env,S,r,re,?_⟩) fun u s1 ⟨v,H1,I1,rv,P1,α1,d,S1,q1,q2,q3,q4,q5,q6⟩=>⟨v,H1,P1,α1,d,S1,I1,rv,q1,q2,q3,q4,q5,q6⟩;cases q:f env S with
 |bad=>rw[q] at af;exact af
 |ex c x S'=>rw[q] at af;exact af
 |ok d S' =>
  rw[q] at af;exact fun v H' P' α' r' e1 e2 rp=>⟨P',α',d,S',r',re.mono e1 e2,rp,e1,e2,af⟩
theorem fR {γ:Type}{f:DT}{g:Ar→Sto→Res γ}{Ok:γ→Sto→Prop}{pins:Aa (Af × Cg)}{s:Ag}{σ:_L.St}{H P:Hp}{α:Aa Af}{env:qG}{m:Me Ar}
  (he:∀ (Q:Ar→Hp→Prop),tDT X f σ H Q→Ao (Au X.prog X.w) X.A m (TP X pins σ Q) X.xe s) (r:Rel X.K H P α S) (re:qZ X.K P α σ env) (af:qI X P α ((f env S).bind g) Ok) :
  Ao (Au X.prog X.w) X.A m (fun b s1=>GotT X pins σ env P α b s1 g Ok) X.xe s:=by
 refine thn (he (fun b H1=>∃ P1 α1 S1,Rel X.K H1 P1 α1 S1∧qZ X.K P1 α1 σ env∧qE P P1∧α<+:α1∧qI X P α (g b S1) Ok) ⟨P,α,env,S,r,re,?_⟩) fun b s1 ⟨H1,I1,P1,α1,S1,q1,q2,q4,q5,q6⟩=>⟨H1,P1,α1,S1,I1,q1,q2,q4,q5,q6⟩;cases q:f env S with
 |bad=>rw[q] at af;exact af
 |ex c x S'=>rw[q] at af;exact af
 |ok d S' =>
  rw[q] at af;exact fun H' P' α' r' e1 e2=>⟨P',α',S',r',re.mono e1 e2,e1,e2,af⟩
def dC (d:D):DE:=fun _ S=>.ok d S
def qC (i:Aj):DE:=fun env S=>match env[i]? with
 |some (Ab d)=>.ok d S
 |_=>.bad
theorem FN:PE X (.Constant (.int i) j pos) (tD X (dC (.int i))):=peW NN fun σ H Q ⟨P,α,env,S,r,re,af⟩=>xr af r (by simp only[Rep])
theorem SC:PE X (.Constant (.bool i) j pos) (tD X (dC (.bl i))):=peW RX fun σ H Q ⟨P,α,env,S,r,re,af⟩=>xr af r (by simp only[Rep])
theorem FT:PE X (.Constant (.str i) j pos) (tD X (dC (.str i))):=peW NQ fun σ H Q ⟨P,α,env,S,r,re,af⟩=>xr af r (by simp only[Rep])
theorem FQ:PE X (.Constant .none j pos) (tD X (dC .non)):=peW NO fun σ H Q ⟨P,α,env,S,r,re,af⟩=>xr af r (by simp only[Rep])
set_option tactic.hygienic true in
theorem BF {i:Aj}{σ:_L.St}{H:Hp}(h:tD X (qC i) σ H Q):D2 i σ H Q:=by
 obtain⟨P,α,env,S,r,re,af⟩:=h;unfold qC at af
 split at af
 ·rename_i d q
  obtain⟨v,h1,h2⟩:=re.2 i d q;exact⟨v,h1,xr af r h2⟩
 ·exact An af
theorem dv (i:Aj){x:As}(hN:X.N[i]? = Ab x:=by rfl)(hv:Vis X.env.scope x:=by first|exact Xx rfl|exact Wd (Xx rfl)|exact Wd (Wd rfl))(hd:(x == ("__debug__" : As))=false:=by decide)
  (hcd:(x == ("__classdict__" : As))=false:=by decide):PE X (.Name x pos) (tD X (qC i)):=peW (ZM hN hv hd hcd) fun σ H Q h=>BF h
theorem eY {x:As}{d:D}{v:V}(hg:Gl X x)(hm:X.mg x=Ab u)(r:qL v u)(q:∀ P α,Rep X.K P α d v)(hd:(x == ("__debug__" : As))=false:=by decide):PE X (.Name x pos) (tD X (dC d)):=
 peW (GW hg hm r hd) fun σ H Q ⟨P,α,env,S,r,re,af⟩=>xr af r (q _ _)
theorem JT {x:As}{n:Ed}(hg:Gl X x)(hm:X.mg x=none)(hv:Fl x=Ab (.type n))(hn:x ≠ "__name__":=by decide)(hd:(x == ("__debug__" : As))=false:=by decide):PE X (.Name x pos) (tD X (dC (.ty n))):=
 peW (GV (v:=.ty n) hg hm hv rfl hn hd) fun σ H Q ⟨P,α,env,S,r,re,af⟩=>xr af r (by simp only[Rep])
abbrev G2:=D→D→Sto→Res D
def OpD (X:Cx)(f:Ac→Ac→Me Ac)(g:G2):Prop:=
 ∀ (pins:Aa (Af × Cg)) (σ : _L.St) (H:Hp) (s:Ag) (P:Hp) (α : Aa Af) (S:Sto) (v u:V) (vv uu:Ac) (a b:D) (Q:VK),Inv X pins σ H s→Rel X.K H P α S→qL v vv→qL u uu→Rep X.K P α a v→Rep X.K P α b u→qV X P α (g a b S) Q →
  Ao (Au X.prog X.w) X.A (f vv uu) (EP X pins σ Q) X.xe s
theorem OpD.of {f:Ac→Ac→Me Ac}{r:R2}{g:G2}(h:OpR X f r)(w:∀ H P α S v u a b Q,Rel X.K H P α S→Rep X.K P α a v→Rep X.K P α b u→qV X P α (g a b S) Q→r v u H Q):OpD X f g:=
 fun pins σ H s P α S v u vv uu a b Q I rl r1 r2 p1 p2 af=>h pins s σ H v u vv uu Q I r1 r2 (w H P α S v u a b Q rl p1 p2 af)
def UnD (X:Cx)(f:Ac→Me Ac)(g:D→Sto→Res D):Prop:=
 ∀ (pins:Aa (Af × Cg)) (σ : _L.St) (H:Hp) (s:Ag) (P:Hp) (α : Aa Af) (S:Sto) (v:V) (vv:Ac) (a:D) (Q:VK),Inv X pins σ H s→Rel X.K H P α S→qL v vv→Rep X.K P α a v→qV X P α (g a S) Q →
  Ao (Au X.prog X.w) X.A (f vv) (EP X pins σ Q) X.xe s
def IxD (X:Cx)(g:G2):Prop:=
 ∀ (value slice:Bp) (pins:Aa (Af × Cg)) (σ : _L.St) (H:Hp) (s:Ag) (P:Hp) (α : Aa Af) (S:Sto) (v u:V) (vv uu:Ac) (a b:D) (Q:VK),Inv X pins σ H s→Rel X.K H P α S→qL v vv→qL u uu→Rep X.K P α a v→Rep X.K P α b u→qV X P α (g a b S) Q →
  subscripted slice false vv uu=operate [vv,uu] (Jh vv uu)→Ao (Au X.prog X.w) X.A (O6 value slice vv uu) (EP X pins σ Q) X.xe s
def wQ (X:Cx)(f:Ac)(g:Aa D→Sto→Res D):Prop:=
 ∀ (pins:Aa (Af × Cg)) (σ : _L.St) (H:Hp) (s:Ag) (P:Hp) (α : Aa Af) (S:Sto) (vs:Aa V) (us:Aa Ac) (ds:Aa D) (Q:VK),Inv X pins σ H s→Rel X.K H P α S→qJ vs us→qD X.K P α ds vs→qV X P α (g ds S) Q →
  Ao (Au X.prog X.w) X.A (call f us) (EP X pins σ Q) X.xe s
def d2 (g:G2)(fa fb:DE):DE:=fun env S=>(fa env S).bind fun x S1=>(fb env S1).bind fun y S2=>g x y S2
def d1 (g:D→Sto→Res D)(fa:DE):DE:=fun env S=>(fa env S).bind g
variable {fa fb:DE}
theorem sE {g:G2}{f:Ac→Ac→Me Ac}{pins:Aa (Af × Cg)}{s:Ag}{σ:_L.St}{H:Hp}(ho:OpD X f g)(ha:PE X a (tD X fa))(hb:PE X b (tD X fb))(I:Inv X pins σ H s)(h:tD X (d2 g fa fb) σ H Q) :
  Ao (Au X.prog X.w) X.A (eval a X.env) (fun v s₁=>Ao (Au X.prog X.w) X.A (eval b X.env) (fun u s₂=>Ao (Au X.prog X.w) X.A (f v u) (EP X pins σ Q) X.xe s₂) X.xe s₁) X.xe s:=by
 obtain⟨P,α,env,S,r,re,af⟩:=h;refine thn (zL ha I r re af) fun vv s1 ⟨v,H1,P1,α1,d,S1,G1,af1⟩=>?_;refine thn (zL hb G1.inv G1.rel G1.env (P:=P1) (α:=α1) (Ok:=OkV X P1 α1 Q) (g:=fun y S2=>g d y S2) ?_) fun uu s2 ⟨u,H2,P2,α2,d',S2,G2,af2⟩=>?_
 ·exact qV.base G1.same G1.pre af1
 ·exact ho pins σ H2 s2 P2 α2 S2 v u vv uu d d' Q G2.inv G2.rel G1.val G2.val (Rep.mono G2.same G2.pre _ _ G1.rep) G2.rep (qV.base G2.same G2.pre af2)
theorem SG {op:Operator}{g:G2}(ho:OpD X (Dz op) g)(ha:PE X a (tD X fa))(hb:PE X b (tD X fb)):PE X (.BinOp a op b pos) (tD X (d2 g fa fb)):=
 fun pins s σ H Q I h=>wpAny_BinOp (sE ho ha hb I h)
theorem FL {op:Ss}{g:G2}(ho:OpD X (Dc op) g)(ha:PE X a (tD X fa))(hb:PE X b (tD X fb))(hm:Jv op b=false:=by first|exact jT _|with_unfolding_all rfl):PE X (.Compare a [op] [b] pos) (tD X (d2 g fa fb)):=
 fun pins s σ H Q I h=>wpAny_Compare1 (sE ho ha hb I h) hm
theorem SH {op:UnaryOp}{g:D→Sto→Res D}(ho:UnD X (Vu op) g)(ha:PE X a (tD X fa)):PE X (.UnaryOp op a pos) (tD X (d1 g fa)):=by
 intro pins s σ H Q I h;obtain⟨P,α,env,S,r,re,af⟩:=h;exact UnaryOp_ (thn (zL ha I r re af) fun vv s1 ⟨v,H1,P1,α1,d,S1,G1,af1⟩=>ho pins σ H1 s1 P1 α1 S1 v vv d Q G1.inv G1.rel G1.val G1.rep (qV.base G1.same G1.pre af1))
theorem SE {g:G2}(ho:IxD X g)(ha:PE X a (tD X fa))(hb:PE X b (tD X fb))(hs:mV b:=by intro _ _;rfl):PE X (.Subscript a b pos) (tD X (d2 g fa fb)):=by
 intro pins s σ H Q I h;obtain⟨P,α,env,S,r,re,af⟩:=h;have IxR':IxR X (fun x y H Q=>∃ P α S a b,Rel X.K H P α S∧Rep X.K P α a x∧Rep X.K P α b y∧qV X P α (g a b S) Q):=fun value slice pins s σ H x y v u Q I rx ry ⟨P,α,S,a,b,r,p1,p2,af⟩ hsl =>
  ho value slice pins σ H s P α S x y v u a b Q I r rx ry p1 p2 af hsl
 refine peW (RY IxR' ha hb hs) (t':=tD X (d2 g fa fb)) (fun σ H Q h=>?_) pins s σ H Q I ⟨P,α,env,S,r,re,af⟩;obtain⟨P,α,env,S,r,re,af⟩:=h;refine⟨P,α,env,S,r,re,?_⟩;unfold d2 at af;cases q:fa env S with
 |bad=>rw[q] at af;exact af
 |ex c x S'=>rw[q] at af;exact af
 |ok d S1 =>
  rw[q] at af;intro v H1 P1 α1 r1 e1 e2 rp;refine⟨P1,α1,env,S1,r1,re.mono e1 e2,?_⟩;have af':qV X P α ((fb env S1).bind fun y S2=>g d y S2) Q:=af;cases q2:fb env S1 with
  |bad=>rw[q2] at af';exact af'
  |ex c x S'=>rw[q2] at af';exact fun u s' z=>af' u s' (z.base e1 e2)
  |ok d' S2 =>
   rw[q2] at af';intro u H2 P2 α2 r2 e3 e4 rp2;exact⟨P2,α2,S2,d,d',r2,Rep.mono e3 e4 _ _ rp,rp2,qV.base (e1.trans e3) (e2.trans e4) af'⟩
def qB:DA:=fun _ S=>.ok [] S
def qA (f:DE)(g:DA):DA:=fun env S=>(f env S).bind fun x S1=>(g env S1).bind fun xs S2=>.ok (x::xs) S2
theorem FF:PA X [] (tDA X qB):=paW NM fun σ H Q ⟨P,α,env,S,r,re,af⟩=>af [] H P α r (qE.refl _) (Bb _) .nil
theorem JS {es:Aa Bp}{g:DA}(ha:PE X e (tD X fa))(hr:PA X es (tDA X g))(hs:Bi (e::es) X.env=(false,eval e X.env)::Bi es X.env:=by rfl):PA X (e::es) (tDA X (qA fa g)):=by
 intro pos pins s σ H Q I h;obtain⟨P,α,env,S,r,re,af⟩:=h;rw[hs];show Ao _ _ (spliced ((false,eval e X.env)::Fq pos (Bi es X.env))) _ _ s;refine Ko (thn (zL ha I r re af) fun u s1 ⟨x,H1,P1,α1,d,S1,G1,af1⟩=>?_);refine thn (wV hr G1.inv G1.rel G1.env (P:=P1) (α:=α1) (Ok:=OkA X P1 α1 Q) (gN.base G1.same G1.pre af1) pos) fun us s2 ⟨xs,H2,P2,α2,ds,S2,I2,rv,r2,re2,rp2,e1,e2,af2⟩=>?_;exact⟨x::xs,H2,I2,.cons G1.val rv,af2 _ _ _ _ r2 e1 e2 (.cons (Rep.mono e1 e2 _ _ G1.rep) rp2)⟩
def lim:Aj:=16777216
theorem zJ:lim=sizeLine:=Ew.symm
def qN (f:DA):DE:=fun env S=>(f env S).bind fun xs S1=>if xs.length≤lim then .ok (.tup xs) S1 else .bad
def zG (f:DA):DE:=fun env S=>(f env S).bind fun xs S1=>if xs.length≤lim then .ok (.lst xs) S1 else .bad
def j6 (f:DA):DE:=fun env S=>(f env S).bind fun xs S1=>if xs.length≤lim then .ok (.loc S1.length) (S1++[.lst xs]) else .bad
theorem b0 {K:Ai}{P:Hp}{α:Aa Af}{a:Af}{ds:Aa D}(h:SqT K P a vs)(r:qD K P α ds vs):Rep K P α (.tup ds) (.ref a):=by simp only[Rep];exact⟨a,vs,rfl,h,r⟩
theorem tZ {K:Ai}{P:Hp}{α:Aa Af}{a:Af}{ds:Aa D}(h:SqX K P a vs)(r:qD K P α ds vs):Rep K P α (.lst ds) (.ref a):=by simp only[Rep];exact⟨a,vs,rfl,h,r⟩
theorem kZ {H P:Hp}{α:Aa Af}{ds:Aa D}(r:Rel X.K H P α S)(hp:H p=none)(rp:qD X.K P α ds vs)(af:OkV X P α Q (.tup ds) S):Q (.ref p) (upd H p (.tup vs)):=by
 obtain⟨r1,e1⟩:=r.pure (o:=.tup vs) hp;exact af _ _ _ α r1 e1 (Bb _) (b0 (.of qQ) (qD.mono e1 (Bb _) _ _ rp))
theorem wA {H P:Hp}{α:Aa Af}{ds:Aa D}(r:Rel X.K H P α S)(hp:H p=none)(rp:qD X.K P α ds vs)(af:OkV X P α Q (.lst ds) S):Q (.ref p) (upd H p (.lst vs)):=by
 obtain⟨r1,e1⟩:=r.pure (o:=.lst vs) hp;exact af _ _ _ α r1 e1 (Bb _) (tZ (.inl (.inl qQ)) (qD.mono e1 (Bb _) _ _ rp))
theorem pR {H P:Hp}{α:Aa Af}{ds:Aa D}(r:Rel X.K H P α S)(hp:H p=none)(rp:qD X.K P α ds vs)(af:OkV X P α Q (.loc S.length) (S++[.lst ds])):Q (.ref p) (upd H p (.lst vs)):=by
 have hpre:α<+:α++[p]:=Fa _ _;have r1:=r.new (o:=.lst vs) (m:=.lst ds) hp ⟨vs,qQ,qD.mono (qE.refl _) hpre _ _ rp⟩;refine af _ _ _ _ r1 (qE.refl _) hpre ?_;simp only[Rep];exact⟨p,rfl,by rw[← r.len];simp⟩
theorem t9 {f:DA}{σ:_L.St}{H:Hp}{G:Aa D→Sto→Res D}{mk:Aa V→HO}(h:tD X (fun env S=>(f env S).bind fun xs S1=>if xs.length≤lim then G xs S1 else .bad) σ H Q)
  (k:∀ H1 P1 α1 S1 ds vs p,Rel X.K H1 P1 α1 S1→H1 p=none→qD X.K P1 α1 ds vs→qV X P1 α1 (G ds S1) Q→Q (.ref p) (upd H1 p (mk vs))) :
  tDA X f σ H fun vs H1=>vs.length≤sizeLine∧∀ p,H1 p=none→Q (.ref p) (upd H1 p (mk vs)):=by
 obtain⟨P,α,env,S,r,re,af⟩:=h;refine⟨P,α,env,S,r,re,?_⟩;have af':qV X P α ((f env S).bind fun xs S1=>if xs.length≤lim then G xs S1 else .bad) Q:=af
 cases q:f env S with
 |bad=>rw[q] at af';exact af'
 |ex c x S'=>rw[q] at af';exact af'
 |ok ds S1 =>
  rw[q] at af';intro vs H1 P1 α1 r1 e1 e2 rp;have af2:qV X P α (if ds.length≤lim then G ds S1 else .bad) Q:=af'
  by_cases hl:ds.length≤lim
  ·rw[Bh hl] at af2
   exact⟨by rw[← rp.length,← zJ];exact hl,fun p hp=>k H1 P1 α1 S1 ds vs p r1 hp rp (qV.base e1 e2 af2)⟩
  ·rw[Bn hl] at af2;exact An af2
theorem FU {es:Aa Bp}{f:DA} {x1} (h:PA X es (tDA X f)):PE X (.Tuple es x1 pos) (tD X (qN f)):=
 peW (NR h) fun σ H Q q=>t9 (G:=fun xs S1=>.ok (.tup xs) S1) (mk:=.tup) q fun H1 P1 α1 S1 ds vs p r hp rp af=>kZ r hp rp af
theorem FP {es:Aa Bp}{f:DA}(h:PA X es (tDA X f)):PE X (.List es pos) (tD X (zG f)):=
 peW (ZL h) fun σ H Q q=>t9 (G:=fun xs S1=>.ok (.lst xs) S1) (mk:=.lst) q fun H1 P1 α1 S1 ds vs p r hp rp af=>wA r hp rp af
theorem JX {es:Aa Bp}{f:DA}(h:PA X es (tDA X f)):PE X (.List es pos) (tD X (j6 f)):=
 peW (ZL h) fun σ H Q q=>t9 (G:=fun xs S1=>.ok (.loc S1.length) (S1++[MO.lst xs])) (mk:=.lst) q fun H1 P1 α1 S1 ds vs p r hp rp af=>pR r hp rp af
end
section
variable {X:Cx}{a b c e:Bp}{pos:Ek}{fa fb fc:DE}{ta tb:DT}
def xN:D→Sto→Am Ar
 |.non,_=>Ab false
 |.bl b,_=>Ab b
 |.int i,_=>Ab (i != 0)
 |.str x,_=>if x.length≤lim then Ab ((x.length:Al) != 0) else none
 |.tup xs,_=>Ab (!xs.isEmpty)
 |.lst xs,_=>Ab (!xs.isEmpty)
 |.dct0,_=>Ab false
 |.loc i,S=>match S[i]? with
  |some (.lst xs)=>Ab (!xs.isEmpty)
  |some (.dct kvs)=>Ab (!kvs.isEmpty)
  |_=>none
 |_,_=>none
theorem qD.isEmpty {K:Ai}{P:Hp}{α:Aa Af}{ds:Aa D}(r:qD K P α ds vs):(!ds.isEmpty)=!vs.isEmpty:=by
 cases ds with
 |nil=>rw[r.nil_inv];rfl
 |cons d ds=>obtain⟨w,ws,rfl,_,_⟩:=r.cons_inv;rfl
theorem xG {K:Ai}{H P:Hp}(e:qE P H){a:Af}{xs:Aa V}(h:SqT K P a xs):SqT K H a xs:=yN e h
theorem uF {H P:Hp}{α:Aa Af}{v:V}{d:D}{k:Ar}(r:Rel X.K H P α S)(p:Rep X.K P α d v)(h:xN d S=Ab k):aS X.K v H k:=by
 cases d with
 |non=>simp only[Rep] at p;subst p;cases h;rfl
 |bl b=>simp only[Rep] at p;subst p;cases h;rfl
 |int i=>simp only[Rep] at p;subst p;cases h;rfl
 |str x =>
  simp only[Rep] at p;subst p;obtain⟨hl,rfl⟩:=kS h;exact⟨by rw[← zJ];exact hl,rfl⟩
 |tup xs =>
  simp only[Rep] at p;obtain⟨a,vs,rfl,q,t⟩:=p;cases h;exact .inr (.inl ⟨vs,xG r.sub q,t.isEmpty⟩)
 |lst xs =>
  simp only[Rep] at p;obtain⟨a,vs,rfl,q,t⟩:=p;cases h;exact .inl ⟨vs,(xA r.sub q).l,t.isEmpty⟩
 |dct0 =>
  simp only[Rep] at p;obtain⟨a,rfl,q⟩:=p;cases h;exact .inr (.inr ⟨[],r.sub _ _ q,rfl⟩)
 |loc i =>
  simp only[Rep] at p;obtain⟨a,rfl,q⟩:=p;have h:(match S[i]? with|some (.lst xs)=>Ab (!xs.isEmpty)|some (.dct kvs)=>Ab (!kvs.isEmpty)|_=>none)=Ab k:=h
  cases hs:S[i]? with
  |none=>rw[hs] at h;exact nn h
  |some m =>
   rw[hs] at h;cases m with
   |lst xs =>
    cases h;obtain⟨vs,z,t⟩:=r.at' i a _ q hs;exact .inl ⟨vs,.of z,t.isEmpty⟩
   |dct kvs =>
    cases h;obtain⟨vs,z,t⟩:=r.at' i a _ q hs;refine .inr (.inr ⟨vs,z,?_⟩);cases t <;> rfl
   |_=>exact nn h
 |ty n=>exact nn h
 |obj a=>exact nn h
 |exn c=>exact nn h
 |fd ks ds=>exact nn h
 |clo a vs ds=>exact nn h
theorem JB {pins:Aa (Af × Cg)}{s:Ag}{σ:_L.St}{H P:Hp}{α:Aa Af}{v:V}{d:D}{k:Ar}{Q:Ar→Hp→Prop}(I:Inv X pins σ H s)(r:Rel X.K H P α S)(rv:qL v vv)(p:Rep X.K P α d v)(h:xN d S=Ab k)(q:Q k H) :
  Ao (Au X.prog X.w) X.A (truthy vv) (TP X pins σ Q) X.xe s:=pA pins s σ H v vv Q I rv ⟨k,uF r p h,q⟩
def jL (o:Am Ar)(S:Sto):Res Ar:=match o with
 |some b=>.ok b S
 |none=>.bad
def dTr (f:DE):DT:=fun env S=>(f env S).bind fun d S1=>jL (xN d S1) S1
theorem n8 {o:Am Ar}{P:Hp}{α:Aa Af}{Ok:Ar→Sto→Prop}(h:qI X P α (jL o S) Ok):∃ b,o=Ab b∧Ok b S:=by
 cases o with
 |none=>exact An h
 |some b=>exact⟨b,rfl,h⟩
theorem MA (ha:PE X a (tD X fa))(he:∀ whole,isTrue a X.env whole=(do let v ← whole;Tf a.pos;holding [v] (truthy v)):=by intro _;rfl):PT X a (tDT X (dTr fa)):=by
 intro pins s σ H Q I h;obtain⟨P,α,env,S,r,re,af⟩:=h;refine isTrue_plain (thn (zL ha I r re af) fun vv s1 ⟨v,H1,P1,α1,d,S1,G1,af1⟩=>?_) (he _);obtain⟨k,e1,q⟩:=n8 af1;exact JB G1.inv G1.rel G1.val G1.rep e1 (q H1 P1 α1 G1.rel G1.same G1.pre)
theorem M8 {op:Ss}{g:G2}(ho:OpD X (Dc op) g)(ha:PE X a (tD X fa))(hb:PE X b (tD X fb))(hm:Jv op b=false:=by first|exact jT _|with_unfolding_all rfl):PT X (.Compare a [op] [b] pos) (tDT X (dTr (d2 g fa fb))):=by
 intro pins s σ H Q I h;obtain⟨P,α,env,S,r,re,af⟩:=h;refine wpAny_isTrue_Compare1 ?_ hm;have key:tD X (d2 g fa fb) σ H (fun v H1=>∃ k,aS X.K v H1 k∧Q k H1):=by
  refine⟨P,α,env,S,r,re,?_⟩;have af':qI X P α ((d2 g fa fb env S).bind fun d S1=>jL (xN d S1) S1) (OkT X P α Q):=af;cases q:d2 g fa fb env S with
  |bad=>rw[q] at af';exact af'
  |ex c x S'=>rw[q] at af';exact af'
  |ok d S1 =>
   rw[q] at af';obtain⟨k,e1,qk⟩:=n8 (X:=X) af';exact fun v H1 P1 α1 r1 e3 e4 rp=>⟨k,uF r1 rp e1,qk H1 P1 α1 r1 e3 e4⟩
 exact thn (sE ho ha hb I key) fun v s1 h1=>thn h1 fun u s2 h2=>thn h2 fun x s3 ⟨y,H3,I3,r3,k,tk,qk⟩=>pA pins s3 σ H3 y x Q I3 r3 ⟨k,tk,qk⟩
def wU (g g':G2)(fa fb fc:DE):DE:=fun env S=>(fa env S).bind fun x S1=>(fb env S1).bind fun y S2=>(g x y S2).bind fun z S3 =>
 match xN z S3 with
 |some true=>(fc env S3).bind fun w S4=>g' y w S4
 |some false=>.ok z S3
 |none=>.bad
inductive GotO (X:Cx)(pins:Aa (Af × Cg))(σ : _L.St)(P:Hp)(α : Aa Af)(w:Ac)(s1:Ag){γ : Type}(k:D→Sto→Res γ)(Ok:γ→Sto→Prop):Prop
 |mk (y:V) (H1 P1:Hp) (α1:Aa Af) (d:D) (S1:Sto) (I:Inv X pins σ H1 s1) (rv:qL y w) (r:Rel X.K H1 P1 α1 S1) (rp:Rep X.K P1 α1 d y) (e1:qE P P1) (e2:α<+:α1) (q:qI X P α (k d S1) Ok):GotO X pins σ P α w s1 k Ok
theorem rC {γ:Type}{f:Ac→Ac→Me Ac}{g:G2}{k:D→Sto→Res γ}{Ok:γ→Sto→Prop}{pins:Aa (Af × Cg)}{σ:_L.St}{H:Hp}{s:Ag}{P:Hp}{α:Aa Af}{v u:V}{uu:Ac}{a b:D}(ho:OpD X f g)(I:Inv X pins σ H s)(r:Rel X.K H P α S)
  (rv:qL v vv) (ru:qL u uu) (pa:Rep X.K P α a v) (pb:Rep X.K P α b u) (af:qI X P α ((g a b S).bind k) Ok) :
  Ao (Au X.prog X.w) X.A (f vv uu) (fun w s1=>GotO X pins σ P α w s1 k Ok) X.xe s:=by
 refine thn (ho pins σ H s P α S v u vv uu a b (fun y H1=>∃ P1 α1 d S1,Rel X.K H1 P1 α1 S1∧Rep X.K P1 α1 d y∧qE P P1∧α<+:α1∧qI X P α (k d S1) Ok) I r rv ru pa pb ?_) fun w s1 ⟨y,H1,I1,r1,P1,α1,d,S1,q1,q2,q3,q4,q5⟩=>⟨y,H1,P1,α1,d,S1,I1,r1,q1,q2,q3,q4,q5⟩;cases q:g a b S with
 |bad=>rw[q] at af;exact af
 |ex c x S'=>rw[q] at af;exact af
 |ok d S' =>
  rw[q] at af;exact fun v H' P' α' r' e1 e2 rp=>⟨P',α',d,S',r',rp,e1,e2,af⟩
theorem qI.base' {β:Type}{P P1:Hp}{α α1:Aa Af}{r:Res β}{Ok Ok1:β→Sto→Prop}(e:qE P P1)(h:α<+:α1)(ho:∀ d S,Ok d S→Ok1 d S)(k:qI X P α r Ok):qI X P1 α1 r Ok1:=by
 cases r with
 |ok d S=>exact ho d S k
 |ex c x S=>exact fun u s' q=>k u s' (q.base e h)
 |bad=>exact k
theorem WG {op op':Ss}{g g':G2}(ho:OpD X (Dc op) g)(ho':OpD X (Dc op') g')(ha:PE X a (tD X fa))(hb:PE X b (tD X fb))(hc:PE X c (tD X fc))
  (hm:Vb [op,op'] [b,c]=false:=by with_unfolding_all rfl):PE X (.Compare a [op,op'] [b,c] pos) (tD X (wU g g' fa fb fc)):=by
 intro pins s σ H Q I h;obtain⟨P,α,env,S,r,re,af⟩:=h;refine Compare_chain (thn (zL ha I r re af) fun vv s1 ⟨v,H1,P1,α1,d,S1,G1,af1⟩=>chain_link (thn (zL hb G1.inv G1.rel G1.env (qV.base G1.same G1.pre af1)) fun uu s2 ⟨u,H2,P2,α2,d',S2,G2,af2⟩ =>
  thn (rC ho G2.inv G2.rel G1.val G2.val (Rep.mono G2.same G2.pre _ _ G1.rep) G2.rep (qV.base G2.same G2.pre af2)) fun w s3 ⟨y,H3,P3,α3,z,S3,I3,r3,rl3,rp3,e3,e4,af3⟩=>?_)) hm
 cases ht:xN z S3 with
 |none=>simp only[ht] at af3;exact An af3
 |some k =>
  simp only[ht] at af3;have tv:=uF rl3 rp3 ht;refine thn (pA pins s3 σ H3 y w (fun k' H'=>k'=k∧H'=H3) I3 r3 ⟨k,tv,rfl,rfl⟩) fun k' s4 ⟨H4,I4,hk,hH⟩=>?_;subst hk;subst hH;cases k' with
  |false=>exact ite_ff ⟨y,H4,I4,r3,af3 y H4 P3 α3 rl3 e3 e4 rp3⟩
  |true =>
   refine ite_tt (chain_last (thn (zL hc I4 rl3 (G2.env.mono e3 e4) (qV.base e3 e4 af3)) fun ww s5 ⟨w',H5,P5,α5,d5,S5,G5,af5⟩=>?_));exact ho' pins σ H5 s5 P5 α5 S5 u w' uu ww d' d5 Q G5.inv G5.rel G2.val G5.val (Rep.mono (e3.trans G5.same) (e4.trans G5.pre) _ _ G2.rep) G5.rep (qV.base G5.same G5.pre af5)
theorem WT {op op':Ss}{g g':G2}(ho:OpD X (Dc op) g)(ho':OpD X (Dc op') g')(ha:PE X a (tD X fa))(hb:PE X b (tD X fb))(hc:PE X c (tD X fc))
  (hm:Vb [op,op'] [b,c]=false:=by with_unfolding_all rfl):PT X (.Compare a [op,op'] [b,c] pos) (tDT X (dTr (wU g g' fa fb fc))):=by
 intro pins s σ H Q I h;obtain⟨P,α,env,S,r,re,af⟩:=h;have af':qI X P α ((wU g g' fa fb fc env S).bind fun d S1=>jL (xN d S1) S1) (OkT X P α Q):=af;have assoc:(wU g g' fa fb fc env S).bind (fun d S1=>jL (xN d S1) S1)=(fa env S).bind fun x S1=>(fb env S1).bind fun y S2=>(g x y S2).bind fun z S3 =>
   match xN z S3 with
   |some true=>((fc env S3).bind fun w S4=>g' y w S4).bind fun d S1=>jL (xN d S1) S1
   |some false=>.ok false S3
   |none=>.bad:=by
  unfold wU;cases fa env S with
  |bad=>rfl
  |ex _ _ _=>rfl
  |ok x S1 =>
   show Res.bind (Res.bind (fb env S1) _) _=Res.bind (fb env S1) _;cases fb env S1 with
   |bad=>rfl
   |ex _ _ _=>rfl
   |ok y S2 =>
    show Res.bind (Res.bind (g x y S2) _) _=Res.bind (g x y S2) _;cases g x y S2 with
    |bad=>rfl
    |ex _ _ _=>rfl
    |ok z S3 =>
     show Res.bind (match xN z S3 with|some true=>(fc env S3).bind fun w S4=>g' y w S4|some false=>.ok z S3|none=>.bad) _=_
     cases ht:xN z S3 with
     |none=>simp only[ht,Res.bind]
     |some k=>cases k <;> simp only[ht,Res.bind,jL]
 rw[assoc] at af';refine isTrue_chain (thn (zL ha I r re af') fun vv s1 ⟨v,H1,P1,α1,d,S1,G1,af1⟩=>test_link (thn (zL hb G1.inv G1.rel G1.env (yC.base G1.same G1.pre af1)) fun uu s2 ⟨u,H2,P2,α2,d',S2,G2,af2⟩ =>
  thn (rC ho G2.inv G2.rel G1.val G2.val (Rep.mono G2.same G2.pre _ _ G1.rep) G2.rep (yC.base G2.same G2.pre af2)) fun w s3 ⟨y,H3,P3,α3,z,S3,I3,r3,rl3,rp3,e3,e4,af3⟩=>?_)) hm
 cases ht:xN z S3 with
 |none=>simp only[ht] at af3;exact An af3
 |some k =>
  simp only[ht] at af3;have tv:=uF rl3 rp3 ht;refine thn (pA pins s3 σ H3 y w (fun k' H'=>k'=k∧H'=H3) I3 r3 ⟨k,tv,rfl,rfl⟩) fun k' s4 ⟨H4,I4,hk,hH⟩=>?_;subst hk;subst hH;cases k' with
  |false=>exact ite_ff ⟨H4,I4,af3 H4 P3 α3 rl3 e3 e4⟩
  |true =>
   have af4:qI X P2 α2 ((fc env S3).bind fun w S4=>(g' d' w S4).bind fun d S1=>jL (xN d S1) S1) (OkT X P2 α2 Q):=by
    have e:((fc env S3).bind fun w S4=>(g' d' w S4).bind fun d S1=>jL (xN d S1) S1)=(((fc env S3).bind fun w S4=>g' d' w S4).bind fun d S1=>jL (xN d S1) S1):=by
     cases fc env S3 <;> rfl
    rw[e];exact af3
   refine ite_tt (test_last (thn (zL hc I4 rl3 (G2.env.mono e3 e4) (yC.base e3 e4 af4)) fun ww s5 ⟨w',H5,P5,α5,d5,S5,G5,af5⟩ =>
    thn (rC ho' G5.inv G5.rel G2.val G5.val (Rep.mono (e3.trans G5.same) (e4.trans G5.pre) _ _ G2.rep) G5.rep (yC.base G5.same G5.pre af5)) fun x6 s6 ⟨y6,H6,P6,α6,d6,S6,I6,r6,rl6,rp6,e5,e6,af6⟩=>?_))
   obtain⟨k6,q6,z6⟩:=n8 af6;exact JB I6 rl6 r6 rp6 q6 (z6 H6 P6 α6 rl6 e5 e6)
def vN (t:DT):DT:=fun env S=>(t env S).bind fun b S1=>.ok (!b) S1
def lY (t u:DT):DT:=fun env S=>(t env S).bind fun b S1=>if b then u env S1 else .ok false S1
def bQ (t u:DT):DT:=fun env S=>(t env S).bind fun b S1=>if b then .ok true S1 else u env S1
theorem M9 (ha:PT X a (tDT X ta)):PT X (.UnaryOp .Not a pos) (tDT X (vN ta)):=by
 intro pins s σ H Q I h;obtain⟨P,α,env,S,r,re,af⟩:=h;refine isTrue_not (thn (fR (fun Q' q=>ha pins s σ H Q' I q) r re af) fun b s1 ⟨H1,P1,α1,S1,I1,r1,re1,e1,e2,af1⟩=>⟨H1,I1,af1 H1 P1 α1 r1 e1 e2⟩)
def PWD (X:Cx)(e:Bp)(t:DT):Prop:=PW X e (tDT X t)
theorem PWD.pt {t:DT}(h:PWD X e t):PT X e (tDT X t):=h _
theorem KB (ha:PT X a (tDT X ta)):PWD X (.BoolOp .And [a] pos) ta:=PD ha
theorem MC (ha:PT X a (tDT X ta)):PWD X (.BoolOp .Or [a] pos) ta:=L0 ha
theorem MB {rest:Aa Bp}(ha:PT X a (tDT X ta))(hb:PWD X (.BoolOp .And (b::rest) pos) tb):PWD X (.BoolOp .And (a::b::rest) pos) (lY ta tb):=by
 intro wh pins s σ H Q I h;obtain⟨P,α,env,S,r,re,af⟩:=h;refine isTrue_and (thn (fR (fun Q' q=>ha pins s σ H Q' I q) r re af) fun k s1 ⟨H1,P1,α1,S1,I1,r1,re1,e1,e2,af1⟩=>?_);cases k with
 |true=>exact hb wh pins s1 σ H1 Q I1 ⟨P1,α1,env,S1,r1,re1,yC.base e1 e2 af1⟩
 |false=>exact⟨H1,I1,af1 H1 P1 α1 r1 e1 e2⟩
theorem SM {rest:Aa Bp}(ha:PT X a (tDT X ta))(hb:PWD X (.BoolOp .Or (b::rest) pos) tb):PWD X (.BoolOp .Or (a::b::rest) pos) (bQ ta tb):=by
 intro wh pins s σ H Q I h;obtain⟨P,α,env,S,r,re,af⟩:=h;refine isTrue_or (thn (fR (fun Q' q=>ha pins s σ H Q' I q) r re af) fun k s1 ⟨H1,P1,α1,S1,I1,r1,re1,e1,e2,af1⟩=>?_);cases k with
 |true=>exact⟨H1,I1,af1 H1 P1 α1 r1 e1 e2⟩
 |false=>exact hb wh pins s1 σ H1 Q I1 ⟨P1,α1,env,S1,r1,re1,yC.base e1 e2 af1⟩
def kI (f g:DE):DE:=fun env S=>(f env S).bind fun x S1=>match xN x S1 with
 |some true=>g env S1
 |some false=>.ok x S1
 |none=>.bad
def WC (f:DE):DE:=fun env S=>(f env S).bind fun x S1=>match xN x S1 with
 |some b=>.ok (.bl (!b)) S1
 |none=>.bad
theorem FS  (h:PE X a (tD X fa)):PE X (.BoolOp op [a] pos) (tD X fa):=NP h
theorem D7 {pins:Aa (Af × Cg)}{s:Ag}{σ:_L.St}{H:Hp}{v:V}{k:Ar}{R:Ar→Ag→Prop}(I:Inv X pins σ H s)(rv:qL v vv)(t:aS X.K v H k)(h:∀ s',Inv X pins σ H s'→R k s') :
  Ao (Au X.prog X.w) X.A (truthy vv) R X.xe s:=thn (pA pins s σ H v vv (fun k' H'=>k'=k∧H'=H) I rv ⟨k,t,rfl,rfl⟩) fun k' s4 ⟨H4,I4,hk,hH⟩=>by subst hk;subst hH;exact h s4 I4
theorem FI {rest:Aa Bp}(ha:PE X a (tD X fa))(hb:PE X (.BoolOp .And (b::rest) pos) (tD X fb)):PE X (.BoolOp .And (a::b::rest) pos) (tD X (kI fa fb)):=by
 intro pins s σ H Q I h;obtain⟨P,α,env,S,r,re,af⟩:=h;refine BoolOp_and (thn (zL ha I r re af) fun vv s1 ⟨v,H1,P1,α1,d,S1,G1,af1⟩=>?_);cases ht:xN d S1 with
 |none=>simp only[ht] at af1;exact An af1
 |some k =>
  simp only[ht] at af1;refine D7 G1.inv G1.val (uF G1.rel G1.rep ht) fun s2 I2=>?_;cases k with
  |true=>exact hb pins s2 σ H1 Q I2 ⟨P1,α1,env,S1,G1.rel,G1.env,qV.base G1.same G1.pre af1⟩
  |false=>exact⟨v,H1,I2,G1.val,af1 v H1 P1 α1 G1.rel G1.same G1.pre G1.rep⟩
theorem FR (ha:PE X a (tD X fa)):PE X (.UnaryOp .Not a pos) (tD X (WC fa)):=by
 intro pins s σ H Q I h;obtain⟨P,α,env,S,r,re,af⟩:=h;refine UnaryOp_ (thn (zL ha I r re af) fun vv s1 ⟨v,H1,P1,α1,d,S1,G1,af1⟩=>?_);cases ht:xN d S1 with
 |none=>simp only[ht] at af1;exact An af1
 |some k =>
  simp only[ht] at af1;exact not_of (D7 G1.inv G1.val (uF G1.rel G1.rep ht) fun s2 I2=>⟨.bl (!k),H1,I2,rfl,af1 (.bl (!k)) H1 P1 α1 G1.rel G1.same G1.pre (by simp only[Rep])⟩)
end
@[inline] def Res.toS {β:Type}(env:qG)(r:Res β)(k:β→Sto→Out):Out:=
 match r with
 |.ok d S=>k d S
 |.ex c x S=>.ex c x env S
 |.bad=>.bad
section
variable {X:Cx}{a b c e:Bp}{pos:Ek}{fa fb fc:DE}{ta tb:DT}{f g:DS}{st:El}{rest:Aa El}
def zO:DS:=fun env S=>.nx env S
def qM (f g:DS):DS:=fun env S=>match f env S with
 |.nx env1 S1=>g env1 S1
 |o=>o
theorem M2:PSs X [] (tDS X zO):=NY P9 fun D σ H ⟨P,α,env,S,r,re,af⟩=>af σ H P α r re (qE.refl _) (Bb _)
theorem K8 (h1:PS X st (tDS X f))(h2:PSs X rest (tDS X g)):PSs X (st::rest) (tDS X (qM f g)):=NY (V7 h1 h2) fun D σ H ⟨P,α,env,S,r,re,af⟩=>by
 refine⟨P,α,env,S,r,re,?_⟩;unfold qM at af;cases q:f env S with
 |nx env1 S1 =>
  rw[q] at af;exact fun σ' H' P' α' r' re' e1 e2=>⟨P',α',env1,S1,r',re',qX.base e1 e2 af⟩
 |rt d S1=>rw[q] at af;exact af
 |bk env1 S1=>rw[q] at af;exact af
 |ct env1 S1=>rw[q] at af;exact af
 |ex c x env1 S1=>rw[q] at af;exact af
 |bad=>rw[q] at af;exact af
theorem M3 (h1:PS X st (tDS X f)):PSs X [st] (tDS X f):=PC h1
theorem w6 {β:Type}{P:Hp}{α:Aa Af}{env:qG}{r:Res β}{k:β→Sto→Out}{D:Ends}(h:qX X P α (r.toS env k) D):qI X P α r fun d S=>qX X P α (k d S) D:=by
 cases r with
 |ok d S=>exact h
 |ex c x S=>exact h
 |bad=>exact h
inductive GotS (X:Cx)(pins:Aa (Af × Cg))(σ : _L.St)(env:qG)(P:Hp)(α : Aa Af)(u:Ac)(s1:Ag)(k:D→Sto→Out)(E:Ends):Prop
 |mk (v:V) (H1 P1:Hp) (α1:Aa Af) (d:D) (S1:Sto) (G:Got X pins σ env P α u s1 v H1 P1 α1 d S1) (q:qX X P1 α1 (k d S1) E):GotS X pins σ env P α u s1 k E
theorem fQ {k:D→Sto→Out}{pins:Aa (Af × Cg)}{s:Ag}{σ:_L.St}{H P:Hp}{α:Aa Af}{env:qG}{D:Ends}(he:PE X e (tD X fa))(I:Inv X pins σ H s)(r:Rel X.K H P α S)
  (re:qZ X.K P α σ env) (af:qX X P α ((fa env S).toS env k) D) :
  Ao (Au X.prog X.w) X.A (eval e X.env) (fun u s1=>GotS X pins σ env P α u s1 k D) X.xe s:=by
 have af1:qI X P α ((fa env S).bind fun d S=>.ok d S) fun d S=>qX X P α (k d S) D:=by
  have:=w6 af;cases q:fa env S <;> rw[q] at this <;> exact this
 exact thn (zL he I r re af1) fun u s1 ⟨v,H1,P1,α1,d,S1,G,q⟩=>⟨v,H1,P1,α1,d,S1,G,qX.base G.same G.pre q⟩
def wD (f:DE):DS:=fun env S=>(f env S).toS env fun _ S1=>.nx env S1
theorem K9 (he:PE X e (tD X fa))(hs:Lf e none pos.line X.env=pure false:=by rfl):PS X (.Expr e pos) (tDS X (wD fa)):=by
 intro pins s σ H D I h;obtain⟨P,α,env,S,r,re,af⟩:=h;exact wpAny_Expr_any (thn (fQ he I r re af) fun v s1 ⟨x,H1,P1,α1,d,S1,G,q⟩=>⟨σ,H1,G.inv,q σ H1 P1 α1 G.rel G.env (qE.refl _) (Bb _)⟩) I.quiet hs
def z9 (f:DE):DS:=fun env S=>(f env S).toS env fun d S1=>.rt d S1
theorem M5 (he:PE X e (tD X fa)):PS X (.Return (Ab e) pos) (tDS X (z9 fa)):=by
 intro pins s σ H D I h;obtain⟨P,α,env,S,r,re,af⟩:=h;exact wpAny_Return_some (thn (fQ he I r re af) fun v s1 ⟨x,H1,P1,α1,d,S1,G,q⟩=>⟨x,σ,H1,G.inv,G.val,q x H1 P1 α1 G.rel (qE.refl _) (Bb _) G.rep⟩)
def sIf (t:DT)(f g:DS):DS:=fun env S=>(t env S).toS env fun b S1=>if b then f env S1 else g env S1
theorem SK {as bs:Aa El}(hc:PT X c (tDT X ta))(ha:PSs X as (tDS X f))(hb:PSs X bs (tDS X g)):PS X (.If c as bs pos) (tDS X (sIf ta f g)):=by
 intro pins s σ H D I h;obtain⟨P,α,env,S,r,re,af⟩:=h;have af1:qI X P α ((ta env S).bind fun d S=>.ok d S) fun b S=>qX X P α (if b then f env S else g env S) D:=by
  have:=w6 af;cases q:ta env S <;> rw[q] at this <;> exact this
 refine wpAny_If (thn (fR (fun Q' q=>hc pins s σ H Q' I q) r re af1) fun k s1 ⟨H1,P1,α1,S1,I1,r1,re1,e1,e2,af2⟩=>?_);cases k with
 |true=>exact ha pins s1 σ H1 D I1 ⟨P1,α1,env,S1,r1,re1,qX.base e1 e2 af2⟩
 |false=>exact hb pins s1 σ H1 D I1 ⟨P1,α1,env,S1,r1,re1,qX.base e1 e2 af2⟩
abbrev DG:=D→qG→Sto→Res qG
abbrev DGs:=Aa D→qG→Sto→Res qG
def OkE (X:Cx)(P:Hp)(α : Aa Af)(Q:_L.St→Hp→Prop)(env':qG)(S':Sto):Prop:=∀ σ' H' P' α',Rel X.K H' P' α' S'→qZ X.K P' α' σ' env'→qE P P'→α<+:α'→Q σ' H'
def tDG (X:Cx)(g:DG):TG:=fun v σ H Q=>∃ P α env S d,Rel X.K H P α S∧qZ X.K P α σ env∧Rep X.K P α d v∧qI X P α (g d env S) (OkE X P α Q)
def rW (X:Cx)(g:DGs):TGs:=fun vs σ H Q=>∃ P α env S ds,Rel X.K H P α S∧qZ X.K P α σ env∧qD X.K P α ds vs∧qI X P α (g ds env S) (OkE X P α Q)
theorem qZ.set {K:Ai}{P:Hp}{α:Aa Af}{σ:_L.St}{env:qG}{d:D}{v:V}(re:qZ K P α σ env)(i:Aj)(rp:Rep K P α d v):qZ K P α (σ.set i (Ab v)) (env.set i (Ab d)):=by
 refine⟨by simp[re.1],fun j d' e=>?_⟩
 by_cases hj:i=j
 ·subst hj
  by_cases hi:i<env.length
  ·rw[Cw hi] at e
   cases e;exact⟨v,by rw[Cw (by rw[← re.1];exact hi)],rp⟩
  ·rw[Lw (by simp;omega)] at e;cases e
 ·rw[Bz hj] at e ⊢
  exact re.2 j d' e
def gNm (i:Aj):DG:=fun d env S=>.ok (env.set i (Ab d)) S
theorem K1 {i:Aj}{x:As}(hN:X.N.Nodup)(hi:X.N[i]? = Ab x:=by rfl)(hx:Loc X.env.scope x:=by first|exact Xx rfl|exact Wd rfl)(hf:X.fn x=true∨X.env.scope.names.lookup x=Ab .local:=by first|exact .inl rfl|exact .inr rfl|assumption):PG X (.Name x pos) (tDG X (gNm i)):=by
 intro pins s σ H v u Q I rv h;obtain⟨P,α,env,S,d,r,re,rp,af⟩:=h;exact GX hN hi hx hf pins s σ H v u Q I rv (af _ H P α r (re.set i rp) (qE.refl _) (Bb _))
def uA:DGs:=fun ds env S=>match ds with
 |[]=>.ok env S
 |_=>.bad
def xJ (g:DG)(gs:DGs):DGs:=fun ds env S=>match ds with
 |d::r=>(g d env S).bind fun env1 S1=>gs r env1 S1
 |[]=>.bad
theorem K2:PGs X [] (rW X uA):=by
 intro pins s σ H vs us Q I rv h;obtain⟨P,α,env,S,ds,r,re,rp,af⟩:=h;cases ds with
 |nil=>exact GY pins s σ H vs us Q I rv ⟨rp.nil_inv,af σ H P α r re (qE.refl _) (Bb _)⟩
 |cons d ds=>exact An af
theorem WK {es:Aa Bp}{g:DG}{gs:DGs}(h1:PG X e (tDG X g))(h2:PGs X es (rW X gs))(hs:(Gk (e::es) X.env).map (·.2)=assign e X.env::(Gk es X.env).map (·.2):=by rfl):PGs X (e::es) (rW X (xJ g gs)):=by
 intro pins s σ H vs us Q I rv h;obtain⟨P,α,env,S,ds,r,re,rp,af⟩:=h;cases ds with
 |nil=>exact An af
 |cons d ds =>
  obtain⟨w,ws,rfl,p1,p2⟩:=rp.cons_inv;refine V4 h1 h2 hs pins s σ H _ us Q I rv ⟨w,ws,rfl,P,α,env,S,d,r,re,p1,?_⟩;have af':qI X P α ((g d env S).bind fun env1 S1=>gs ds env1 S1) (OkE X P α Q):=af;cases q:g d env S with
  |bad=>rw[q] at af';exact af'
  |ex c x S'=>rw[q] at af';exact af'
  |ok env1 S1 =>
   rw[q] at af';intro σ' H' P' α' r' re' e1 e2;refine⟨P',α',env1,S1,ds,r',re',qD.mono e1 e2 _ _ p2,qI.base' e1 e2 (fun env' S' ok σ2 H2 P2 α2 r2 re2 e3 e4=>ok σ2 H2 P2 α2 r2 re2 (e1.trans e3) (e2.trans e4)) af'⟩
def gTp (n:Aj)(gs:DGs):DG:=fun d env S=>match d with
 |.tup xs=>if xs.length=n then gs xs env S else .bad
 |_=>.bad
set_option tactic.hygienic true in
theorem FX {es:Aa Bp}{k:Aj}{gs:DGs}{n:Aj}(hc:X.calm=true)(h:PGs X es (rW X gs))(hn:(Gk es X.env).length=n:=by rfl)(hst:(Gk es X.env).findIdx? (·.1)=none:=by rfl):PG X (.Tuple es k pos) (tDG X (gTp n gs)):=by
 intro pins s σ H v u Q I rv hw;obtain⟨P,α,env,S,d,r,re,rp,af⟩:=hw;cases d with
 |tup xs =>
  simp only[Rep] at rp;obtain⟨a,vs,rfl,q,t⟩:=rp;simp only[gTp] at af
  split at af
  ·rename_i hl
   exact NS hc h hn hst pins s σ H _ u Q I rv ⟨a,vs,rfl,xG r.sub q,by rw[← t.length];exact hl,P,α,env,S,xs,r,re,t,af⟩
  ·exact An af
 |_=>exact An af
abbrev G3:=D→D→D→Sto→Res Ow
def OkU (X:Cx)(P:Hp)(α : Aa Af)(Q:Hp→Prop)(_:Ow)(S':Sto):Prop:=∀ H' P' α',Rel X.K H' P' α' S'→qE P P'→α<+:α'→Q H'
def dJ (X:Cx)(g:G3):BY:=fun o i v H Q=>∃ P α S a b d,Rel X.K H P α S∧Rep X.K P α a o∧Rep X.K P α b i∧Rep X.K P α d v∧qI X P α (g a b d S) (OkU X P α Q)
def gSb (fo fi:DE)(g:G3):DG:=fun d env S=>(fo env S).bind fun o S1=>(fi env S1).bind fun i S2=>(g o i d S2).bind fun _ S3=>.ok env S3
theorem FW {o i:Bp}{fo fi:DE}{g:G3}(ho:PE X o (tD X fo))(hi:PE X i (tD X fi))(hs:dP X (dJ X g))
  (ha:∀ v,assign (.Subscript o i pos) X.env v=(do
   let ov ← holding [v] (eval o X.env)
   let iv ← holding [v,ov] (eval i X.env)
   Tf pos
   holding [v,ov,iv] (Yb ov iv v)
   release [v,ov,iv] []):=by intro _;rfl):PG X (.Subscript o i pos) (tDG X (gSb fo fi g)):=by
 intro pins s σ H v u Q I rv h;obtain⟨P,α,env,S,d,r,re,rp,af⟩:=h;rw[ha];refine Ad (Du (thn (zL ho I r re af) fun ov s1 ⟨x,H1,P1,α1,d1,S1,G1,af1⟩=>?_));refine Ad (Du (thn (zL hi G1.inv G1.rel G1.env (P:=P1) (α:=α1) (Ok:=OkE X P1 α1 Q) (qI.base' G1.same G1.pre (fun env' S' ok σ2 H2 P2 α2 r2 re2 e3 e4=>ok σ2 H2 P2 α2 r2 re2 (G1.same.trans e3) (G1.pre.trans e4)) af1)) fun iv s2 ⟨y,H2,P2,α2,d2,S2,G2,af2⟩=>?_));refine Ad (Ox (Ad (Du (thn (hs pins s2 σ H2 x y v ov iv u (fun H3=>Q σ H3) G2.inv G1.val G2.val rv ⟨P2,α2,S2,d1,d2,d,G2.rel,Rep.mono G2.same G2.pre _ _ G1.rep,G2.rep,Rep.mono (G1.same.trans G2.same) (G1.pre.trans G2.pre) _ _ rp,?_⟩) fun _ s3 ⟨H3,I3,q3⟩=>?_))))
 ·cases q:g d1 d2 d S2 with
  |bad=>rw[q] at af2;exact af2
  |ex c x S'=>rw[q] at af2;exact fun u s' z=>af2 u s' (z.base G2.same G2.pre)
  |ok w S3 =>
   rw[q] at af2;exact fun H' P' α' r' e1 e2=>af2 σ H' P' α' r' (G2.env.mono e1 e2) (G2.same.trans e1) (G2.pre.trans e2)
 ·exact wpAny_release ⟨σ,H3,I3,q3⟩
def qS (f:DE)(g:DG):DS:=fun env S=>(f env S).toS env fun d S1=>(g d env S1).toS env fun env' S2=>.nx env' S2
theorem oD {g:DG}{d:D}{env:qG}{P:Hp}{α:Aa Af}{D':Ends}(h:qX X P α ((g d env S).toS env fun env' S2=>.nx env' S2) D'):qI X P α (g d env S) (OkE X P α D'.nx):=by
 cases q:g d env S with
 |bad=>rw[q] at h;exact h
 |ex c x S'=>rw[q] at h;exact h
 |ok env1 S1=>rw[q] at h;exact h
theorem M0 {tg:Bp}{g:DG}(he:PE X e (tD X fa))(hg:PG X tg (tDG X g))(hs:Jt [tg] e pos.line X.env=pure false:=by rfl)(hw:Js [tg] e X.env=pure none:=by rfl)
  (h1:(Gk [tg] X.env).map (·.2)=[assign tg X.env]:=by rfl):PS X (.Assign [tg] e pos) (tDS X (qS fa g)):=by
 intro pins s σ H D I h;obtain⟨P,α,env,S,r,re,af⟩:=h;refine wpAny_Assign_stores (thn (fQ he I r re af) fun v s1 ⟨x,H1,P1,α1,d,S1,G,q⟩=>?_) hs hw;rw[h1];exact thn (hg pins s1 σ H1 x v _ G.inv G.val ⟨P1,α1,env,S1,d,G.rel,G.env,G.rep,oD q⟩) fun _ s2 q=>q
theorem M6 {i:Aj}{x:As}{pos':Ek}(hN:X.N.Nodup)(he:PE X e (tD X fa))(hi:X.N[i]? = Ab x:=by rfl)(hx:Loc X.env.scope x:=by first|exact Xx rfl|exact Wd rfl)(hs:Lf e (Ab (.Name x pos')) pos.line X.env=pure false:=by rfl)
  (hf:X.fn x=true∨X.env.scope.names.lookup x=Ab .local:=by first|exact .inl rfl|exact .inr rfl|assumption):PS X (.Assign [.Name x pos'] e pos) (tDS X (qS fa (gNm i))):=by
 intro pins s σ H D I h;obtain⟨P,α,env,S,r,re,af⟩:=h;refine wpAny_Assign_Name (thn (fQ he I r re af) fun v s1 ⟨y,H1,P1,α1,d,S1,G,q⟩=>?_) hs;exact uY G.inv hN hi hx G.val (fun s2 I2=>⟨_,H1,I2,q _ H1 P1 α1 G.rel (G.env.set i G.rep) (qE.refl _) (Bb _)⟩) hf
def ZK (i j:Aj)(env:qG)(S1:Sto):Aa D→Out
 |[x,y]=>.nx ((env.set i (Ab x)).set j (Ab y)) S1
 |_=>.bad
def uU (i j:Aj)(f:DA):DS:=fun env S=>(f env S).toS env fun ds S1=>ZK i j env S1 ds
theorem M4 {i j:Aj}{x y:As}{f:DA}{px py pt:Ek} {kt k2 pt2} (hc:X.calm=true) (hN:X.N.Nodup) (ha:PA X [a,b] (tDA X f)) (hi:X.N[i]? = Ab x:=by rfl) (hj:X.N[j]? = Ab y:=by rfl) (hij:i≠j:=by decide)
  (hx:X.env.scope.names.lookup x=Ab .local:=by rfl) (hy:X.env.scope.names.lookup y=Ab .local:=by rfl)
  (hw:Js [.Tuple [.Name x px,.Name y py] kt pt] (.Tuple [a,b] k2 pt2) X.env=pure (Ab [x,y]):=by rfl)
  (hs:Jt [.Tuple [.Name x px,.Name y py] kt pt] (.Tuple [a,b] k2 pt2) pos.line X.env=pure false:=by rfl) :
  PS X (.Assign [.Tuple [.Name x px,.Name y py] kt pt] (.Tuple [a,b] k2 pt2) pos) (tDS X (uU i j f)):=psW (NW hc hN hi hj hij hx hy ha hw hs) fun D σ H ⟨P,α,env,S,r,re,af⟩=>by
 refine⟨P,α,env,S,r,re,?_⟩;have af1:=w6 af;cases q:f env S with
 |bad=>rw[q] at af1;exact af1
 |ex c x S'=>rw[q] at af1;exact af1
 |ok ds S1 =>
  rw[q] at af1;intro vs H' P' α' r' e1 e2 rp;have af2:qX X P α (ZK i j env S1 ds) D:=af1;cases ds with
  |nil=>exact An af2
  |cons d ds=>cases ds with
   |nil=>exact An af2
   |cons d' ds=>cases ds with
    |cons _ _=>exact An af2
    |nil =>
     obtain⟨w,ws,rfl,p1,t⟩:=rp.cons_inv;obtain⟨w',ws',rfl,p2,t⟩:=t.cons_inv;rw[t.nil_inv];exact⟨w,w',rfl,af2 _ _ P' α' r' (((re.mono e1 e2).set i p1).set j p2) e1 e2⟩
end
structure ItD (K:Ai)(J:It)(P:Hp)(α : Aa Af)(ds:Aa D):Prop where
 go:∀ i H P1 α1 S,i<ds.length→Rel K H P1 α1 S→qE P P1→α<+:α1→J.go i H
 yld:∀ i H x H' P1 α1 S,i<ds.length→Rel K H P1 α1 S→qE P P1→α<+:α1→J.yld i H x H'→∃ P2 d,ds[i]? = Ab d∧Rel K H' P2 α1 S∧qE P1 P2∧Rep K P2 α1 d x
 stop:∀ i H P1 α1 S,ds.length≤i→Rel K H P1 α1 S→qE P P1→α<+:α1→J.stop i H
abbrev DI:=qG→Sto→Res (Aa D)
def OkI (X:Cx)(P:Hp)(α : Aa Af)(R:It→Hp→Prop)(ds:Aa D)(S':Sto):Prop:=∀ J H' P' α',Rel X.K H' P' α' S'→qE P P'→α<+:α'→ItD X.K J P' α' ds→R J H'
inductive tDI (X:Cx)(f:DI)(σ : _L.St)(H:Hp)(R:It→Hp→Prop):Prop
 |mk (P:Hp) (α : Aa Af) (env:qG) (S:Sto) (r:Rel X.K H P α S) (re:qZ X.K P α σ env) (af:qI X P α (f env S) (OkI X P α R)):tDI X f σ H R
def vG {β:Type}(o:Am β)(S:Sto):Res β:=match o with
 |some b=>.ok b S
 |none=>.bad
theorem vH {X:Cx}{β:Type}{o:Am β}{P:Hp}{α:Aa Af}{Ok:β→Sto→Prop}(h:qI X P α (vG o S) Ok):∃ b,o=Ab b∧Ok b S:=by
 cases o with
 |none=>exact An h
 |some b=>exact⟨b,rfl,h⟩
theorem xS {X:Cx}{β:Type}{c:Prop}[Lc c]{r:Res β}{P:Hp}{α : Aa Af}{Ok:β→Sto→Prop}(h:qI X P α (if c then r else .bad) Ok):c∧qI X P α r Ok:=by
 by_cases z:c
 ·rw[Bh z] at h;exact⟨z,h⟩
 ·rw[Bn z] at h;exact An h
theorem rB {X:Cx}{β:Type}{ds:Aa D}{g:D→Res β}{P:Hp}{α:Aa Af}{Ok:β→Sto→Prop}(h:qI X P α (match ds with|[d]=>g d|_=>.bad) Ok):∃ d,ds=[d]∧qI X P α (g d) Ok:=by
 cases ds with
 |nil=>exact An h
 |cons d ds =>
  cases ds with
  |nil=>exact⟨d,rfl,h⟩
  |cons _ _=>exact An h
theorem tV {β:Type}{i:Aj}{f:Aa D→Am β}{g:Aa (Key × D)→Am β}{b:β}(h:(match S[i]? with|some (.lst xs)=>f xs|some (.dct kvs)=>g kvs|_=>none)=Ab b):(∃ xs,S[i]? = Ab (.lst xs)∧f xs=Ab b)∨∃ kvs,S[i]? = Ab (.dct kvs)∧g kvs=Ab b:=by
 cases e:S[i]? with
 |none=>rw[e] at h;exact nn h
 |some m =>
  rw[e] at h;cases m with
  |lst xs=>exact .inl ⟨xs,rfl,h⟩
  |dct kvs=>exact .inr ⟨kvs,rfl,h⟩
  |_=>exact nn h
theorem TJ {β:Type}{i:Aj}{f:Aa D→Am β}{b:β}(h:(match S[i]? with|some (.lst xs)=>f xs|_=>none)=Ab b):∃ xs,S[i]? = Ab (.lst xs)∧f xs=Ab b:=by
 cases e:S[i]? with
 |none=>rw[e] at h;exact nn h
 |some m =>
  rw[e] at h;cases m with
  |lst xs=>exact⟨xs,rfl,h⟩
  |_=>exact nn h
inductive ItV (d:D)(xs:Aa D):Prop
 |tup (e:d=.tup xs)
 |lst (e:d=.lst xs)
def pW {β:Type}(S:Sto)(n:Aj)(f:Aa D→Res β) : Res β:=match S[n]? with
 |some (.lst xs)=>f xs
 |_=>.bad
theorem uS {X:Cx}{β:Type}{n:Aj}{f:Aa D→Res β}{P:Hp}{α:Aa Af}{Ok:β→Sto→Prop}(h:qI X P α (pW S n f) Ok):∃ xs,S[n]? = Ab (.lst xs)∧qI X P α (f xs) Ok:=by
 unfold pW at h;cases e:S[n]? with
 |none=>rw[e] at h;exact An h
 |some m =>
  rw[e] at h;cases m with
  |lst xs=>exact⟨xs,rfl,h⟩
  |_=>exact An h
def zV:D→Am (Aa D)
 |.tup xs=>Ab xs
 |.lst xs=>Ab xs
 |_=>none
theorem itV {d:D}{xs:Aa D}(h:zV d=Ab xs):ItV d xs:=by
 cases d with
 |tup ys=>exact .tup (congrArg D.tup (Cm h))
 |lst ys=>exact .lst (congrArg D.lst (Cm h))
 |_=>exact nn h
def vS (f:DE):DI:=fun env S=>(f env S).bind fun d S1=>vG (zV d) S1
section
variable {X:Cx}{K:Ai}{tg e:Bp}{fa:DE}{pos:Ek}
theorem YB {P:Hp}{α:Aa Af}{a:Af}{ds:Aa D}(q:SqL K P a vs)(t:qD K P α ds vs):ItD K (Itl K a) P α ds where
 go:=fun i H P1 α1 S hi r e _=>⟨vs,vs[i]'(by rw[← t.length];exact hi),(e.trans r.sub).seq q,by simp⟩
 yld:=fun i H x H' P1 α1 S hi r e e2 y=>by
  obtain⟨rfl,y⟩:=y;have hx:=y vs ((e.trans r.sub).seq q);obtain⟨v,h1,h2⟩:=t.get (Ap hi);rw[hx] at h1;cases h1;exact⟨P1,_,Ap hi,r,qE.refl _,Rep.mono e e2 _ _ h2⟩
 stop:=fun i H P1 α1 S hi r e _=>⟨vs,(e.trans r.sub).seq q,by rw[← t.length];exact hi⟩
theorem KY {P:Hp}{α:Aa Af}{a:Af}{ds:Aa D}(q:SqT K P a vs)(t:qD K P α ds vs):ItD K (Itt K a) P α ds where
 go:=fun i H P1 α1 S hi r e _=>⟨vs,vs[i]'(by rw[← t.length];exact hi),yN (e.trans r.sub) q,by simp⟩
 yld:=fun i H x H' P1 α1 S hi r e e2 y=>by
  obtain⟨rfl,y⟩:=y;have hx:=y vs (yN (e.trans r.sub) q);obtain⟨v,h1,h2⟩:=t.get (Ap hi);rw[hx] at h1;cases h1;exact⟨P1,_,Ap hi,r,qE.refl _,Rep.mono e e2 _ _ h2⟩
 stop:=fun i H P1 α1 S hi r e _=>⟨vs,yN (e.trans r.sub) q,by rw[← t.length];exact hi⟩
theorem sU {pins:Aa (Af × Cg)}{σ:_L.St}{H P:Hp}{α:Aa Af}{s:Ag}{v:V}{d:D}{ds:Aa D}(I:Inv X pins σ H s)(r:Rel X.K H P α S)(rv:qL v vv)(rp:Rep X.K P α d v)(hd:zV d=Ab ds)
  (q:OkI X P α R ds S):Ao (Au X.prog X.w) X.A (Mv vv) (PIE X pins σ tg R) X.xe s:=by
 cases d with
 |tup xs =>
  cases hd;simp only[Rep] at rp;obtain⟨a,vs,rfl,sq,t⟩:=rp;cases rv;obtain⟨its,rv,p,hz⟩:=I.tuple (xG r.sub sq);refine Gh (show s.heap.IsTuple a its.toArray from p) ?_
  refine⟨s.heap.objs.size,[s.heap.objs.size],_,_,H,rfl,I.kept (t':=s.toks) fun b o e=>Ah _ e,o6 a _,⟨_,Ba _ rfl,rfl,rfl⟩,fun b hb=>?_,q _ _ P α r (qE.refl _) (Bb _) (KY sq t)⟩;have e:b=s.heap.objs.size:=by simpa using hb
  subst e;exact I.fpOk (Az _) (I.hok.fresh (Az _))
 |lst xs =>
  cases hd;simp only[Rep] at rp;obtain⟨a,vs,rfl,sq,t⟩:=rp;cases rv;obtain⟨its,rv,p,hz⟩:=I.list ((xA r.sub sq).l);refine Ga p.isList ?_;refine⟨s.heap.objs.size,[s.heap.objs.size],_,_,H,rfl,I.kept (t':=s.toks) fun b o e=>Ah _ e,lS a _,⟨_,Ba _ rfl,rfl,rfl⟩,fun b hb=>?_,q _ _ P α r (qE.refl _) (Bb _) (YB sq.l t)⟩;have e:b=s.heap.objs.size:=by simpa using hb
  subst e;exact I.fpOk (Az _) (I.hok.fresh (Az _))
 |_=>cases hd
theorem OkI.base {P P1:Hp}{α α1:Aa Af}{ds:Aa D}(e:qE P P1)(h:α<+:α1)(k:OkI X P α R ds S):OkI X P1 α1 R ds S:=fun J H' P' α' r q1 q2 q3=>k J H' P' α' r (e.trans q1) (h.trans q2) q3
theorem FY (ha:PE X e (tD X fa)):PI X tg e (tDI X (vS fa)):=by
 intro pins s σ H R I h;obtain⟨P,α,env,S,r,re,af⟩:=h;refine thn (zL ha I r re af) fun vv s1 ⟨v,H1,P1,α1,d,S1,G1,af1⟩=>?_;obtain⟨ds,e1,q⟩:=vH af1;exact sU G1.inv G1.rel G1.val G1.rep e1 (q.base G1.same G1.pre)
def wZ (lo:Al)(n:Aj):Aa D:=(Ce n).map fun (i:Aj)=>D.int (lo+(i:Al))
theorem g9 (lo:Al)(n:Aj):(wZ lo n).length=n:=by simp[wZ]
theorem nZ {P:Hp}{α:Aa Af}{lo:Al}{n:Aj}:ItD K (Itr lo n) P α (wZ lo n) where
 go:=fun i H P1 α1 S hi r e _=>by rw[g9] at hi;exact hi
 yld:=fun i H x H' P1 α1 S hi r e e2 y=>by
  obtain⟨rfl,rfl⟩:=y;rw[g9] at hi;exact⟨P1,.int (lo+i),by simp[wZ,hi],r,qE.refl _,by simp only[Rep]⟩
 stop:=fun i H P1 α1 S hi r e _=>by rw[g9] at hi;exact hi
def p8 (ds:Aa D):Am (Aa D):=match ds with
 |[.int j]=>if -(2 ^ 62)≤j∧j<2 ^ 62 then Ab (wZ 0 j.toNat) else none
 |[.int i,.int j]=>if -(2 ^ 62)≤i∧i<2 ^ 62 ∧ -(2 ^ 62)≤j∧j<2 ^ 62 then Ab (wZ i (j-i).toNat) else none
 |_=>none
def yJ (f:DA):DI:=fun env S=>(f env S).bind fun ds S1=>vG (p8 ds) S1
def asI:D→Am Al
 |.int i=>Ab i
 |_=>none
theorem bI {d:D}{i:Al}(h:asI d=Ab i):d=.int i:=by
 cases d with
 |int k=>exact congrArg D.int (Cm h)
 |_=>exact nn h
inductive RngV:Aa D→Aa D→Prop
 |one (j:Al) (h : -(2 ^ 62)≤j∧j<2 ^ 62):RngV [.int j] (wZ 0 j.toNat)
 |two (i j:Al) (h : -(2 ^ 62)≤i∧i<2 ^ 62 ∧ -(2 ^ 62)≤j∧j<2 ^ 62):RngV [.int i,.int j] (wZ i (j-i).toNat)
theorem E5 (d:D):p8 [d]=(asI d).bind fun j=>if -(2 ^ 62)≤j∧j<2 ^ 62 then Ab (wZ 0 j.toNat) else none:=by cases d <;> rfl
theorem E6 (d d':D):p8 [d,d']=(asI d).bind fun i=>(asI d').bind fun j=>if -(2 ^ 62)≤i∧i<2 ^ 62 ∧ -(2 ^ 62)≤j∧j<2 ^ 62 then Ab (wZ i (j-i).toNat) else none:=by
 cases d with
 |int i=>cases d' <;> rfl
 |_=>rfl
theorem B1 {ds its:Aa D}(h:p8 ds=Ab its):RngV ds its:=by
 cases ds with
 |nil=>exact nn h
 |cons d ds =>
  cases ds with
  |nil =>
   obtain⟨j,e,h⟩:=Eh.mp ((E5 d).symm.trans h);obtain⟨c,rfl⟩:=kS h;rw[bI e];exact .one j c
  |cons d' ds =>
   cases ds with
   |nil =>
    obtain⟨i,e,h⟩:=Eh.mp ((E6 d d').symm.trans h);obtain⟨j,e',h⟩:=Eh.mp h;obtain⟨c,rfl⟩:=kS h;rw[bI e,bI e'];exact .two i j c
   |cons _ _ =>
    have h0:∀ d'' t,p8 (d::d'::d''::t)=none:=fun d'' t=>by cases d <;> first|rfl|(cases d' <;> rfl)
    exact nn ((h0 _ _).symm.trans h)
theorem n6 {P:Hp}{α:Aa Af}{i:Al}{ds:Aa D}(r:qD K P α (.int i::ds) vs):∃ ws,vs=.int i::ws∧qD K P α ds ws:=by
 obtain⟨w,ws,rfl,p,t⟩:=r.cons_inv;exact⟨ws,congrArg (· :: ws) (by simpa only [Rep] using p),t⟩
theorem PI.weak {iter:Bp}{t t':TI}(h:PI X tg iter t)(w:∀ σ H R,t' σ H R→t σ H R):PI X tg iter t':=fun pins s σ H R I q=>h pins s σ H R I (w σ H R q)
end
section
variable {X:Cx}{tg a b:Bp}{f:DA}{p pos:Ek}
theorem WM {e:Bp}{es:Aa Bp}(hg:Gl X "range")(hm:X.mg "range" = none)(ha:PA X (e::es) (tDA X f))(hs:Bi (e::es) X.env=(false,eval e X.env)::Bi es X.env:=by rfl)(hpl:(Fq pos (Bi es X.env)).any (·.1)=false:=by rfl) :
  PI X tg (.Call (.Name "range" p) (e::es) [] pos) (tDI X (yJ f)):=by
 intro pins s σ H R I h;obtain⟨P,α,env,S,r,re,af⟩:=h;refine Call_ (vT I hg hm boot_range (Go (thn (wV ha I r re af pos) fun us s1 ⟨vs,H1,P1,α1,ds,S1,I1,rv,r1,re1,rp,e1,e2,af1⟩=>?_) hs hpl));obtain⟨its,hi,q⟩:=vH af1;cases B1 hi with
 |one j c =>
  obtain⟨ws,rfl,t1⟩:=n6 rp;cases t1.nil_inv;obtain⟨u,rfl,t,rfl⟩:=jE rv;refine call_range_1 (rK I1 om om c.1 c.2 ?_);have z:=q (Itr 0 j.toNat) H1 P1 α1 r1 e1 e2 nZ;rw[Int.sub_zero];exact z
 |two i j c =>
  obtain⟨ws,rfl,t1⟩:=n6 rp;obtain⟨ws2,rfl,t2⟩:=n6 t1;cases t2.nil_inv;obtain⟨u,u',rfl,⟨t,rfl⟩,t',rfl⟩:=dM rv;exact call_range_2 (rK I1 c.1 c.2.1 c.2.2.1 c.2.2.2 (q (Itr i (j-i).toNat) H1 P1 α1 r1 e1 e2 nZ))
def uB (g:DG)(f:DS):Aa D→qG→Sto→Out
 |[],env,S=>.nx env S
 |d::ds,env,S=>(g d env S).toS env fun env1 S1=>match f env1 S1 with
  |.nx env2 S2=>uB g f ds env2 S2
  |.ct env2 S2=>uB g f ds env2 S2
  |.bk env2 S2=>.nx env2 S2
  |o=>o
def u4 (fi:DI)(g:DG)(f:DS):DS:=fun env S=>(fi env S).toS env fun ds S1=>uB g f ds env S1
inductive LoopW (X:Cx)(P1:Hp)(α1:Aa Af)(g:DG)(f:DS)(ds:Aa D)(D:Ends)(i m:Aj)(σ : _L.St)(H:Hp):Prop
 |mk (hi:i≤ds.length) (hm:m=ds.length-i) (P2:Hp) (α2:Aa Af) (env2:qG) (S2:Sto) (r:Rel X.K H P2 α2 S2) (re:qZ X.K P2 α2 σ env2) (e1:qE P1 P2) (e2:α1<+:α2) (af:qX X P2 α2 (uB g f (ds.drop i) env2 S2) D):LoopW X P1 α1 g f ds D i m σ H
theorem M1 {iter:Bp}{fi:DI}{g:DG}{f:DS}(hp:Ml (Au X.prog X.w) X.A X.env X.xe)(hc:X.calm=true)(hi:PI X tg iter (tDI X fi))(hg:PG X tg (tDG X g))(hb:PSs X body (tDS X f))
  (hs:∀ x,Fh iter X.env x=pure x:=by intro _;rfl):PS X (.For tg iter body [] pos) (tDS X (u4 fi g f)):=psW (NV hp hc hi hg hb hs) fun D σ H ⟨P,α,env,S,r,re,af⟩=>by
 refine⟨P,α,env,S,r,re,?_⟩;have af1:=w6 af;cases q:fi env S with
 |bad=>rw[q] at af1;exact af1
 |ex c x S'=>rw[q] at af1;exact af1
 |ok ds S1 =>
  rw[q] at af1;have af2:qX X P α (uB g f ds env S1) D:=af1;intro J H1 P1 α1 r1 e1 e2 it;refine⟨LoopW X P1 α1 g f ds D,
   ⟨ds.length,Gx _,rfl,P1,α1,env,S1,r1,re.mono e1 e2,qE.refl _,Bb _,qX.base e1 e2 af2⟩,?_⟩
  rintro i m σ2 H2 ⟨hi,rfl,P2,α2,env2,S2,r2,re2,e3,e4,af3⟩;by_cases hlt:i<ds.length
  ·refine .inr ⟨it.go i H2 P2 α2 S2 hlt r2 e3 e4,LoopW X P1 α1 g f ds D (i+1) (ds.length-(i+1)),fun σ' H' w=>⟨_,?_,w⟩,fun x H3 y=>?_⟩
   ·omega
   ·obtain⟨P3,d,hd,r3,e5,rp⟩:=it.yld i H2 x H3 P2 α2 S2 hlt r2 e3 e4 y
    have hdr:ds.drop i=d::ds.drop (i+1):=by
     rw[O9 hlt];rw[Ap hlt] at hd;rw[Cm hd]
    rw[hdr] at af3;have af4:=w6 (qX.base e5 (Bb _) af3);refine⟨P3,α2,env2,S2,d,r3,re2.mono e5 (Bb _),rp,?_⟩;cases q2:g d env2 S2 with
    |bad=>rw[q2] at af4;exact af4
    |ex c x S'=>rw[q2] at af4;exact af4
    |ok env3 S3 =>
     rw[q2] at af4;intro σ4 H4 P4 α4 r4 re4 e6 e7;refine⟨P4,α4,env3,S3,r4,re4,?_⟩;have af5:=qX.base e6 e7 af4;cases q3:f env3 S3 with
     |bad=>simp only[q3] at af5;exact af5
     |ex c x env4 S4=>simp only[q3] at af5;exact af5
     |rt d4 S4=>simp only[q3] at af5;exact af5
     |bk env4 S4=>simp only[q3] at af5;exact af5
     |nx env4 S4 =>
      simp only[q3] at af5;exact fun σ5 H5 P5 α5 r5 re5 e8 e9=>⟨hlt,rfl,P5,α5,env4,S4,r5,re5,((e3.trans e5).trans e6).trans e8,(e4.trans e7).trans e9,qX.base e8 e9 af5⟩
     |ct env4 S4 =>
      simp only[q3] at af5;exact fun σ5 H5 P5 α5 r5 re5 e8 e9=>⟨hlt,rfl,P5,α5,env4,S4,r5,re5,((e3.trans e5).trans e6).trans e8,(e4.trans e7).trans e9,qX.base e8 e9 af5⟩
  ·have hdr:ds.drop i=[]:=Ln om
   rw[hdr] at af3;exact .inl ⟨it.stop i H2 P2 α2 S2 om r2 e3 e4,af3 σ2 H2 P2 α2 r2 re2 (qE.refl _) (Bb _)⟩
end
abbrev DF:=Aa D→Sto→Res D
section
variable {X:Cx}{x:As}{p pos:Ek}{e:Bp}{es:Aa Bp}{F:DF}{fa:DA}
def qK (F:DF)(fa:DA):DE:=fun env S=>(fa env S).bind fun ds S1=>F ds S1
theorem nM {pins:Aa (Af × Cg)}{s1:Ag}{σ:_L.St}{H1 P P1:Hp}{α α1:Aa Af}{ds:Aa D}(hc:wQ X u F)(I1:Inv X pins σ H1 s1)(r1:Rel X.K H1 P1 α1 S1)(rv:qJ vs us)
  (rp:qD X.K P1 α1 ds vs) (e1:qE P P1) (e2:α<+:α1) (af:qI X P α (F ds S1) (OkV X P α Q)):Ao (Au X.prog X.w) X.A (call u us) (EP X pins σ Q) X.xe s1:=hc pins σ H1 s1 P1 α1 S1 vs us ds Q I1 r1 rv rp (qV.base e1 e2 af)
theorem WD {id:Ed}(hc:wQ X (.builtin id) F)(hg:Gl X x)(hm:X.mg x=none)(hv:Fl x=Ab (.builtin id))(ha:PA X (e::es) (tDA X fa))(hn:x ≠ "__name__":=by decide)(hdb:(x == ("__debug__" : As))=false:=by decide)
  (he:Bi (e::es) X.env=(false,eval e X.env)::Bi es X.env:=by rfl) (hpl:(Fq pos (Bi es X.env)).any (·.1)=false:=by rfl):PE X (.Call (.Name x p) (e::es) [] pos) (tD X (qK F fa)):=by
 intro pins s σ H Q I h;obtain⟨P,α,env,S,r,re,af⟩:=h;refine Hb (vT I hg hm hv ?_ hn hdb);exact Mf (thn (wV ha I r re af pos) fun us s1 ⟨vs,H1,P1,α1,ds,S1,I1,rv,r1,re1,rp,e1,e2,af1⟩=>nM hc I1 r1 rv rp e1 e2 af1) he hpl
theorem oX {T:Ed}(hc:wQ X (.type T) F)(hg:Gl X x)(hm:X.mg x=none)(hv:Fl x=Ab (.type T))(ha:PA X (e::es) (tDA X fa))(hn:x ≠ "__name__":=by decide)(hdb:(x == ("__debug__" : As))=false:=by decide)
  (he:Bi (e::es) X.env=(false,eval e X.env)::Bi es X.env:=by rfl) (hpl:(Fq pos (Bi es X.env)).any (·.1)=false:=by rfl):PE X (.Call (.Name x p) (e::es) [] pos) (tD X (qK F fa)):=by
 intro pins s σ H Q I h;obtain⟨P,α,env,S,r,re,af⟩:=h;refine Hb (vT I hg hm hv ?_ hn hdb);exact Go (thn (wV ha I r re af pos) fun us s1 ⟨vs,H1,P1,α1,ds,S1,I1,rv,r1,re1,rp,e1,e2,af1⟩=>nM hc I1 r1 rv rp e1 e2 af1) he hpl
end
theorem zA.there {P:Be}{w:Bt}{H:Hp}{h:Bk}{a:Af}{o:HO}(x:zA P w H h a o):∃ ob,h.get? a=Ab ob:=by
 cases o with
 |lst xs=>obtain⟨_,_,_,_,e⟩:=x;exact⟨_,e⟩
 |tup xs=>obtain⟨_,_,_,ob,e,_⟩:=x;exact⟨_,e⟩
 |dK kvs=>obtain⟨_,_,_,_,o,_,_,e,_⟩:=x;exact⟨_,e⟩
 |dT kvs=>obtain⟨_,_,_,_,o,_,_,e,_⟩:=x;exact⟨_,e⟩
 |set S n=>obtain⟨o,_,_,_,e,_⟩:=x;exact⟨_,e⟩
 |ins C dx fs=>obtain⟨_,_,_,e,_⟩:=x;exact⟨_,e⟩
 |own y=>obtain⟨_,e⟩:=x;exact⟨_,e⟩
 |xd fs=>obtain⟨_,⟨_,_,_,e,_⟩,_⟩:=x;exact⟨_,e⟩
 |rng lo hi=>obtain⟨_,_,_,e⟩:=x;exact⟨_,e⟩
 |frz ob u=>obtain⟨e,_⟩:=x;exact⟨_,e⟩
 |tbl ps=>exact⟨_,show h.get? a=Ab _ from x⟩
 |met f y=>exact⟨_,show h.get? a=Ab _ from x⟩
 |ext φ => obtain⟨_,e,_⟩:=x;exact e
section
variable {X:Cx}{pins:Aa (Af × Cg)}{σ : _L.St}{H:Hp}{s:Ag}{B h':Bk}
abbrev Fn1 (X:Cx):Prop:=X.ex=[]∧X.stack=X.env::X.outer∧X.env.frame=Ab X.env.locals
theorem Fn1.mem (F:Fn1 X){b:Af}:b∈frs X.stack↔b=X.env.locals∨b∈X.fs:=by
 rw[F.2.1];unfold frs;rw[Fw,F.2.2];exact Ay
theorem Old.there (I:Inv X pins σ H s)(F:Fn1 X){b:Af}(o:Old X pins H b):∃ ob,s.heap.get? b=Ab ob:=by
 rcases o with⟨o,e⟩|e|⟨p,hp,rfl⟩|⟨x,e⟩
 ·exact I.base.there b o e (by rw[F.1];simp)
 ·cases q:H b with
  |none=>exact absurd q e
  |some u=>exact zA.there (I.hok b u q)
 ·exact⟨_,(I.pin p hp).1⟩
 ·obtain⟨v,ob,ho,_⟩:=I.cell x b e
  exact⟨ob,ho⟩
theorem Inv.fly (I:Inv X pins σ H s)(F:Fn1 X)(cv:Cv X pins H B s.heap)(st:B.StaysIn h')(up:s.heap.UpToSlots h'):Inv X pins σ H { s with heap:=h' } ∧ Cv X pins H B h':=by
 have kp:∀ b o,s.heap.get? b=Ab o→Old X pins H b→b ∉ frs X.stack→h'.get? b=Ab o:=fun b o e q n=>st b o (cv b o e q n);have neL:∀ b o,X.s₀.heap.get? b=Ab o→b≠X.env.locals:=fun b o e=>Cd (Bf (Ax e) I.ok.above);have nofr:∀ b o,X.s₀.heap.get? b=Ab o→b ∉ X.fs→b ∉ frs X.stack:=fun b o e n z=>(F.mem.mp z).elim (neL b o e) n;have nx:∀ b,b ∉ X.ex:=fun b=>by rw[F.1];simp
 have frU:∀ b,b∈frs X.stack→∀ o,s.heap.get? b=Ab o→∃ sl,h'.get? b=Ab { o with slots:=sl }:=fun b hb o e=>by
  obtain⟨_,o',e',nf⟩:=I.stack.mem hb;rw[e] at e';cases e';exact up b o e nf
 have cellK:∀ x c,X.env.cells.lookup x=Ab c→∀ v,s.heap.IsCell c v→h'.IsCell c v:=fun x c e v ⟨o,ho,hd⟩=>by
  obtain⟨sl,q⟩:=up c o ho fun vs z=>by rw[hd] at z;cases z
  exact⟨_,q,hd⟩
 refine⟨⟨I.ok,I.os,I.bare,⟨fun b o e n hb hx=>?_,fun b o e n hb hx=>?_,I.base.free,fun b o e hx=>?_,I.base.tups,I.base.frzs,I.base.tbls⟩,?_,fun x c e=>?_,I.free,I.freeC,fun p hp=>?_,fun a o e=>?_,I.len⟩,fun b o e q n=>?_⟩
 ·exact kp b o (I.base.keep b o e n hb hx) (.inl ⟨o,e⟩) (nofr b o e hb)
 ·obtain⟨sl,e1⟩:=I.base.slot b o e n hb hx
  obtain⟨sl',e2⟩:=frU b (F.mem.mpr (.inr hb)) _ e1;exact⟨sl',e2⟩
 ·obtain⟨o',e1⟩:=I.base.there b o e hx
  by_cases hb:b∈frs X.stack
  ·obtain⟨sl,e2⟩:=frU b hb _ e1
   exact⟨_,e2⟩
  ·exact⟨o',kp b o' e1 (.inl ⟨o,e⟩) hb⟩
 ·obtain⟨m,hn,hl⟩:=I.loc
  refine⟨m,up.ns hn,fun i x v e1 e2 e3=>?_⟩;obtain⟨u,r,l⟩:=hl i x v e1 e2 e3;refine⟨u,r,?_⟩;rcases l with l|⟨k,c,e,z⟩
  ·exact .inl l
  ·exact .inr ⟨k,c,e,cellK x c e _ z⟩
 ·obtain⟨v,z⟩:=I.cell x c e
  exact⟨v,cellK x c e v z⟩
 ·obtain⟨e,n,ne,nf,d⟩:=I.pin p hp
  exact⟨kp p.1 p.2 e (.inr (.inr (.inl ⟨p,hp,rfl⟩))) fun z=>(F.mem.mp z).elim ne nf,n,ne,nf,d⟩
 ·refine(I.hok a o e).stay (fun b u hb q=>?_) (fun _ q=>q) fun _ _ q=>q
  have hn:H b≠none:=by
   rcases hb with rfl|hb
   ·rw[e];intro z;cases z
   ·rw[hb];intro z;cases z
  exact kp b u q (.inr (.inl hn)) fun z=>hn (I.stkFree b z)
 ·obtain⟨o1,e1⟩:=Old.there I F q
  have e2:=cv b o1 e1 q n;have e3:=st b o1 e2;rw[e] at e3;cases e3;exact e2
theorem ZC {c:Ac}{e:Af}{g:Bk}(I:Inv X pins σ H s)(hm:Ry g s.heap e c args)(hf:g.FunFrames X.base X.stack)(hk:∀ b o,s.heap.get? b=Ab o→Old X pins H b→g.get? b=Ab o) :
  (Mk g (frs X.stack)).StaysIn g∧g.FunFrames (Mk g (frs X.stack)) X.stack∧Cv X pins H (Mk g (frs X.stack)) s.heap:=
 ⟨fun b o q=>Tv _ q,PySem.W.funFrames_hide hf fun env he a ha=>Gg.mpr ⟨env,he,ha⟩,fun b o e q n=>So _ (hk b o e q) n⟩
theorem QY {M:Ls}{A:Bu}{E:Ac→Ag→Prop}{c:Ac}{e:Af}{Q:Ow→Ag→Prop}(I:Inv X pins σ H s)(F:Fn1 X)(hA:A.frames=Ab X.stack)(f:FlyX X pins H c e s.heap)
  (hQ:∀ h' B a0,Mw B X.outer e c a0 h'→Inv X pins σ H { s with heap:=h' } → Cv X pins H B h'→Q () { s with heap:=h' }) : Ao M A (leaving X.env (.ref e)) Q E s:=by
 cases f with
 |new g args hm hf hk =>
  obtain⟨k1,k2,k3⟩:=ZC I hm hf hk;rw[F.2.1] at hA;refine wpAny_leaves_madeW hA F.2.2 k1 (by rw[← F.2.1];exact k2) hm fun h' t x1 x2 x3 x4=>?_
  obtain⟨I1,cv1⟩:=Inv.fly I F k3 x1.1 x4;exact hQ h' _ _ x1 I1 cv1
 |fly B a0 fl cv =>
  rw[F.2.1] at hA;refine wpAny_leaves_onW hA F.2.2 (by rw[← F.2.1];exact fl) fun h' x1 x2=>?_
  obtain⟨I1,cv1⟩:=Inv.fly I F cv x1.1 x2;exact hQ h' _ _ x1 I1 cv1
end
def CXd (P:Be)(w:Bt):CXT:=fun outer H s E u s' =>
 ∃ e c H' B a0,u=.ref e∧s'.os=s.os∧Lq s'.gens∧Un (frs outer) [] H H' s.heap s'.heap∧HOk P w H' s'.heap∧Mw B outer e c a0 s'.heap ∧
  (∀ b o,s'.heap.get? b=Ab o→((∃ o,s.heap.get? b=Ab o)∨H' b≠none)→b ∉ frs outer→B.get? b=Ab o)∧E c none H'
section
variable {X:Cx}{pins:Aa (Af × Cg)}{σ : _L.St}{H:Hp}{s s':Ag}
theorem MJ {E:XK}(I:Inv X pins σ H s)(F:Fn1 X)(h:CXd X.prog X.w X.stack H s E u s'):∃ e c H',u=.ref e∧Inv X pins σ H' s'∧FlyX X pins H' c e s'.heap∧E c none H':=by
 obtain⟨e,c,H',B,a0,rfl,os,bare,un,hok,fl,cov,q⟩:=h;have I':Inv X pins σ H' s':=Inv.call' I os un hok bare (ch:=[]) fun b z=>absurd z (by simp)
 refine⟨e,c,H',rfl,I',.fly B a0 fl fun b o eb old n=>cov b o eb ?_ n,q⟩;rcases old with⟨o,z⟩|z|⟨p,hp,rfl⟩|⟨x,z⟩
 ·exact .inl (I.base.there b o z (by rw[F.1];simp))
 ·exact .inr z
 ·exact .inl ⟨_,(I.pin p hp).1⟩
 ·obtain⟨v,ob,ho,_⟩:=I.cell x b z
  exact .inl ⟨ob,ho⟩
end
structure RoomC (cm:Ar)(k:Aj)(A:Bu):Prop where
 hd:cm=true→A.handled=none
 dp:A.depth+3*k+5<Nn
 un:A.units+16*k+200<Ex
 gd:A.guards=Ab []
theorem RoomC.mono {cm:Ar}{j k:Aj}{A:Bu}(r:RoomC cm k A)(h:j≤k:=by decide):RoomC cm j A:=⟨r.hd,by have:=r.dp;omega,by have:=r.un;omega,r.gd⟩
theorem RoomC.deeper {cm:Ar}{k:Aj}{A:Bu}(r:RoomC cm (k+1) A)(env:Ht):RoomC cm k (A.deeper env):=
 ⟨r.hd,by have:=r.dp;show A.depth+1+3*k+5<_;omega,by have:=r.un;show A.units+3+16*k+200<_;omega,r.gd⟩
theorem RoomC.depth {cm:Ar}{k:Aj}{A:Bu}(r:RoomC cm k A):A.depth<Nn:=by have:=r.dp;omega
theorem RoomC.units {cm:Ar}{k:Aj}{A:Bu}(r:RoomC cm k A):A.units+64<Ex:=by have:=r.un;omega
theorem RoomC.of {k:Aj}{A:Bu}(r:Room k A):RoomC true k A:=⟨fun _=>r.hd,r.dp,r.un,r.gd⟩
theorem RoomC.any {cm:Ar}{k:Aj}{A:Bu}(r:RoomC cm k A):RoomC false k A:=⟨(fun z=>nomatch z),r.dp,r.un,r.gd⟩
theorem RoomC.mark {cm:Ar}{k:Aj}{A:Bu}(r:RoomC cm k A)(h:Am Ac):RoomC false k (A.mark h):=⟨(fun z=>nomatch z),r.dp,r.un,r.gd⟩
abbrev Cx.re (X:Cx)(A:Bu)(cm:Ar)(E:Ac→Ag→Prop):Cx:={ X with A:=A,calm:=cm,xe:=E }
theorem Inv.re {X:Cx}{pins:Aa (Af × Cg)}{σ:_L.St}{H:Hp}{s:Ag}(I:Inv X pins σ H s)(A:Bu)(cm:Ar)(E:Ac→Ag→Prop)(hf:A.frames=Ab X.stack)(hh:cm=true→A.handled=none):Inv (Cx.re X A cm E) pins σ H s:=
 ⟨⟨I.ok.mod,I.ok.kind,I.ok.glob,I.ok.blt,I.ok.above,I.ok.inj,I.ok.has,I.ok.cab,hh,hf,I.ok.stk,I.ok.exf,I.ok.bs,I.ok.bsz,I.ok.noex,I.ok.exfs,I.ok.funs,I.ok.frf⟩,I.os,I.bare,I.base,I.loc,I.cell,I.free,I.freeC,I.pin,I.hok,I.len⟩
theorem Inv.unre {X:Cx}{pins:Aa (Af × Cg)}{σ:_L.St}{H:Hp}{s:Ag}{A:Bu}{cm:Ar}{E:Ac→Ag→Prop}(I:Inv (Cx.re X A cm E) pins σ H s)(hf:X.A.frames=Ab X.stack)(hh:X.calm=true→X.A.handled=none):Inv X pins σ H s:=
 ⟨⟨I.ok.mod,I.ok.kind,I.ok.glob,I.ok.blt,I.ok.above,I.ok.inj,I.ok.has,I.ok.cab,hh,hf,I.ok.stk,I.ok.exf,I.ok.bs,I.ok.bsz,I.ok.noex,I.ok.exfs,I.ok.funs,I.ok.frf⟩,I.os,I.bare,I.base,I.loc,I.cell,I.free,I.freeC,I.pin,I.hok,I.len⟩
structure FnX (P:Be)(w:Bt)(K:Ai)(mg:As→Am Ac)(base:Bk)(cm:Ar)(k:Aj)(f:Af)(fd:Fb)(ps:Aa As)(sp:Sp):Prop where
 len:∀ vs H Q E,sp vs H Q E→vs.length=ps.length
 run:∀ (A:Bu) (outer:Aa Ht) (s:Ag) (H:Hp) (args:Args) (us:Aa Ac) (vs:Aa V) (Q:VK) (E:XK),RoomC cm k A→Env0 P w K mg base A outer s H→Lu s fd args (ps.zip us)→qJ vs us→sp vs H Q E →
  Ic (Au P w) A (.call (.ref f) args) (CR (CXd P w) outer P w H s Q E) s
theorem FnX.ok {P:Be}{w:Bt}{K:Ai}{mg:As→Am Ac}{base:Bk}{k:Aj}{f:Af}{fd:Fb}{ps:Aa As}(F:FnX P w K mg base true k f fd ps sp):FnOk P w K mg base (CXd P w) k f fd ps sp:=
 ⟨F.len,fun A outer s H args us vs Q E hr=>F.run A outer s H args us vs Q E (.of hr)⟩
theorem FnX.any {P:Be}{w:Bt}{K:Ai}{mg:As→Am Ac}{base:Bk}{cm:Ar}{k:Aj}{f:Af}{fd:Fb}{ps:Aa As}(F:FnX P w K mg base false k f fd ps sp):FnX P w K mg base cm k f fd ps sp:=
 ⟨F.len,fun A outer s H args us vs Q E hr=>F.run A outer s H args us vs Q E hr.any⟩
theorem FnX.imp {P:Be}{w:Bt}{K:Ai}{mg:As→Am Ac}{base:Bk}{cm:Ar}{k:Aj}{f:Af}{fd:Fb}{ps:Aa As}{sp':Sp}(F:FnX P w K mg base cm k f fd ps sp)
  (h:∀ vs H Q E,sp' vs H Q E→sp vs H Q E):FnX P w K mg base cm k f fd ps sp':=
 ⟨fun vs H Q E q=>F.len vs H Q E (h _ _ _ _ q),fun A outer s H args us vs Q E hr he hb hv hs=>F.run A outer s H args us vs Q E hr he hb hv (h _ _ _ _ hs)⟩
def cxC (cm:Ar)(P:Be)(w:Bt)(K:Ai)(mg:As→Am Ac)(base:Bk)(N:Aa As)(qual:As)(scope:Ei)(f:Af)(cd:Ac)(A:Bu)(outer:Aa Ht)(s:Ag)(H:Hp)(E:XK):Cx where
 prog:=P
 w:=w
 K:=K
 mg:=mg
 base:=base
 A:=A.deeper (Fv qual scope s.heap.objs.size f cd)
 N:=N
 s₀:=s
 H₀:=H
 env:=Fv qual scope s.heap.objs.size f cd
 outer:=outer
 stack:=Fv qual scope s.heap.objs.size f cd::outer
 ex:=[]
 calm:=cm
 fn:=fun _=>true
 pn:=[]
 xe:=fun e s'=>Ao (Au P w) (A.deeper (Fv qual scope s.heap.objs.size f cd)) (leaving (Fv qual scope s.heap.objs.size f cd) e) (fun _ s''=>CXd P w outer H s E e s'') (fun e' s''=>CXd P w outer H s E e' s'') s'
section
variable {P:Be}{w:Bt}{K:Ai}{mg:As→Am Ac}{base:Bk}{cm:Ar}{N:Aa As}{qual:As}{scope:Ei}{f:Af}{cd:Ac}{A:Bu}{outer:Aa Ht}{s:Ag}{H:Hp}{E:XK}
theorem WA:Ml (Au P w) (A.deeper (Fv qual scope s.heap.objs.size f cd)) (Fv qual scope s.heap.objs.size f cd) (cxC cm P w K mg base N qual scope f cd A outer s H E).xe:=PassesOwn.leaving (Q₁:=fun e s''=>CXd P w outer H s E e s'')
abbrev xeL (P:Be)(w:Bt)(A:Bu)(env:Ht)(outer:Aa Ht)(H:Hp)(s:Ag)(E:XK):Ac→Ag→Prop:=fun e s'=>Ao (Au P w) (A.deeper env) (leaving env e) (fun _ s''=>CXd P w outer H s E e s'') (fun e' s''=>CXd P w outer H s E e' s'') s'
theorem sD {X:Cx}{P0:Hp}{α:Aa Af}{c:Ac}{x:D}{s':Ag}(hA:X.A=A.deeper X.env)(k:XOk X P0 α c x S u s')
  (q:∀ H' P' α',Rel X.K H' P' α' S→qE P0 P'→α<+:α'→E c none H'):xeL X.prog X.w A X.env X.outer X.H₀ X.s₀ E u s':=by
 obtain⟨e,pins,σ,H1,P1,α1,rfl,I,r,e1,e2,F,fl⟩:=k;unfold xeL;rw[← hA];refine QY I F I.ok.frames fl fun h' B a0 x1 I1 cv=>?_;refine⟨e,c,H1,B,a0,rfl,I1.os,I1.bare,by have z:=I1.base;rw[F.1] at z;exact z,I1.hok,x1,fun b o eb hb n=>cv b o eb ?_ fun z=>?_,q H1 P1 α1 r e1 e2⟩
 ·rcases hb with z|z
  ·exact .inl z
  ·exact .inr (.inl z)
 ·rcases (Fn1.mem F).mp z with z|z
  ·subst z
   rcases hb with⟨o',e'⟩|z
   ·exact absurd (Ax e') (Lo.mpr I1.ok.above)
   ·exact z I1.free
  ·exact n z
theorem iG {ps:Aa As}{s1:Ag}(S:FnScope N ps scope)(hd:cm=true→A.handled=none)(e0:Env0 P w K mg base A outer s H)(hl:vs.length=ps.length)(r:qJ vs us)
  (x:InCallC s s.heap.objs.size (Sv (Fv qual scope s.heap.objs.size f cd).kindOf (ps.zip us) fun _=>none) (Gw (s.heap.objs.size+1) scope.names []) (Sw (Fv qual scope s.heap.objs.size f cd).kindOf (ps.zip us) fun _=>none) s1) :
  Inv (cxC cm P w K mg base N qual scope f cd A outer s H E) [] (_L.xV N vs) H s1:=by
 have I:=nY (CX:=CXd P w) (E:=E) (A:={ A with handled:=none }) S rfl ⟨e0.frames,e0.mod,e0.bs,e0.bsz,e0.funs,e0.frf,e0.hok,e0.bare⟩ hl r x
 have J:=Inv.re I (A.deeper (Fv qual scope s.heap.objs.size f cd)) cm (cxC cm P w K mg base N qual scope f cd A outer s H E).xe (Mh e0.frames) hd;exact J
end
theorem Q9 {P:Be}{w:Bt}{K:Ai}{mg:As→Am Ac}{base:Bk}{cm:Ar}{k:Aj}{f:Af}{qual:As}{params:Mm}{scope:Ei}{oc:Ac}{an:Am Af}{osl:Bl (Am Ac)}{x:As}{kV doc pm cdv ct:Ac}{N ps:Aa As}
  {A:Bu} {outer:Aa Ht} {s:Ag} {H:Hp} {args:Args} {us:Aa Ac} {vs:Aa V} {Q:VK} {E:XK} (lk:K.lookup f=Ab ⟨oc,od,.func (Gd x qual params body scope .none kV doc pm an cdv ct),osl⟩) (hcd:Jg K cdv qual=true) (S:FnScope N ps scope) (hl:vs.length=ps.length) (hr:RoomC cm (k+1) A)
  (e0:Env0 P w K mg base A outer s H) (hb:Lu s (Gd x qual params body scope .none kV doc pm an cdv ct) args (ps.zip us)) (r:qJ vs us)
  (hbody:∃ t,PSs (cxC cm P w K mg base N qual scope f cdv A outer s H E) body t∧t { nx:=fun _ H'=>Q .non H',rt:=Q } (_L.xV N vs) H) :
  Ic (Au P w) A (.call (.ref f) args) (CR (CXd P w) outer P w H s Q E) s:=by
 have KX:K.In s.heap:=e0.mod.kin.keeps fun b o e=>(e0.bs b o e).1;have lim:s.heap.NoLimit:=e0.mod.nolimit.keeps fun b o e=>(e0.bs b o e).1;have hkind:∀ y∈ps.zip us,scope.names.lookup y.1=Ab .local ∨ (scope.names.lookup y.1=Ab .cell∧((Gw (s.heap.objs.size+1) scope.names []).lookup y.1).isSome=true):=fun ⟨n,v⟩ hy=>by
  rcases S.par n (Kb hy).1 with q|q
  ·exact .inl q
  ·exact .inr ⟨q,IV _ _ _ (.inl q)⟩
 refine Rh hr.depth (KX _ _ lk) rfl S.co S.gen rfl (Tw KX hcd) (hb _ _ _ _ ?_);refine Om S.kind hkind fun env he s1 x=>?_;subst he;refine⟨lim.keeps x.toInCall.keep,codeAny_func ?_⟩;obtain⟨t,ht,hq⟩:=hbody;have I:Inv (cxC cm P w K mg base N qual scope f cdv A outer s H E) [] (_L.xV N vs) H s1:=iG S hr.hd e0 hl r x;refine Gj (ht [] s1 (_L.xV N vs) H _ I hq) (fun fl s' hs=>?_) fun e s' hs=>hs;have fin:∀ {σ' : _L.St} {H':Hp} {v:V} {u:Ac},Inv (cxC cm P w K mg base N qual scope f cdv A outer s H E) [] σ' H' s'→qL v u→Q v H'→CE outer P w H s Q u s':=
  fun {σ' H' v u} J rv q=>⟨v,H',J.os,J.bare,J.base,J.hok,rv,q⟩
 cases fl with
 |ret u =>
  obtain⟨v,σ',H',J,rv,q⟩:=hs;exact fin J rv q
 |next =>
  obtain⟨σ',H',J,q⟩:=hs;exact fin (v:=V.non) (u:=Ez) J rfl q
 |brk =>
  obtain⟨_,_,_,q⟩:=hs;exact An q
 |cont =>
  obtain⟨_,_,_,q⟩:=hs;exact An q
def kE (K:Ai)(x:As)(cdv:Ac):Prop:=∀ c T,Dk K x=Ab (c,T)→cdv=.ref c
theorem MK {P:Be}{w:Bt}{K:Ai}{mg:As→Am Ac}{base:Bk}{cm:Ar}{k:Aj}{f:Af}{x qual:As}{st:El}{fd:Fb}{N ps:Aa As}(F:Fun K x qual st f fd)(S:FnScope N ps (qH st))
  (len:∀ vs H Q E,sp vs H Q E→vs.length=ps.length)
  (hbody:∀ (cdv:Ac) (A:Bu) (outer:Aa Ht) (s:Ag) (H:Hp) (vs:Aa V) (Q:VK) (E:XK),fd.code=cdv∧Mod K mg base→RoomC cm k (A.deeper (Fv qual (qH st) s.heap.objs.size f cdv))→sp vs H Q E →
   ∃ t,PSs (cxC cm P w K mg base N qual (qH st) f cdv A outer s H E) (zH st) t∧t { nx:=fun _ H'=>Q .non H',rt:=Q } (_L.xV N vs) H) :
  FnX P w K mg base cm (k+1) f fd ps sp:=by
 obtain⟨oc,od,kV,doc,pm,an,cdv,ct,osl,rfl,lk,hcd⟩:=F.ex;exact⟨len,fun A outer s H args us vs Q E hr e0 hb r hsp=>Q9 lk hcd S (len _ _ _ _ hsp) hr e0 hb r (hbody cdv A outer s H vs Q E ⟨rfl,e0.mod⟩ (hr.deeper _) hsp)⟩
def yZ (n:Aj)(ds:Aa D):qG:=ds.map Ab++Ct (n-ds.length) none
def CK:Out→Res D
 |.rt d S=>.ok d S
 |.nx _ S=>.ok .non S
 |.ex c x _ S=>.ex c x S
 |_=>.bad
def qT (n:Aj)(g:DS):DF:=fun ds S=>CK (g (yZ n ds) S)
def spR (K:Ai)(P:Hp)(α : Aa Af)(R:Res D)(Q:VK)(E:XK):Prop:=match R with
 |.ok d S'=>∀ v H' P' α',Rel K H' P' α' S'→qE P P'→α<+:α'→Rep K P' α' d v→Q v H'
 |.ex c _ S'=>∀ H' P' α',Rel K H' P' α' S'→qE P P'→α<+:α'→E c none H'
 |.bad=>Ev
def spD (K:Ai)(n:Aj)(F:DF):Sp:=fun vs H Q E=>vs.length=n∧∃ P α ds S,Rel K H P α S∧qD K P α ds vs∧spR K P α (F ds S) Q E
theorem iU {K:Ai}{P:Hp}{α:Aa Af}{N:Aa As}{ds:Aa D}(r:qD K P α ds vs):qZ K P α (_L.xV N vs) (yZ N.length ds):=by
 refine⟨by simp[yZ,_L.xV,r.length],fun i d e=>?_⟩
 unfold yZ at e;unfold _L.xV;by_cases hi:i<ds.length
 ·rw[Bg (by simpa using hi),Dg] at e
  rw[Bg (by rw[Aq,← r.length];exact hi),Dg]
  cases q:ds[i]? with
  |none=>rw[q] at e;cases e
  |some d' =>
   rw[q] at e;cases e;obtain⟨v,h1,h2⟩:=r.get q;exact⟨v,by rw[h1];rfl,h2⟩
 ·rw[Df (by simpa using hi),Ks] at e
  split at e <;> cases e
section
variable {P:Be}{w:Bt}{K:Ai}{mg:As→Am Ac}{base:Bk}{cm:Ar}
theorem dU {qual:As}{scope:Ei}{f:Af}{cdv:Ac}{A:Bu}{outer:Aa Ht}{s:Ag}{H P':Hp}{E:XK}{N:Aa As}{g:DS}{α:Aa Af}{ds:Aa D}{S':Sto}(hb:PSs (cxC cm P w K mg base N qual scope f cdv A outer s H E) body (tDS (cxC cm P w K mg base N qual scope f cdv A outer s H E) g))
  (r:Rel K H P' α S') (rp:qD K P' α ds vs) (af:spR K P' α (qT N.length g ds S') Q E):∃ t,PSs (cxC cm P w K mg base N qual scope f cdv A outer s H E) body t∧t { nx:=fun _ H'=>Q .non H',rt:=Q } (_L.xV N vs) H:=by
 refine⟨_,hb,P',α,yZ N.length ds,S',r,iU rp,?_⟩;unfold qT at af;cases q:g (yZ N.length ds) S' with
 |rt d S1=>rw[q] at af;exact fun v H' P1 α1 r1 e1 e2 p1=>af v H' P1 α1 r1 e1 e2 p1
 |nx env S1=>rw[q] at af;exact fun σ' H' P1 α1 r1 re1 e1 e2=>af .non H' P1 α1 r1 e1 e2 (by simp only[Rep])
 |bk env S1=>rw[q] at af;exact An af
 |ct env S1=>rw[q] at af;exact An af
 |ex c x env S1=>rw[q] at af;exact fun u s' z=>sD (A:=A) rfl z fun H' P1 α1 r1 e1 e2=>af H' P1 α1 r1 e1 e2
 |bad=>rw[q] at af;exact An af
theorem fnX {x qual:As}{st:El}{f:Af}{fd:Fb}{N ps:Aa As}{k:Aj}{g:DS}(F:Fun K x qual st f fd)(S:FnScope N ps (qH st))
  (hbody:∀ (cdv:Ac) (A:Bu) (outer:Aa Ht) (s:Ag) (H:Hp) (E:XK),fd.code=cdv∧Mod K mg base→RoomC cm k (A.deeper (Fv qual (qH st) s.heap.objs.size f cdv)) →
   PSs (cxC cm P w K mg base N qual (qH st) f cdv A outer s H E) (zH st) (tDS (cxC cm P w K mg base N qual (qH st) f cdv A outer s H E) g)) :
  FnX P w K mg base cm (k+1) f fd ps (spD K ps.length (qT N.length g)):=by
 refine MK F S (fun vs H Q E h=>h.1) fun cdv A outer s H vs Q E hc hr h=>?_;obtain⟨hl,P',α,ds,S',r,rp,af⟩:=h;exact dU (hbody cdv A outer s H E hc hr) r rp af
end
section
variable {X:Cx}{cm:Ar}{k:Aj}{f:Af}{fd:Fb}{ps:Aa As}{F:DF}{x:As}{p pos:Ek}{e:Bp}{es:Aa Bp}{fa:DA}{n:Aj}
def qO (n:Aj)(F:DF)(fa:DA):DE:=fun env S=>(fa env S).bind fun ds S1=>if ds.length=n then F ds S1 else .bad
def EX (X:Cx)(P:Hp)(α : Aa Af)(R:Res D):XK:=fun c _ H'=>match R with
 |.ex c' _ S'=>c=c'∧∃ P' α',Rel X.K H' P' α' S'∧qE P P'∧α<+:α'
 |_=>Ev
theorem rT {P:Hp}{α:Aa Af}{R:Res D}(af:qV X P α R Q):spR X.K P α R Q (EX X P α R):=by
 cases R with
 |ok d S'=>exact af
 |ex c x S'=>exact fun H' P' α' r' e1 e2=>⟨rfl,P',α',r',e1,e2⟩
 |bad=>exact af
theorem bN {pins:Aa (Af × Cg)}{σ:_L.St}{H:Hp}{s:Ag}{P:Hp}{α:Aa Af}{R:Res D}(hF:(∃ c x S',R=.ex c x S')→Fn1 X)(I:Inv X pins σ H s)(af:qV X P α R Q)
  (h:Ic (Au X.prog X.w) X.A (.call u ⟨us,[]⟩) (CR (CXd X.prog X.w) X.stack X.prog X.w H s Q (EX X P α R)) s):Ao (Au X.prog X.w) X.A (call u us) (EP X pins σ Q) X.xe s:=by
 refine Mz (Iw h fun r s' hq=>?_);cases r with
 |error u =>
  have hq:CXd X.prog X.w X.stack H s (EX X P α R) u s':=hq;cases R with
  |ok d S'=>obtain⟨_,_,_,_,_,_,_,_,_,_,_,_,q⟩:=hq;exact An q
  |bad=>exact An af
  |ex c' x' S' =>
   have hG:=hF ⟨_,_,_,rfl⟩;obtain⟨a,c,H',rfl,I',fl,rfl,P',α',r',e1,e2⟩:=MJ I hG hq;exact af _ _ ⟨a,pins,σ,H',P',α',rfl,I',r',e1,e2,hG,fl⟩
 |ok fl =>
  cases fl with
  |ret u=>exact I.after hq
  |next=>exact An hq
  |brk=>exact An hq
  |cont=>exact An hq
theorem B3 {pins:Aa (Af × Cg)}{σ:_L.St}{H:Hp}{s:Ag}{P:Hp}{α:Aa Af}{ds:Aa D}(G:FnX X.prog X.w X.K X.mg X.base cm k f fd ps (spD X.K n F))(hr:RoomC cm k X.A)(hb:vL X.K fd ps [])(hF:Fn1 X)
  (I:Inv X pins σ H s) (r:Rel X.K H P α S) (rv:qJ vs us) (rp:qD X.K P α ds vs) (hn:ds.length=n) (af:qV X P α (F ds S) Q):Ao (Au X.prog X.w) X.A (call (.ref f) us) (EP X pins σ Q) X.xe s:=by
 have hsp:spD X.K n F vs H Q (EX X P α (F ds S)):=⟨by rw[← rp.length];exact hn,P,α,ds,S,r,rp,rT af⟩
 have hl:us.length=ps.length:=by rw[← rv.length];exact G.len _ _ _ _ hsp
 have hb':=hb s us I.kIn (by rw[Gs];exact hl)
 rw[Gs] at hb';exact bN (fun _=>hF) I af (G.run X.A X.stack s H ⟨us,[]⟩ us vs Q _ hr I.env0 hb' rv hsp)
theorem nP {env:qG}{S:Sto}{P:Hp}{α:Aa Af}{ds:Aa D}{Ok:D→Sto→Prop}(h:qI X P α (if ds.length=n then F ds S1 else .bad) Ok):ds.length=n∧qI X P α (F ds S1) Ok:=by
 by_cases hn:ds.length=n
 ·rw[Bh hn] at h;exact⟨hn,h⟩
 ·rw[Bn hn] at h;exact An h
theorem JU (G:FnX X.prog X.w X.K X.mg X.base cm k f fd ps (spD X.K n F))(hr:RoomC cm k X.A)(hF:Fn1 X)(hg:Gl X x)(hm:X.mg x=Ab (.ref f))(hk:Eu X.K (.ref f)=true)(hb:vL X.K fd ps [])
  (ha:PA X (e::es) (tDA X fa)) (hdb:(x == ("__debug__" : As))=false:=by decide) (he:Bi (e::es) X.env=(false,eval e X.env)::Bi es X.env:=by rfl) (hpl:(Fq pos (Bi es X.env)).any (·.1)=false:=by rfl) :
  PE X (.Call (.Name x p) (e::es) [] pos) (tD X (qO n F fa)):=by
 intro pins s σ H Q I h;obtain⟨P,α,env,S,r,re,af⟩:=h;refine Hb (uE I hg hm ?_ hdb);refine Oe (h₀:=X.base) I.ok.mod.kin hk (thn (wV ha I r re af pos) fun us s1 ⟨vs,H1,P1,α1,ds,S1,I1,rv,r1,re1,rp,e1,e2,af1⟩=>⟨I1.kIn,?_⟩) he hpl;obtain⟨hn,af2⟩:=nP (env:=env) (S:=S) af1;exact B3 G hr hb hF I1 r1 rv rp hn (qV.base e1 e2 af2)
end
abbrev dS:Aa Ac:=[.type "ValueError",.type "Exception",.type "BaseException",.type "object"]
def SX:Ac→Ar
 |.str _ _=>true
 |_=>false
def jX (K:Ai)(N:Af):Ar:=(match Lx N K with
 |some o=>match o.data with
  |.dict es _=>es.toList.all fun e=>SX e.key
  |_=>false
 |none=>false)&&decide (Dm K N "__init__" = Ab none)
theorem y9 {K:Ai}{N:Af}(h:jX K N=true):Xs K N=true∧Dm K N "__init__" = Ab none:=by
 unfold jX at h;rw[AT,Ch] at h;refine⟨?_,h.2⟩;have h1:=h.1;unfold Xs;cases e:Lx N K with
 |none=>rw[e] at h1;cases h1
 |some o =>
  rw[e] at h1;obtain⟨oc,od,dt,sl⟩:=o;cases dt with
  |dict es ep =>
   simp only at h1 ⊢;rw[Array.all_toList] at h1;refine Eq.trans (congrArg (fun f=>Array.all es f) (funext fun e=>?_)) h1;cases e.key <;> rfl
  |_=>cases h1
def dG (K:Ai)(C:Af)(f:Ac→Vc→Bl (Am Ac)→Ar):Ar:=match Lx C K with
 |some o=>(match o.data with|.cls cd=>f o.cls cd o.slots|_=>false)
 |none=>false
theorem rA {K:Ai}{f:Ac→Vc→Bl (Am Ac)→Ar}(h:dG K C f=true):∃ oc od cd sl,Lx C K=Ab ⟨oc,od,.cls cd,sl⟩∧f oc cd sl=true:=by
 unfold dG at h;cases e:Lx C K with
 |none=>rw[e] at h;exact Hn h
 |some o =>
  rw[e] at h;obtain⟨oc,od,dt,sl⟩:=o;cases dt with
  |cls cd=>exact⟨oc,od,cd,sl,rfl,h⟩
  |_=>exact Hn h
def bP (K:Ai)(C A:Af):Ar:=dG K C fun oc cd sl=>dG K A fun _ ca _=>decide (oc=.type "type")&&(decide (cd.mro=.ref C::.ref A::dS)&&(!cd.hasDel&&(jX K cd.ns&&(jX K ca.ns&&(decide (sl.toList.length=6)&&decide (sl.toList[4]? = Ab (Ab (.builtin "ValueError.__new__"))))))))
inductive ExcO (h:Bk)(C:Af):Prop
 |mk (nm q:As) (N:Af) (bs bm:Aa Ac) (hdct:Ar) (sn:Aa As) (sub:Aa Ac) (ab:Ar) (col:Am Ar) (dd:Am Af) (k0 k1 k2 k3 k5:Am Ac) (mN:As→Am Ac) (hC:h.get? C=Ab (excClassObj nm q C N bs bm hdct sn sub ab col dd k0 k1 k2 k3 k5 "ValueError.__new__")) (hN:h.Ns N mN) (hni:mN "__init__" = none) (T:OwnTail h dS bm):ExcO h C
theorem tW {β:Type}{l:Aa β}{n:Aj}(h:l.length=n+1):∃ a t,l=a::t∧t.length=n:=by
 cases l with
 |nil=>exact Nat.noConfusion h
 |cons a t=>exact⟨a,t,rfl,Nat.succ.inj h⟩
theorem six {β:Type}{l:Aa β}(h:l.length=6):∃ a b c d e f,l=[a,b,c,d,e,f]:=by
 obtain⟨a,t,e1,h⟩:=tW h;obtain⟨b,t2,e2,h⟩:=tW h;obtain⟨c,t3,e3,h⟩:=tW h;obtain⟨d,t4,e4,h⟩:=tW h;obtain⟨e,t5,e5,h⟩:=tW h;obtain⟨f,t6,e6,h⟩:=tW h;exact⟨a,b,c,d,e,f,by rw[e1,e2,e3,e4,e5,e6,Ix.mp h]⟩
theorem N3 {cd:Vc}{tl:Aa Ac}{k0 k1 k2 k3 k4 k5:Am Ac}{n:Ed}(hm:cd.mro=.ref C::tl)(hd:cd.hasDel=false)(hs:sl.toList=[k0,k1,k2,k3,k4,k5])(hn:sl.toList[4]? = Ab (Ab (.builtin n))) :
  (⟨.type "type",od,.cls cd,sl⟩:Cg)=excClassObj cd.name cd.qualname C cd.ns cd.bases tl cd.hasDict cd.slotNames cd.subclasses cd.abstract cd.collection od k0 k1 k2 k3 k5 n:=by
 rw[hs] at hn;cases hn;cases cd;cases sl;cases hm;cases hd;cases hs;rfl
theorem KD {K:Ai}{h:Bk}{A:Af}{cd:Vc}(KI:K.In h)(e:Lx C K=Ab ⟨.type "type",od,.cls cd,sl⟩)(h2:cd.mro=.ref C::.ref A::dS)(h3:cd.hasDel=false)(h4:jX K cd.ns=true)(h6:sl.toList.length=6)(h7:sl.toList[4]? = Ab (Ab (.builtin "ValueError.__new__")))(T:OwnTail h dS (.ref A::dS)):ExcO h C:=by
 obtain⟨k0,k1,k2,k3,x,k5,es⟩:=six h6;exact⟨_,_,_,_,_,_,_,_,_,_,_,k0,k1,k2,k3,k5,_,(KI _ _ e).trans (congrArg Ab (N3 h2 h3 es h7)),.of_isNs (TD KI (y9 h4).1),OS KI (y9 h4).1 (y9 h4).2,T⟩
theorem KE {K:Ai}{h:Bk}{A:Af}(KI:K.In h)(z:bP K C A=true):ExcO h C:=by
 obtain⟨oc,od,cd,sl,e,z⟩:=rA z;obtain⟨qc,qd,ca,ql,e2,z⟩:=rA z;have a1:=EQ.mp z;have a2:=EQ.mp a1.2;have a3:=EQ.mp a2.2;have a4:=EQ.mp a3.2;have a5:=EQ.mp a4.2;have a6:=EQ.mp a5.2;rw[Bw a1.1] at e;exact KD KI e (Bw a2.1) (Vd _▸a3.1) a4.1 (Bw a6.1) (Bw a6.2) (.own (KI _ _ e2) (.of_isNs (TD KI (y9 a5.1).1)) (OS KI (y9 a5.1).1 (y9 a5.1).2) .base)
section
variable {X:Cx}{pos:Ek}{fa:DA}
def jY (c:Ac)(fa:DA):DS:=fun env S=>(fa env S).toS env fun ds S1=>if ds.length≤lim then .ex c .non env S1 else .bad
inductive GotAS (X:Cx)(pins:Aa (Af × Cg))(σ : _L.St)(env:qG)(P:Hp)(α : Aa Af)(us:Aa Ac)(s1:Ag)(k:Aa D→Sto→Out)(E:Ends):Prop
 |mk (vs:Aa V) (H1 P1:Hp) (α1:Aa Af) (ds:Aa D) (S1:Sto) (I:Inv X pins σ H1 s1) (rv:qJ vs us) (r:Rel X.K H1 P1 α1 S1) (re:qZ X.K P1 α1 σ env) (rp:qD X.K P1 α1 ds vs) (e1:qE P P1) (e2:α<+:α1) (q:qX X P1 α1 (k ds S1) E):GotAS X pins σ env P α us s1 k E
theorem JR {es:Aa Bp}{k:Aa D→Sto→Out}{pins:Aa (Af × Cg)}{s:Ag}{σ:_L.St}{H P:Hp}{α:Aa Af}{env:qG}{D:Ends}(he:PA X es (tDA X fa))(I:Inv X pins σ H s)(r:Rel X.K H P α S)
  (re:qZ X.K P α σ env) (af:qX X P α ((fa env S).toS env k) D) (pos:Ek) :
  Ao (Au X.prog X.w) X.A (spliced (Fq pos (Bi es X.env))) (fun us s1=>GotAS X pins σ env P α us s1 k D) X.xe s:=by
 have af1:qI X P α ((fa env S).bind fun d S=>.ok d S) fun d S=>qX X P α (k d S) D:=by
  have:=w6 af;cases q:fa env S <;> rw[q] at this <;> exact this
 exact thn (wV he I r re af1 pos) fun u s1 ⟨vs,H1,P1,α1,ds,S1,I1,rv,r1,re1,rp,e1,e2,q⟩=>⟨vs,H1,P1,α1,ds,S1,I1,rv,r1,re1,rp,e1,e2,qX.base e1 e2 q⟩
theorem WR {x:As}{Ae:Af}{e₀:Bp}{rest:Aa Bp}{np cpos:Ek}(hc:X.calm=true)(hF:Fn1 X)(hg:Gl X x)(hm:X.mg x=Ab (.ref C))(hx:bP X.K C Ae=true)(ha:PA X (e₀::rest) (tDA X fa))
  (hdb:(x == ("__debug__" : As))=false:=by decide) (he:Bi (e₀::rest) X.env=(false,eval e₀ X.env)::Bi rest X.env:=by rfl) (hpl:(Fq cpos (Bi rest X.env)).any (·.1)=false:=by rfl) :
  PS X (.Raise (Ab (.Call (.Name x np) (e₀::rest) [] cpos)) none pos) (tDS X (jY (.ref C) fa)):=by
 intro pins s σ H D I h;obtain⟨P,α,env,S,r,re,af⟩:=h;obtain⟨nm,qn,N,bs,tl,hdct,sn,sub,ab,col,dd,k0,k1,k2,k3,k5,mN,hC,hN,hni,T⟩:=KE I.mod.kin hx;refine wpAny_Raise_call_subT (C:=C) (nm:=nm) (q:=qn) (N:=N) (bs:=bs) (bm:=tl) (hdct:=hdct) (sn:=sn) (sub:=sub) (ab:=ab) (col:=col) (dd:=dd) (k0:=k0) (k1:=k1) (k2:=k2) (k3:=k3) (k5:=k5)
  Op (mN:=mN) (T.hasType Op.hasBase) (I.ok.hd hc) (by rw[he];show (false||(Fq cpos (Bi rest X.env)).any (·.1))=false;rw[hpl];rfl) hni (uE I hg hm ⟨rfl,?_⟩ hdb)
 have run:=JR ha I r re af cpos;rw[he] at run ⊢;refine Si (thn run fun us s2 ⟨vs,H1,P1,α1,ds,S1,I1,rv,r1,re1,rp,e1,e2,q⟩=>?_);have hl:us.length=ds.length:=by rw[rp.length,rv.length]
 by_cases hz:ds.length≤lim
 ·rw[Bh hz] at q
  refine⟨rfl,by rw[hl,← zJ];exact hz,I1.bk _ _ hC,hN.keeps I1.bk,T.keeps I1.bk,fun h' e hm=>q _ _ ⟨e,pins,σ,H1,P1,α1,rfl,I1.kept (t':=s2.toks) hm.keeps,r1,qE.refl _,Bb _,hF,.new s2.heap us hm I1.stack fun b o eb old=>?_⟩⟩
  obtain⟨o1,q1⟩:=Old.there I1 hF old;have q2:=hm.keeps b o1 q1;rw[eb] at q2;cases q2;exact q1
 ·rw[Bn hz] at q;exact An q
end
section
variable {X:Cx}{pins:Aa (Af × Cg)}{σ : _L.St}{H:Hp}{s:Ag}
theorem iN {M:Ls}{A:Bu}{E:Ac→Ag→Prop}{base h:Bk}{env:Ht}{outer:Aa Ht}{L e:Af}{cls:Ac}{Q:Ow→Ag→Prop}
  (hfr:A.frames=Ab (env::outer)) (hf:env.frame=Ab L) (hkb:base.StaysIn h) (hl:h.FunFrames base (env::outer)) (hx:Ry h s.heap e cls args)
  (hQ:∀ h' a0,Zj base (env::outer) e cls a0 L h'→s.heap.UpToSlots h'→Q () { s with heap:=h' }) : Ao M A (Ve (.ref e) env) Q E s:=by
 obtain⟨t,he,htn,ht⟩:=hx.there;have fresh:∀ b,h.get? b=none→base.get? b=none:=fun b hb=>by
  cases hq:base.get? b with
  |none=>rfl
  |some o'=>have z:=hkb b o' hq;rw[hb] at z;cases z
 unfold Ve;simp only[hf];refine Ad (Do he rfl (x:=.none) rfl ?_);rw[Bn (by decide)]
 refine wpAny_entryW hfr (hl.of_keeps fun b o hb _=>⟨o,hx.keeps b o hb,rfl⟩) hf he (fun b o hb=>hx.keeps b o (hkb b o hb)) (fresh e hx.new) rfl (by simp) (a0:=.ref t) rfl fun h' hN=>?_
 obtain⟨n1,n2,n3,n4⟩:=hN;exact hQ h' (.ref t) ⟨n1,fresh e hx.new,n2,n3⟩ n4
theorem YM {M:Ls}{A:Bu}{E:Ac→Ag→Prop}{c:Ac}{e:Af}{Q:Ow→Ag→Prop}(I:Inv X pins σ H s)(F:Fn1 X)(hA:A.frames=Ab X.stack)(f:FlyX X pins H c e s.heap)
  (hQ:∀ h' B a0,Mw B X.stack e c a0 h'→Inv X pins σ H { s with heap:=h' } → Cv X pins H B h'→Q () { s with heap:=h' }) :
  Ao M A (Ve (.ref e) X.env) (fun _ s₂=>Ao M A (Vf (.ref e) none) Q E s₂) E s:=by
 have land:∀ (B:Bk) (a0:Ac) (h1:Bk),Cv X pins H B s.heap→Zj B X.stack e c a0 X.env.locals h1→s.heap.UpToSlots h1→Ao M A (Vf (.ref e) none) Q E { s with heap:=h1 }:=fun B a0 h1 cv hh up=>by
  refine wpAny_landsW (s:={ s with heap:=h1 }) hh fun h2 f2 u2=>?_
  obtain⟨I2,cv2⟩:=Inv.fly I F cv f2.1 (up.trans u2);exact hQ h2 B a0 f2 I2 cv2
 cases f with
 |new g args hm hf hk =>
  obtain⟨k1,k2,k3⟩:=ZC I hm hf hk;rw[F.2.1] at hA;exact iN hA F.2.2 k1 (by rw[← F.2.1];exact k2) hm fun h' a0 x1 x2=>land _ a0 h' k3 (F.2.1▸x1) x2
 |fly B a0 fl cv =>
  rw[F.2.1] at hA;exact wpAny_looks_onW hA F.2.2 (by rw[← F.2.1];exact fl) fun h' x1 x2=>land B a0 h' cv (by rw[F.2.1];exact x1) x2
theorem c0 {B:Bk}{c a0:Ac}{e:Af}(I:Inv X pins σ H s)(F:Fn1 X)(fl:Mw B X.stack e c a0 s.heap)(cv:Cv X pins H B s.heap):¬ Old X pins H e∧e ∉ frs X.stack∧∃ ob,s.heap.get? e=Ab ob∧ob.cls=c:=by
 obtain⟨oe,vs,he,hc,hd,_⟩:=fl.first
 have nf:e ∉ frs X.stack:=fun z=>by
  obtain⟨_,o,ho,hn⟩:=I.stack.mem z;rw[he] at ho;cases ho;exact hn vs hd
 refine⟨fun z=>?_,nf,oe,he,hc⟩;have q:=cv e oe he z nf;rw[fl.2.1] at q;cases q
theorem Inv.track {e:Af}{c:Ac}{ob:Cg}(I:Inv X pins σ H s)(F:Fn1 X)(no:¬ Old X pins H e)(nf:e ∉ frs X.stack)(he:s.heap.get? e=Ab ob)(hc:ob.cls=c):Inv X pins σ (upd H e (sJ e c)) s:=by
 have hn:H e=none:=by
  cases q:H e with
  |none=>rfl
  |some u=>exact absurd (.inr (.inl (by rw[q];intro z;cases z))) no
 have nL:e≠X.env.locals:=fun z=>nf (F.mem.mpr (.inl z));have n0:∀ b o,X.s₀.heap.get? b=Ab o→b≠e:=fun b o q z=>no (.inl ⟨o,z▸q⟩);refine⟨I.ok,I.os,I.bare,⟨I.base.keep,I.base.slot,fun b o q n hx=>?_,I.base.there,fun b xs q=>?_,fun b o xs q=>?_,fun b ps q=>?_⟩,I.loc,I.cell,?_,fun x k q=>?_,fun p hp=>?_,fun b u q=>?_,I.len⟩
 ·rw[qF (n0 b o q)];exact I.base.free b o q n hx
 ·have z:=I.base.tups b xs q
  rw[qF (qR z hn)];exact z
 ·have z:=I.base.frzs b o xs q
  rw[qF (qR z hn)];exact z
 ·obtain⟨m,z⟩:=I.base.tbls b ps q
  exact⟨m,by rw[qF (qR z hn)];exact z⟩
 ·rw[qF (Fx nL)];exact I.free
 ·have z:k≠e:=fun z=>no (.inr (.inr (.inr ⟨x,z▸q⟩)))
  rw[qF z];exact I.freeC x k q
 ·obtain⟨a1,a2,a3,a4,a5⟩:=I.pin p hp
  have z:p.1≠e:=fun z=>no (.inr (.inr (.inl ⟨p,hp,z⟩)));exact⟨a1,by rw[qF z];exact a2,a3,a4,a5⟩
 ·by_cases hb:b=e
  ·subst hb
   rw[qQ] at q;cases q;refine⟨⟨ob,he,hc⟩,⟨ob,he⟩,fun h1 h2 ⟨o,q1,q2⟩ k=>⟨o,k o q1,q2⟩⟩
  ·rw[qF hb] at q
   exact(I.hok b u q).stay (fun _ _ _ z=>z) (fun k z=>by rw[qF (qR z hn)];exact z) fun k xs z=>by rw[qF (qR z hn)];exact z
theorem Inv.gone {i t':Aj}{n:As}{h':Bk}(I:Inv X pins σ H s)(hN:X.N.Nodup)(hi:X.N[i]? = Ab n){m:As→Am Ac}{v:Am Ac}(hl:∀ (j:Aj) (y:As) (w:V),X.N[j]? = Ab y→σ[j]? = Ab (Ab w)→Vis X.env.scope y→∃ u,qL w u∧BX X.env s.heap m y u)(hv:h'.Ns X.env.locals fun y=>if y=n then v else m y)(sb:En X.env.locals s.heap h') :
  Inv X pins (σ.set i none) H { s with heap:=h',toks:=t' }:=by
 have neL:∀ b o,X.s₀.heap.get? b=Ab o→b≠X.env.locals:=fun b o e=>Cd (Bf (Ax e) I.ok.above);have kp:∀ b o,b≠X.env.locals→s.heap.get? b=Ab o→h'.get? b=Ab o:=fun b o n e=>(sb.2 b n).trans e;refine⟨I.ok,I.os,I.bare,⟨fun b o e n hb hx=>kp b o (neL b o e) (I.base.keep b o e n hb hx),fun b o e n hb hx=>?_,I.base.free,fun b o e hx=>?_,I.base.tups,I.base.frzs,I.base.tbls⟩,⟨_,hv,fun j y w e1 e2 e3=>?_⟩,fun x c e=>?_,I.free,I.freeC,fun p hp=>?_,fun b u q=>?_,by simpa using I.len⟩
 ·obtain⟨sl,q⟩:=I.base.slot b o e n hb hx
  exact⟨sl,kp b _ (neL b o e) q⟩
 ·obtain⟨o',q⟩:=I.base.there b o e hx
  exact⟨o',kp b o' (neL b o e) q⟩
 ·have hj:i≠j:=fun z=>by
   subst z;by_cases hs:i<σ.length
   ·rw[Cw hs] at e2;cases e2
   ·rw[Lw (by simp;omega)] at e2;cases e2
  rw[Bz hj] at e2;obtain⟨u,r,l⟩:=hl j y w e1 e2 e3;refine⟨u,r,?_⟩;rcases l with⟨k,z⟩|⟨k,c,z,zc⟩
  ·refine .inl ⟨k,?_⟩
   have:y≠n:=fun z=>hj (f9 hN hi (z▸e1));simp[this,z]
  ·exact .inr ⟨k,c,z,zc.sameBut sb (I.cne y c z)⟩
 ·obtain⟨w,z⟩:=I.cell x c e
  exact⟨w,z.sameBut sb (I.cne x c e)⟩
 ·obtain⟨e,n,ne,nf,d⟩:=I.pin p hp
  exact⟨kp p.1 p.2 ne e,n,ne,nf,d⟩
 ·refine(I.hok b u q).stay (fun c w hc z=>kp c w ?_ z) (fun _ z=>z) fun _ _ z=>z
  rintro rfl;rcases hc with rfl|hc
  ·rw[I.free] at q;cases q
  ·rw[I.free] at hc;cases hc
theorem c6 {A:Bu}{E:Ac→Ag→Prop}{i:Aj}{n:As}{pos:Ek}{Q:Ow→Ag→Prop}(I:Inv X pins σ H s)(hN:X.N.Nodup)(hi:X.N[i]? = Ab n)(hlo:X.env.scope.names.lookup n=Ab .local)
  (h:∀ s',Inv X pins (σ.set i none) H s'→Q () s'):Ao M A (do Tt X.env n .none;unbindBehindTheSuite X.env n pos) Q E s:=by
 obtain⟨m,hm,hl⟩:=id I.loc;exact wpAny_nameGoes_keeps hlo hm (by rw[I.ok.kind];rfl) fun h' v hv sb=>h _ (Inv.gone I hN hi hl hv sb)
end
abbrev Cx.tryIn (X:Cx)(E:Ac→Ag→Prop)(pn:Aa (Af × Cg)):Cx:={ X with xe:=E,pn:=pn }
abbrev Cx.suite (X:Cx)(e:Af):Cx:=Cx.re X (X.A.mark (Ab (.ref e))) false fun _ _=>Ev
def fE (N i:Aj)(cs:Aa Ac)(f g:DS):DS:=fun env S=>match f env S with
 |.ex c x env1 S1=>if cs.contains c then (match g ((Ct N none).set i (Ab (.exn c))) S1 with
   |.rt d S2=>.rt d S2
   |.nx env2 S2=>.nx (env2.set i none) S2
   |_=>.bad) else .bad
 |o=>o
section
variable {X:Cx}{pins:Aa (Af × Cg)}{σ : _L.St}{H:Hp}{s:Ag}
theorem Inv.inTry (I:Inv X pins σ H s)(E:Ac→Ag→Prop):Inv (Cx.tryIn X E (X.pn++pins)) [] σ H s:=
 ⟨⟨I.ok.mod,I.ok.kind,I.ok.glob,I.ok.blt,I.ok.above,I.ok.inj,I.ok.has,I.ok.cab,I.ok.hd,I.ok.frames,I.ok.stk,I.ok.exf,I.ok.bs,I.ok.bsz,I.ok.noex,I.ok.exfs,I.ok.funs,I.ok.frf⟩,I.os,I.bare,I.base,I.loc,I.cell,I.free,I.freeC,fun p hp=>I.pin p (by simpa using hp),I.hok,I.len⟩
theorem Inv.outTry {E:Ac→Ag→Prop}(I:Inv (Cx.tryIn X E (X.pn++pins)) more σ H s):Inv X pins σ H s:=
 ⟨⟨I.ok.mod,I.ok.kind,I.ok.glob,I.ok.blt,I.ok.above,I.ok.inj,I.ok.has,I.ok.cab,I.ok.hd,I.ok.frames,I.ok.stk,I.ok.exf,I.ok.bs,I.ok.bsz,I.ok.noex,I.ok.exfs,I.ok.funs,I.ok.frf⟩,I.os,I.bare,I.base,I.loc,I.cell,I.free,I.freeC,fun p hp=>I.pin p (Dd _ hp),I.hok,I.len⟩
theorem SP.outTry {E:Ac→Ag→Prop}{D:Ends}{f:Flow}{s':Ag}(h:SP (Cx.tryIn X E (X.pn++pins)) [] D f s'):SP X pins D f s':=by
 cases f with
 |next=>obtain⟨σ',H',I,q⟩:=h;exact⟨σ',H',Inv.outTry I,q⟩
 |brk=>obtain⟨σ',H',I,q⟩:=h;exact⟨σ',H',Inv.outTry I,q⟩
 |cont=>obtain⟨σ',H',I,q⟩:=h;exact⟨σ',H',Inv.outTry I,q⟩
 |ret u=>obtain⟨v,σ',H',I,r,q⟩:=h;exact⟨v,σ',H',Inv.outTry I,r,q⟩
theorem FlyX.outTry {E:Ac→Ag→Prop}{c:Ac}{e:Af}{h:Bk}(f:FlyX (Cx.tryIn X E (X.pn++pins)) more H c e h):FlyX X pins H c e h:=by
 have old:∀ b,Old X pins H b→Old (Cx.tryIn X E (X.pn++pins)) more H b:=fun b o=>by
  rcases o with o|o|⟨p,hp,z⟩|o
  ·exact .inl o
  ·exact .inr (.inl o)
  ·exact .inr (.inr (.inl ⟨p,Dd _ hp,z⟩))
  ·exact .inr (.inr (.inr o))
 cases f with
 |new g args hm hf hk=>exact .new g args hm hf fun b o e q=>hk b o e (old b q)
 |fly B a0 fl cv=>exact .fly B a0 fl fun b o e q n=>cv b o e (old b q) n
theorem X9 {K:Ai}{P:Hp}{α:Aa Af}{n:Aj}(h:σ.length=n):qZ K P α σ (Ct n none):=by
 refine⟨by simp[h],fun i d e=>?_⟩
 rw[Ks] at e
 split at e <;> cases e
theorem qZ.unset {K:Ai}{P:Hp}{α:Aa Af}{env:qG}(re:qZ K P α σ env)(i:Aj):qZ K P α (σ.set i none) (env.set i none):=by
 refine⟨by simp[re.1],fun j d e=>?_⟩
 by_cases hj:i=j
 ·subst hj
  by_cases hi:i<env.length
  ·rw[Cw hi] at e;cases e
  ·rw[Lw (by simp;omega)] at e;cases e
 ·rw[Bz hj] at e ⊢
  exact re.2 j d e
end
section
variable {X:Cx}{pos:Ek}{f g:DS}
theorem MN {pins:Aa (Af × Cg)}{D:Ends}{c:Ac}{e C0:Af}{s':Ag}{σ:_L.St}{H P:Hp}{α:Aa Af}{x n:As}{i:Aj}{b₀:El}{suite:Aa El}{hpos:Ek}
  (F:Fn1 X) (hg:Gl X x) (hm:X.mg x=Ab (.ref C0)) (hcs:∀ c∈cs,Il X.K c (.ref C0)=Ab true) (hN:X.N.Nodup) (hi:X.N[i]? = Ab n) (hlo:X.env.scope.names.lookup n=Ab .local)
  (hs:∀ e,PSs (Cx.suite X e) (b₀::suite) (tDS (Cx.suite X e) g)) (hc:cs.contains c=true) (I:Inv X pins σ H s') (r:Rel X.K H P α S1) (fl:FlyX X pins H c e s'.heap)
  (af:qX X P α (match g ((Ct X.N.length none).set i (Ab (.exn c))) S1 with|.rt d S2=>.rt d S2|.nx env2 S2=>.nx (env2.set i none) S2|_=>.bad) D) (hdb:(x == ("__debug__" : As))=false) :
  Ao (Au X.prog X.w) X.A (Ve (.ref e) X.env) (fun _ s₂=>Ao (Au X.prog X.w) X.A (Vf (.ref e) none) (fun _ s₃ =>
   Ao (Au X.prog X.w) X.A (handleBy (.ref e) X.env [.ExceptHandler (Ab (.Name x np)) (Ab n) (b₀::suite) hpos]) (SP X pins D) X.xe s₃) X.xe s₂) X.xe s':=by
 have hcs':Il X.K c (.ref C0)=Ab true:=hcs c (by simpa using hc)
 have Z:∀ {σ : _L.St} {H:Hp} {s:Ag},Inv X pins σ H s→Inv (Cx.suite X e) pins σ H s:=fun I=>Inv.re I _ false _ I.ok.frames fun z=>nomatch z;refine YM I F I.ok.frames fl fun h5 B a0 f5 I5 cv5=>?_;refine wpAny_handleBy_cons (codeAny_handlers_test (A:=X.A.mark (Ab (.ref e))) (uE (X:=Cx.suite X e) (Z I5) hg hm ?_ hdb)) (by intro q;cases q)
 obtain⟨no5,nf5,ob5,he5,hc5⟩:=c0 I5 F f5 cv5;refine(PySem.W.exm_one I5.kIn (by subst hc5;exact(Zs he5).andThen .now) hcs').at ?_
 refine codeAny_handlers_suite_as ?_;refine lands_againW (s:={ s' with heap:=h5 }) f5 fun h6 f6 u6=>?_
 obtain⟨I6,cv6⟩:=Inv.fly I5 F cv5 f6.1 u6;obtain⟨no6,nf6,ob6,he6,hc6⟩:=c0 I6 F f6 cv6;have J6:Inv X pins σ (upd H e (sJ e c)) { s' with heap:=h6 }:=Inv.track I6 F no6 nf6 he6 hc6
 have hn:H e=none:=by
  cases q:H e with
  |none=>rfl
  |some u=>exact absurd (.inr (.inl (by rw[q];intro z;cases z))) no6
 obtain⟨r1,sP⟩:=r.pure (o:=sJ e c) hn;refine uY (X:=Cx.suite X e) (v:=.ref e) (Z J6) hN hi (.inl hlo) rfl (fun s7 I7=>?_) (.inr hlo);have re7:qZ X.K (upd P e (sJ e c)) α (σ.set i (Ab (.ref e))) ((Ct X.N.length none).set i (Ab (.exn c))):=(X9 I.len).set i (by simp only[Rep];exact⟨e,rfl,qQ⟩)
 refine Gj (hs e pins s7 _ _ { nx:=fun σ' H'=>D.nx (σ'.set i none) H',rt:=D.rt } I7 ⟨_,α,_,S1,r1,re7,?_⟩) (fun fl s8 q=>?_) fun _ _ z=>An z
 ·cases q:g ((Ct X.N.length none).set i (Ab (.exn c))) S1 with
  |rt d S2=>rw[q] at af;exact fun v H' P' α' r' e1 e2 rp=>af v H' P' α' r' (sP.trans e1) e2 rp
  |nx env2 S2=>rw[q] at af;exact fun σ' H' P' α' r' re' e1 e2=>af _ H' P' α' r' (qZ.unset re' i) (sP.trans e1) e2
  |bk env2 S2=>rw[q] at af;exact An af
  |ct env2 S2=>rw[q] at af;exact An af
  |ex c' x' env2 S2=>rw[q] at af;exact An af
  |bad=>rw[q] at af;exact An af
 ·cases fl with
  |next =>
   obtain⟨σ',H',I8,q⟩:=q;exact c6 (Inv.unre I8 I.ok.frames I.ok.hd) hN hi hlo fun s9 I9=>⟨_,H',I9,q⟩
  |brk =>
   obtain⟨_,_,_,q⟩:=q;exact An q
  |cont =>
   obtain⟨_,_,_,q⟩:=q;exact An q
  |ret u =>
   obtain⟨v,σ',H',I8,rv,q⟩:=q;exact c6 (Inv.unre I8 I.ok.frames I.ok.hd) hN hi hlo fun s9 I9=>⟨v,_,H',I9,rv,q⟩
set_option tactic.hygienic true in
theorem M7 {x n:As}{C0:Af}{i:Aj}{b₀:El}{suite:Aa El}{np hpos:Ek}(F:Fn1 X)(hb:∀ E pn,Ml (Au X.prog X.w) X.A X.env E→PSs (Cx.tryIn X E pn) body (tDS (Cx.tryIn X E pn) f))
  (hs:∀ e,PSs (Cx.suite X e) (b₀::suite) (tDS (Cx.suite X e) g)) (hg:Gl X x) (hm:X.mg x=Ab (.ref C0)) (hcs:∀ c∈cs,Il X.K c (.ref C0)=Ab true) (hN:X.N.Nodup) (hi:X.N[i]? = Ab n:=by rfl) (hlo:X.env.scope.names.lookup n=Ab .local:=by rfl)
  (hdb:(x == ("__debug__" : As))=false:=by decide):PS X (.Try body [.ExceptHandler (Ab (.Name x np)) (Ab n) (b₀::suite) hpos] [] [] pos) (tDS X (fE X.N.length i cs f g)):=by
 intro pins s σ H D I h;obtain⟨P,α,env,S,r,re,af⟩:=h;refine wpAny_Try_except ?_;refine Gj (hb _ (X.pn++pins) (PassesOwn.looking (K:=fun e s₂=>Ao (Au X.prog X.w) X.A (Vf e none) (fun _ s₃=>Ao (Au X.prog X.w) X.A (handleBy e X.env [.ExceptHandler (Ab (.Name x np)) (Ab n) (b₀::suite) hpos]) (SP X pins D) X.xe s₃) X.xe s₂) (E₁:=X.xe))
  [] s σ H D (Inv.inTry I _) ⟨P,α,env,S,r,re,?_⟩) (fun fl s1 q=>?_) fun _ _ z=>z
 ·unfold fE at af
  cases q:f env S with
  |rt d S2=>rw[q] at af;exact af
  |nx env2 S2=>rw[q] at af;exact af
  |bk env2 S2=>rw[q] at af;exact af
  |ct env2 S2=>rw[q] at af;exact af
  |bad=>rw[q] at af;exact af
  |ex c x' env2 S2 =>
   rw[q] at af;dsimp only at af;intro u s' k;obtain⟨e,pins',σ',H',P',α',rfl,I',r',e1,e2,F',fl⟩:=k
   split at af
   ·rename_i hc
    exact MN F hg hm hcs hN hi hlo hs hc (Inv.outTry I') r' (FlyX.outTry fl) (qX.base e1 e2 af) hdb
   ·exact An af
 ·have q':=SP.outTry q
  cases fl with
  |next=>exact Ka q'
  |brk=>exact q'
  |cont=>exact q'
  |ret u=>exact q'
end
end _D
namespace _D
open PySem PySem.Spec PyProof.Rows _L PySem.W
variable {R:Vy→Ag→Prop}
structure ExnK (K:Ai)(C:Af):Prop where
 ga:findIn K (.ref C) "__getattribute__" = Ab (Ab (.builtin "BaseException.__getattribute__"))
 hk:findIn K (.ref C) "__getattr__" = Ab none
 cl:findIn K (.ref C) "__class__" = Ab (Ab (.builtin "object.__class__"))
 sp:specialIn K (.builtin "object.__class__") "__get__" = Ab (Ab (.builtin "getset_descriptor.__get__"))
 tk:takesIn K (.builtin "object.__class__")=Ab true
 mo:mroIn K C (.type "object")=Ab true
 mb:mroIn K C (.type "BaseException")=Ab true
 isC:(clsIn K C).isSome=true
section
variable {prog:Be}{w:Bt}{A:Bu}{E:Ac→Ag→Prop}{s:Ag}{K:Ai}{x C:Af}
abbrev vM (x C:Af)(h:Bk):Prop:=∃ ob,h.get? x=Ab ob∧ob.cls=.ref C
theorem vM.type {M:Ls}{h:Bk}(I:vM x C h):Looks M h (typeOf (.ref x)) (.ref C):=by
 obtain⟨ob,e,c⟩:=I;rw[← c];exact(Looks.ld e).andThen .now
theorem Y0 {M:Ls}{h:Bk}(X:K.In h)(Z:ExnK K C):Looks M h (Yu (.ref x) (.ref C) "__class__") (.bind (.builtin "getset_descriptor.__get__") (.builtin "object.__class__")):=by
 have l1:=Ug (M:=M) X Z.cl;have l2:Looks M h (Yo (Ab (.builtin "object.__class__"))) (Ab (.builtin "getset_descriptor.__get__")):=looks_specialIn X Z.sp;have l3:=looks_takesIn (M:=M) X Z.tk;have l4:Looks M h (Uh (Ab (.builtin "object.__class__")) (Ab (.builtin "getset_descriptor.__get__"))) (Ab (.builtin "getset_descriptor.__get__",.builtin "object.__class__")):=l3.andThen .now;exact l1.andThen (l2.andThen (l4.andThen (Looks.tag .now)))
theorem KG {tp:Ac}(X:K.In s.heap)(Z:ExnK K C)(I:vM x C s.heap)(h:R (.ok (.ret (.ref C))) s) :
  Ic (Au prog w) A (.call (.builtin "getset_descriptor.__get__") ⟨[.builtin "object.__class__",.ref x,tp],[]⟩) R s:=by
 have LT:=vM.type (M:=Au prog w) I;have LM:=looks_mroIn (M:=Au prog w) X Z.mo;cases s;refine Jn KF.slot_gs.plain KF.entry_gs (KF.slot_gs.check _ _ _ _ _ _ _ _ KF.type_class (KF.args_gs _ _ _) ?_);unfold Hd.«getset_descriptor.__get__» Ui;rw[dga_obj];refine Ad (Ak ?_);unfold Tg Qg Qo isInstance;simp only[KF.owner_class]
 repeat lk
 refine⟨Of _ (by decide +kernel),Hg KF.entry_class ?_⟩
 unfold Hd.«object.__class__» shownTypeOf
 repeat lk
 exact h
theorem MH {tk:OQ}(X:K.In s.heap)(Z:ExnK K C)(I:vM x C s.heap)(h:R (.ok (.ret (.ref C))) s) :
  Ic (Au prog w) A (.call (.builtin "BaseException.__getattribute__") ⟨[.ref x,.str "__class__" tk],[]⟩) R s:=by
 have LT:=vM.type (M:=Au prog w) I;have LM:=looks_mroIn (M:=Au prog w) X Z.mb;have LF:=Y0 (M:=Au prog w) (x:=x) X Z;have hk:builtinKind "BaseException.__getattribute__" = Ab .slot:=by decide +kernel
 have hsp:splitId "BaseException.__getattribute__" = Ab ("BaseException","__getattribute__"):=by decide +kernel
 have chk:∀ (A:Bu) (Q:Ow→Ag→Prop) (E:Ac→Ag→Prop),Q () s→Ao (Au prog w) A (Pe "BaseException.__getattribute__" ⟨[.ref x,.str "__class__" tk],[]⟩) Q E s:=by
  intro A Q E hq;have ha:=PySem.F.args_bexc_ga (.ref x) (.str "__class__" tk);simp only[Pe,hk,hsp];unfold isInstance;refine Ad (Ad (LT.here (LM.here ?_)))
  repeat (any_goals (first|assumption|wp_step))
 refine Jn Pp.ga.plain PySem.F.entry_bexc_ga (chk _ _ _ ?_);cases s;unfold Hd.«object.__getattribute__»;refine Ad (Oq (show slotArgs "__getattribute__" 1 ⟨[.ref x,.str "__class__" tk],[]⟩=pure (.ref x,[.str "__class__" tk]) from by kernel_rfl) ?_)
 refine Ad (Ak (Ad (LT.at (Ad (LF.at ?_)))));show Ao _ _ (OA _ _ _ _) _ _ _;unfold OA;dsimp only;exact Ad (Du (Mz (KG X Z I (Ak h))))
theorem Q7 {Q:Am Ac→Ag→Prop}(X:K.In s.heap)(Z:ExnK K C)(I:vM x C s.heap)(h:Q (Ab (.ref C)) { s with toks:=s.toks+1 }) : Ao (Au prog w) A (getAttr? (.ref x) "__class__") Q E s:=by
 have LT:=vM.type (M:=Au prog w) I;have L1:=Ug (M:=Au prog w) X Z.ga;have lk2:=Ug (M:=Au prog w) X Z.hk;unfold getAttr? getAttrBy? getAttrBy;cases s;refine Ad (wpAny_mkText (Ad (Ie (Du (Ad (LT.at (Ad (L1.at ?_))))))));dsimp only;have hx2:(Yc "BaseException.__getattribute__" == Yc "object.__getattribute__")=false:=by decide +kernel
 rw[hx2,Ji,Bn Fp];unfold getAttrByItsOwn hookBefore;rw[Bh (show onTheHeap (.ref C)=true from rfl)]
 refine Ad (lk2.at (Ad (Ie (Du ?_))));unfold callGetattribute;rw[Gc,Bn Fp];unfold boundAndCalled;refine Ad (Oq (Pp.ga.bind (.ref x)) ?_);refine Mz (MH X Z I ?_);show Ao _ _ (handedOut (.ref C)) _ _ _;exact Ak (Ak h)
set_option tactic.hygienic true in
theorem sV (Z:ExnK K C):KitX K (.ref x) (.ref C) (vM x C) where
 ty:=fun _ _ _ I=>I.type
 it:=fun M h X _=>by
  have z:=Z.isC;unfold clsIn at z
  split at z
  ·rename_i ho
   intro A' Q' E' s' k q;unfold isType loadHead;exact Ad (wpAny_loadPart (k _ _ (X _ _ ho)) (Ak q))
  ·cases z
 ne:=fun h tp dd its n sl X htp=>by
  have z:=Z.isC;unfold clsIn at z
  split at z
  ·rename_i ho
   cases hq:(Cb C == Cb tp) with
   |false=>rfl
   |true =>
    obtain rfl:C=tp:=Value.ref.inj (Pf.mp hq);have y:=(X _ _ ho).symm.trans htp;cases y
  ·cases z
 ca:=fun X I k=>Q7 X Z I k
end
end _D
namespace _D
open PySem PySem.Spec PyProof.Rows _L
variable {cells:Aa (As × Af)}{α α1:Aa Af}{ds:Aa D}{a C:Af}{s:Ag}{K:Ai}{o:Cg}{H P P1:Hp}{S S1:Sto}
theorem fJ {α:Type}{t:Me α}{Q Q':α→Ag→Prop}{M:Ls}{A:Bu}{E:Ac→Ag→Prop}(h:Ao M A t Q (fun _ _=>Ev) s)(hQ:∀ a s,Q a s→Q' a s):Ao M A t Q' E s:=Gj h hQ fun _ _ x=>x.elim
def kB (ifs:Aa Bp)(env:Ht):Me Ar:=forIn ifs true fun c r=>if r=true then do let ok ← PySem.isTrue c env (eval c env);pure (Mo ok) else pure (Mo r)
def PTs (X:Cx)(ifs:Aa Bp)(t:DT):Prop:=
 ∀ (pins:Aa (Af × Cg)) (s:Ag) (σ : _L.St) (H:Hp) (Q:Ar→Hp→Prop),Inv X pins σ H s→tDT X t σ H Q→Ao (Au X.prog X.w) X.A (kB ifs X.env) (TP X pins σ Q) X.xe s
def wM:DT:=fun _ S=>.ok true S
section
variable {X:Cx}
theorem KA:PTs X [] wM:=fun pins s σ H Q I ⟨P,α,env,S,r,re,af⟩=>by
 unfold kB;rw[Np];exact Ak ⟨H,I,af H P α r (qE.refl _) (Bb _)⟩
theorem CL {e:Bp}{f:DE}{pins:Aa (Af × Cg)}{σ:_L.St}{env:qG}{d:D}(he:PE X e (tD X f))(I:Inv X pins σ H s)(r:Rel X.K H P α S)(re:qZ X.K P α σ env)(q:f env S=.ok d S1) :
  Ao (Au X.prog X.w) X.A (eval e X.env) (fun u s1=>∃ v H1 P1 α1,Got X pins σ env P α u s1 v H1 P1 α1 d S1) X.xe s:=by
 refine thn (zL (g:=fun d S=>Res.ok d S) (Ok:=fun d' S'=>d'=d∧S'=S1) he I r re (by rw[q];exact⟨rfl,rfl⟩)) fun u s1 ⟨v,H1,P1,α1,d',S',G,h1,h2⟩=>?_
 have e1:d'=d:=h1;have e2:S'=S1:=h2;subst e1;subst e2;exact⟨v,H1,P1,α1,G⟩
theorem RZ {ifs:Aa Bp}{t:DT}{pins:Aa (Af × Cg)}{σ:_L.St}{env:qG}{b:Ar}(he:PTs X ifs t)(I:Inv X pins σ H s)(r:Rel X.K H P α S)(re:qZ X.K P α σ env)(q:t env S=.ok b S1) :
  Ao (Au X.prog X.w) X.A (kB ifs X.env) (fun b' s1=>b'=b∧∃ H1 P1 α1,Inv X pins σ H1 s1∧Rel X.K H1 P1 α1 S1∧qZ X.K P1 α1 σ env∧qE P P1∧α<+:α1) X.xe s:=by
 refine thn (he pins s σ H (fun b' H1=>b'=b∧∃ P1 α1,Rel X.K H1 P1 α1 S1∧qZ X.K P1 α1 σ env∧qE P P1∧α<+:α1) I ⟨P,α,env,S,r,re,?_⟩) fun b' s1 ⟨H1,I1,e,P1,α1,q1,q2,q3,q4⟩=>⟨e,H1,P1,α1,I1,q1,q2,q3,q4⟩;rw[q];exact fun H' P' α' r' e1 e2=>⟨rfl,P',α',r',re.mono e1 e2,e1,e2⟩
theorem CM {tg:Bp}{g:DG}{pins:Aa (Af × Cg)}{σ:_L.St}{env env1:qG}{d:D}{v:V}{u:Ac}(hg:PG X tg (tDG X g))(I:Inv X pins σ H s)(r:Rel X.K H P α S)(re:qZ X.K P α σ env)(rv:qL v u)
  (rp:Rep X.K P α d v) (q:g d env S=.ok env1 S1) :
  Ao (Au X.prog X.w) X.A (assign tg X.env u) (fun _ s1=>∃ σ1 H1 P1 α1,Inv X pins σ1 H1 s1∧Rel X.K H1 P1 α1 S1∧qZ X.K P1 α1 σ1 env1∧qE P P1∧α<+:α1) X.xe s:=by
 refine thn (hg pins s σ H v u (fun σ1 H1=>∃ P1 α1,Rel X.K H1 P1 α1 S1∧qZ X.K P1 α1 σ1 env1∧qE P P1∧α<+:α1) I rv ⟨P,α,env,S,d,r,re,rp,?_⟩) fun _ s1 ⟨σ1,H1,I1,P1,α1,q1,q2,q3,q4⟩=>⟨σ1,H1,P1,α1,I1,q1,q2,q3,q4⟩;rw[q];exact fun σ' H' P' α' r' re' e1 e2=>⟨P',α',r',re',e1,e2⟩
def mS (K:Ai)(P:Hp)(α : Aa Af)(ds:Aa D)(o:Cg):Prop:=∃ (its:Aa Ac) (n:Aj) (vs:Aa V),o={ cls:=.type "list",data:=.seq its.toArray n } ∧ qJ vs its∧qD K P α ds vs∧ds.length≤lim
theorem mS.mono (e:qE P P1)(h:α<+:α1)(a:mS K P α ds o):mS K P1 α1 ds o:=by
 obtain⟨its,n,vs,q1,q2,q3,q4⟩:=a;exact⟨its,n,vs,q1,q2,qD.mono e h _ _ q3,q4⟩
theorem mS.cell (a:mS K P α ds o):∀ v,o.data≠.cell v:=by
 obtain⟨its,n,vs,rfl,_⟩:=a;intro v z;cases z
theorem Inv.pin1 {pins:Aa (Af × Cg)}{σ:_L.St}(I:Inv X pins σ H s)(f:xH X pins H a)(e:s.heap.get? a=Ab o)(d:∀ v,o.data≠.cell v):Inv X (pins++[(a,o)]) σ H s:=
 I.pins_of fun p hp=>(Co.mp hp).elim (fun z=>I.pin p (Bv _ z)) fun z=>by
  have e':p=(a,o):=by simpa using z
  subst e';exact⟨e,f.1,f.2.1,f.2.2.1,d⟩
theorem Inv.pinned1 {pins:Aa (Af × Cg)}{σ:_L.St}(I:Inv X (pins++[(a,o)]) σ H s):s.heap.get? a=Ab o∧H a=none:=by
 have:=I.pin (a,o) (Bv _ (Bv _ (by simp)))
 exact⟨this.1,this.2.1⟩
end
structure TurnSt (Y:Cx)(pins:Aa (Af × Cg))(P1:Hp)(α1:Aa Af)(fp:Aa Af)(acc:Af)(env:qG)(S:Sto)(ds:Aa D)(s:Ag)(σ : _L.St)(H P:Hp)(α : Aa Af)(o:Cg):Prop where
 inv:Inv Y pins σ H s
 rel:Rel Y.K H P α S
 env:qZ Y.K P α σ env
 same:qE P1 P
 pre:α1<+:α
 fpn:∀ b∈fp,H b=none
 acn:H acc=none
 at':s.heap.get? acc=Ab o
 acc:mS Y.K P α ds o
def wR (cells:Aa (As × Af)):Aa (As × Ha)→Aa (As × Af)→Aa (As × Af)
 |[],cs=>cs
 |(n,k)::r,cs=>wR cells r (if k == .free then (n,(cells.lookup n).getD 0)::cs else cs)
theorem gK {env:Ht}{scope:Ei}(h:∀ y∈scope.names,y.2=.free→∃ c,env.cells.lookup y.1=Ab c):Pg scope env=pure (wR env.cells scope.names []):=by
 have go:∀ (l:Aa (As × Ha)) (cs:Aa (As × Af)),(∀ y∈l,y.2=.free→∃ c,env.cells.lookup y.1=Ab c) →
   (forIn l cs fun x cs=>match x with|(name,kind)=>if (kind == Gb)=true then do let a ← cellOf env name;pure (Mo ((name,a)::cs)) else pure (Mo cs):Me (Aa (As × Af)))=pure (wR env.cells l cs):=by
  intro l
  induction l with
  |nil=>intro cs _;rfl
  |cons y r ih =>
   intro cs hl;obtain⟨n,k⟩:=y;rw[Qp];by_cases hk:k=.free
   ·subst hk
    obtain⟨c,hc⟩:=hl (n,.free) Cn rfl;have hc':env.cells.lookup n=Ab c:=hc;have e:cellOf env n=pure c:=by unfold cellOf;rw[hc']
    simp only[Fu,Eb,e,pure_bind];rw[ih _ fun z hz=>hl z (By _ hz)];simp only[wR,Fu,Eb,hc',Ly]
   ·have hb:(k == Gb)=false:=by simpa using hk
    simp only[hb,Br,DL,pure_bind];rw[ih _ fun z hz=>hl z (By _ hz)];simp only[wR,hb,Br,DL]
 unfold Pg;have:=go scope.names [] h;simp only[bind_pure];exact this
theorem jF {x:As}{c:Af}:∀ (l:Aa (As × Ha)) (cs:Aa (As × Af)),(wR cells l cs).lookup x=Ab c→cs.lookup x=Ab c∨((x,Gb)∈l∧c=(cells.lookup x).getD 0)
 |[],cs,h=>.inl h
 |(n,k)::r,cs,h=>by
  rcases jF r _ h with h|⟨h1,h2⟩
  ·by_cases hk:k=.free
   ·subst hk
    simp only[Fu,Eb,Ir] at h;cases hb:x == n with
    |true =>
     rw[hb] at h;have e:x=n:=by simpa using hb
     subst e;exact .inr ⟨Cn,(Cm h).symm⟩
    |false=>rw[hb] at h;exact .inl h
   ·have hb:(k == Gb)=false:=by simpa using hk
    simp only[hb,Br,DL] at h;exact .inl h
  ·exact .inr ⟨By _ h1,h2⟩
theorem j3 {x:As}:∀ (l:Aa (As × Ha)) (cs:Aa (As × Af)),((x,Gb)∈l∨∃ c,cs.lookup x=Ab c)→∃ c,(wR cells l cs).lookup x=Ab c
 |[],cs,h=>by
  rcases h with h|h
  ·cases h
  ·exact h
 |(n,k)::r,cs,h=>by
  refine j3 r _ ?_;rcases h with h|⟨c,h⟩
  ·rcases Ay.mp h with e|h
   ·cases e
    exact .inr ⟨(cells.lookup x).getD 0,by simp only[Fu,Eb,Ir]⟩
   ·exact .inl h
  ·by_cases hk:k=.free
   ·subst hk
    simp only[Fu,Eb,Ir];cases hb:x == n with
    |true=>exact .inr ⟨_,rfl⟩
    |false=>exact .inr ⟨c,h⟩
   ·have hb:(k == Gb)=false:=by simpa using hk
    simp only[hb,Br,DL];exact .inr ⟨c,h⟩
structure CompSc (scX:Ei)(NX:Aa As)(scope:Ei)(N':Aa As)(cap:Aa (Am Aj)):Prop where
 kind:scope.kind=.function
 names:∀ y∈scope.names,y.2=.local → scope.names.lookup y.1=Ab .local
 cel:∀ y∈scope.names,y.2=.cell→scope.names.lookup y.1=Ab .cell
 free:∀ y∈scope.names,y.2=.free→scX.names.lookup y.1=Ab .cell∨scX.names.lookup y.1=Ab .free
 fr2:∀ y∈scope.names,y.2=.free→scope.names.lookup y.1=Ab .free
 len:cap.length=N'.length
 caps:((cap.zip N').all fun p=>match p.1 with|none=>true|some i=>NX[i]? == Ab p.2&&scope.names.lookup p.2 == Ab .free)=true
 nd:N'.Nodup
def v3 (cap:Aa (Am Aj))(σ : _L.St):_L.St:=cap.map fun o=>match o with
 |none=>none
 |some i=>(σ[i]?).join
def wH (cap:Aa (Am Aj))(env:qG):qG:=cap.map fun o=>match o with
 |none=>none
 |some i=>(env[i]?).join
theorem X8 {σ:_L.St}{env:qG}(re:qZ K P α σ env)(cap:Aa (Am Aj)):qZ K P α (v3 cap σ) (wH cap env):=by
 refine⟨by simp[v3,wH],fun j d e=>?_⟩
 unfold wH at e;unfold v3;rw[Dg] at e ⊢;cases q:cap[j]? with
 |none=>rw[q] at e;cases e
 |some o =>
  rw[q] at e;cases o with
  |none=>cases e
  |some i =>
   have e':(env[i]?).join=Ab d:=by simpa using e
   cases z:env[i]? with
   |none=>rw[z] at e';cases e'
   |some w =>
    rw[z] at e';have e'':w=Ab d:=e';subst e'';obtain⟨v,h1,h2⟩:=re.2 i d z;exact⟨v,by simp[h1],h2⟩
def qY (X:Cx)(N':Aa As)(scope:Ei)(cl:Aa (As × Af))(C:Af)(ex:Aa Af)(s₀:Ag)(H₀:Hp):Cx:=
 { X with N:=N',s₀:=s₀,H₀:=H₀,env:=compEnvC scope cl C X.env,outer:=X.stack,stack:=X.stack,ex:=ex,fn:=fun x=>decide (scope.names.lookup x=Ab .cell),pn:=[],xe:=fun _ _=>Ev }
theorem uT {scope:Ei}{env:Ht}:∀ {names:Aa (As × Ha)} {x:As} {k:Ha},
  (names.map fun (n,k)=>if (k == Gb&&env.scope.kind == .function&&env.kindOf n == Ab .cell) then (n,Lz) else (n,k)).lookup x=Ab k →
  names.lookup x=Ab k∨(k=.cell∧names.lookup x=Ab .free)
 |[],_,_,h=>by simp at h
 |(n,k0)::r,x,k,h=>by
  rw[Dv,Ir] at h;rw[Ir];dsimp only at h;cases hb:(k0 == Gb&&env.scope.kind == .function&&env.kindOf n == Ab .cell) with
  |true =>
   rw[hb] at h;simp only[Eb] at h;cases hx:x == n with
   |true =>
    rw[hx] at h;have e:Lz=k:=Cm h;have hk:k0=.free:=by
     have:=(AT _ _).mp hb;have:=(AT _ _).mp this.1;simpa using this.1
    subst hk;exact .inr ⟨e.symm,rfl⟩
   |false=>rw[hx] at h;exact uT (scope:=scope) h
  |false =>
   rw[hb] at h;simp only[Br,DL] at h;cases hx:x == n with
   |true=>rw[hx] at h;exact .inl h
   |false=>rw[hx] at h;exact uT (scope:=scope) h
section
variable {X:Cx}{scope:Ei}{N':Aa As}{cap:Aa (Am Aj)}{pins:Aa (Af × Cg)}{σ : _L.St}{H2:Hp}{s2:Ag}{fp:Aa Af}
theorem kH (S:CompSc X.env.scope X.N scope N' cap){x:As}{k:Ha}(h:(relabel scope X.env).names.lookup x=Ab k):scope.names.lookup x=Ab k∨(k=.cell∧scope.names.lookup x=Ab .free):=uT (scope:=scope) h
theorem oN (S:CompSc X.env.scope X.N scope N' cap)(ok:X.Ok){x:As}{c:Af}(h:(wR X.env.cells scope.names []).lookup x=Ab c):X.env.cells.lookup x=Ab c∧(x,Gb)∈scope.names:=by
 rcases jF _ _ h with h|⟨hm,hc⟩
 ·cases h
 ·have:=S.free _ hm rfl
  obtain⟨c',hc'⟩:=ok.has x this;rw[hc',Ly] at hc;rw[hc',hc];exact⟨rfl,hm⟩
def V1 (scope:Ei)(C:Af):Aa (As × Af):=Gw (C+1) scope.names []
def kG (X:Cx)(scope:Ei)(C:Af):Aa (As × Af):=Gw (C+1) scope.names (wR X.env.cells scope.names [])
theorem yO:∀ (names:Aa (As × Ha)) (lo:Aj) (acc:Aa (As × Af)),Gw lo names acc=Gw lo names [] ++ acc
 |[],_,_=>rfl
 |(n,k)::r,lo,acc=>by
  unfold Gw
  split
  ·rw[yO r _ ((n,lo)::acc),yO r _ [(n,lo)],Gr];rfl
  ·exact yO r lo acc
set_option tactic.hygienic true in
theorem gR:∀ (names:Aa (As × Ha)) (lo:Aj) {n:As} {c:Af},(n,c)∈Gw lo names [] → (n,Lz)∈names
 |[],_,_,_,h=>by cases h
 |(n0,k)::r,lo,n,c,h=>by
  unfold Gw at h
  split at h
  ·rename_i hk
   rw[yO] at h;rcases Co.mp h with h|h
   ·exact By _ (gR r _ h)
   ·have e:(n,c)=(n0,lo):=by simpa using h
    cases e;have:k=Lz:=by simpa using hk
    rw[this];exact Cn
  ·exact By _ (gR r _ h)
theorem xB (S:CompSc X.env.scope X.N scope N' cap)(ok:X.Ok){C:Af}{x:As}{c:Af}(h:(kG X scope C).lookup x=Ab c):((x,c)∈V1 scope C∧scope.names.lookup x=Ab .cell)∨(X.env.cells.lookup x=Ab c∧(x,Gb)∈scope.names):=by
 unfold kG at h;rw[yO,TW] at h;cases q:(Gw (C+1) scope.names []).lookup x with
 |some c' =>
  rw[q] at h;cases h;have m:=Ey q;exact .inl ⟨m,S.cel _ (gR _ _ m) rfl⟩
 |none =>
  rw[q] at h;exact .inr (oN S ok h)
theorem sC (S:CompSc X.env.scope X.N scope N' cap)(ok:X.Ok){C:Af}{x:As}(h:scope.names.lookup x=Ab .cell∨scope.names.lookup x=Ab .free):∃ c,(kG X scope C).lookup x=Ab c:=by
 unfold kG;rw[yO,TW];rcases h with h|h
 ·have:=IV scope.names (C+1) [] (x:=x) (.inl h)
  obtain⟨c,hc⟩:=Ik.mp this;exact⟨c,by rw[hc];rfl⟩
 ·obtain⟨c',hc'⟩:=j3 (cells:=X.env.cells) scope.names [] (.inl (Ey h))
  rw[hc'];cases (Gw (C+1) scope.names []).lookup x with
  |none=>exact⟨c',rfl⟩
  |some c=>exact⟨c,rfl⟩
theorem JP (S:CompSc X.env.scope X.N scope N' cap)(I2:Inv X pins σ H2 s2)(hf:∀ b∈fp,xH X pins H2 b)(hlt:∀ b∈fp,b<s2.heap.objs.size)(hC:s2.heap.objs.size≤C){h1:Bk}(co:CellsOk h1 (C+1) (V1 scope C)) :
  (qY X N' scope (kG X scope C) C fp s2 H2).Ok where
 mod:=I2.ok.mod
 kind:=S.kind
 glob:=I2.ok.glob
 blt:=I2.ok.blt
 above:=hC
 inj:=fun x y c h1 h2=>by
  rcases xB S I2.ok h1 with⟨m1,_⟩|⟨m1,_⟩ <;> rcases xB S I2.ok h2 with⟨m2,_⟩|⟨m2,_⟩
  ·exact PySem.name_of_addr co.apart m1 m2
  ·obtain⟨v,ob,hob,_⟩:=I2.cell y c m2
   exact absurd (Bf (Ax hob) hC) (Lo.mpr (Fm (co.empty x c m1).2))
  ·obtain⟨v,ob,hob,_⟩:=I2.cell x c m1
   exact absurd (Bf (Ax hob) hC) (Lo.mpr (Fm (co.empty y c m2).2))
  ·exact I2.ok.inj x y c m1 m2
 has:=fun x hx=>by
  have hx':(relabel scope X.env).names.lookup x=Ab .cell∨(relabel scope X.env).names.lookup x=Ab .free:=hx;refine sC S I2.ok ?_;rcases hx' with h|h
  ·rcases kH S h with h|⟨_,h⟩
   ·exact .inl h
   ·exact .inr h
  ·rcases kH S h with h|⟨z,_⟩
   ·exact .inr h
   ·cases z
 cab:=fun x c h h2=>by
  have hx:scope.names.lookup x=Ab .cell:=Bw h;rcases xB S I2.ok h2 with⟨m,_⟩|⟨_,m⟩
  ·exact Cr hC (Fm (co.empty x c m).2)
  ·have:=S.fr2 _ m rfl
   have this':scope.names.lookup x=Ab .free:=this;rw[hx] at this';cases this'
 hd:=I2.ok.hd
 frames:=I2.ok.frames
 stk:=.inl rfl
 exf:=fun b hb=>⟨Cd (Bf (hlt b hb) hC),fun x c h=>by
  rcases xB S I2.ok h with⟨m,_⟩|⟨m,_⟩
  ·exact Fx (Cd (Ku (Bf (hlt b hb) hC) (co.empty x c m).2))
  ·exact(hf b hb).2.2.2.2.1 x c m⟩
 bs:=I2.bs
 bsz:=Cr I2.ok.bsz I2.sz
 noex:=fun b o e hb=>by
  obtain⟨_,_,_,h,_⟩:=hf b hb;rcases h with h|h
  ·exact I2.ok.noex b o e h
  ·exact absurd (Bf (Ax e) (Cr I2.ok.bsz h)) (Ea _)
 exfs:=fun b hb hb2=>by
  obtain⟨_,h1,h2,_⟩:=hf b hb;rcases Ay.mp (I2.stkSub b hb2) with z|z
  ·exact h1 z
  ·exact h2 z
 funs:=I2.stack
 frf:=I2.stkFree
theorem W7 {s4:Ag}{m:As→Am Ac}(S:CompSc X.env.scope X.N scope N' cap)(I2:Inv X pins σ H2 s2)(hf:∀ b∈fp,xH X pins H2 b)(hlt:∀ b∈fp,b<s2.heap.objs.size)(hC:s2.heap.objs.size≤C)
  (hn:s4.heap.Ns C m) (os:s4.os=s2.os) (gens:s4.gens=s2.gens) (keep:∀ b o,s2.heap.get? b=Ab o→s4.heap.get? b=Ab o) (co:CellsOk s4.heap (C+1) (V1 scope C)) :
  Inv (qY X N' scope (kG X scope C) C fp s2 H2) [] (v3 cap σ) H2 s4 where
 ok:=JP S I2 hf hlt hC co
 os:=os
 bare:=gens▸I2.bare
 base:=Un.kept keep
 loc:=by
  refine⟨m,hn,fun j x v h1 h2 h3=>?_⟩;have h1':N'[j]? = Ab x:=h1;unfold v3 at h2;rw[Dg] at h2;cases q:cap[j]? with
  |none=>rw[q] at h2;cases h2
  |some o =>
   rw[q] at h2;cases o with
   |none=>cases h2
   |some i =>
    have e':(σ[i]?).join=Ab v:=by simpa using h2
    have hσ:σ[i]? = Ab (Ab v):=by
     cases z:σ[i]? with
     |none=>rw[z] at e';cases e'
     |some w=>rw[z] at e';have:w=Ab v:=e';rw[this]
    have hz:(Ab i,x)∈cap.zip N':=by
     refine IY.mpr ⟨j,?_⟩;rw[OB];exact⟨q,h1'⟩
    have hc:=Bq.mp S.caps _ hz;simp only[AT,Pf] at hc;obtain⟨hN,hfr⟩:=hc;have hk:=S.free _ (Ey hfr) rfl;obtain⟨mo,hmo,hl⟩:=I2.loc;have vis:Vis X.env.scope x:=by
     rcases hk with k|k
     ·exact .inr (.inl k)
     ·exact .inr (.inr k)
    obtain⟨u,ru,lk⟩:=hl i x v hN hσ vis;refine⟨u,ru,?_⟩;rcases lk with⟨kl,_⟩|⟨_,c,hcl,hcell⟩
    ·have kl':X.env.scope.names.lookup x=Ab .local:=kl
     rcases hk with k|k
     ·have k':X.env.scope.names.lookup x=Ab .cell:=k
      rw[kl'] at k';cases k'
     ·have k':X.env.scope.names.lookup x=Ab .free:=k
      rw[kl'] at k';cases k'
    ·obtain⟨c',hc'⟩:=sC S I2.ok (C:=C) (.inr hfr)
     have e2:X.env.cells.lookup x=Ab c':=by
      rcases xB S I2.ok hc' with⟨_,z⟩|⟨z,_⟩
      ·rw[hfr] at z;cases z
      ·exact z
     rw[hcl] at e2;cases e2;refine .inr ⟨?_,c,hc',?_⟩
     ·have h3':Vis (relabel scope X.env) x:=h3
      rcases h3' with h|h|h
      ·rcases kH S h with h|⟨z,_⟩
       ·rw[hfr] at h;cases h
       ·cases z
      ·exact .inl h
      ·exact .inr h
     ·obtain⟨ob,hob,hd⟩:=hcell
      exact⟨ob,keep c ob hob,hd⟩
 cell:=fun x c h=>by
  rcases xB S I2.ok h with⟨m,_⟩|⟨m,_⟩
  ·exact⟨none,(co.empty x c m).1⟩
  ·obtain⟨v,ob,hob,hd⟩:=I2.cell x c m
   exact⟨v,ob,keep c ob hob,hd⟩
 free:=I2.hok.fresh hC
 freeC:=fun x c h=>by
  rcases xB S I2.ok h with⟨m,_⟩|⟨m,_⟩
  ·exact I2.hok.fresh (Cr hC (Fm (co.empty x c m).2))
  ·exact I2.freeC x c m
 pin:=fun p hp=>absurd (show p∈([]:Aa (Af × Cg)) from hp) (by simp)
 hok:=I2.hok.kept keep
 len:=by
  show (v3 cap σ).length=N'.length;simp[v3,S.len]
end
theorem QH {P:Be}{w:Bt}{h:Bk}{o:HO}(x:HOk P w H h)(hn:H a=none)(new:zA P w (upd H a o) h a o):HOk P w (upd H a o) h:=fun b u e=>by
 by_cases hb:b=a
 ·subst hb;rw[qQ] at e;cases e;exact new
 ·rw[qF hb] at e
  exact(x b u e).stay (fun c v _ q=>q) (fun c q=>by rw[qF (qR q hn)];exact q) fun c xs q=>by rw[qF (qR q hn)];exact q
theorem QF {P:Be}{w:Bt}{h h':Bk}(x:HOk P w H h)(hn:H C=none)(k:∀ b o,b≠C→h.get? b=Ab o→h'.get? b=Ab o):HOk P w H h':=fun b u e =>
 (x b u e).stay (fun c v hc q=>k c v (by
  rintro rfl;rcases hc with z|z
  ·subst z;rw[hn] at e;cases e
  ·rw[hn] at z;cases z) q) (fun _ q=>q) fun _ _ q=>q
section
variable {X:Cx}{elt tg iter:Bp}{ifs:Aa Bp}{scope:Ei}{pos:Ek}{N':Aa As}{cap:Aa (Am Aj)}{fi:DI}{g:DG}{t:DT}{fe:DE}
def pC (X:Cx)(pins:Aa (Af × Cg))(σ : _L.St)(P1:Hp)(α1:Aa Af)(ds:Aa D)(SF:Sto)(acc C:Af)(s:Ag):Prop:=
 ∃ (H' P':Hp) (α' : Aa Af) (vs:Aa V),Inv X pins σ (upd H' acc (.lst vs)) s∧Rel X.K H' P' α' SF∧H' acc=none∧qE P1 P'∧α1<+:α'∧qD X.K P' α' ds vs∧H' C=none
theorem W6 {Y:Cx}{pins:Aa (Af × Cg)}{σ σ':_L.St}{H2:Hp}{s2 s':Ag}{fp:Aa Af}{acc:Af}{H' P':Hp}{α':Aa Af}{envF:qG}{SF:Sto}{cl:Aa (As × Af)}(I2:Inv X pins σ H2 s2)
  (hf:∀ b∈fp,xH X pins H2 b) (hY:Y=qY X N' scope cl C fp s2 H2) (hC:s2.heap.objs.size≤C) (hA:s2.heap.objs.size≤acc) (hne:acc≠C) (st:TurnSt Y [] P1 α1 fp acc envF SF ds s' σ' H' P' α' o)
  {h':Bk} (sb:En C s'.heap h'):pC X pins σ P1 α1 ds SF acc C { s' with heap:=h' }:=by
 subst hY;obtain⟨its,n,vs,rfl,rv,rp,hz⟩:=st.acc;have kC:∀ b o,b≠C→s'.heap.get? b=Ab o→h'.get? b=Ab o:=fun b o hb e=>(sb.2 b hb).trans e;have nC:∀ b o,s2.heap.get? b=Ab o→b≠C:=fun b o e=>Cd (Bf (Ax e) hC);have nA:∀ b o,s2.heap.get? b=Ab o→b≠acc:=fun b o e=>Cd (Bf (Ax e) hA);have base:Un (frs X.stack) fp H2 H' s2.heap s'.heap:=st.inv.base;have nt:∀ b u,H' b=Ab u→b≠acc:=fun b u e=>qR e st.acn;have un:Un (frs X.stack) fp H2 (upd H' acc (.lst vs)) s2.heap h':=by
  refine⟨fun b ob q hn hb hx=>kC b ob (nC b ob q) (base.keep b ob q hn hb hx),fun b ob q hn hb hx=>?_,fun b ob q hn hx=>?_,fun b ob q hx=>?_,fun b xs q=>?_,fun b ob u q=>?_,fun b ps q=>?_⟩
  ·obtain⟨sl,e⟩:=base.slot b ob q hn hb hx
   exact⟨sl,kC b _ (nC b ob q) e⟩
  ·rw[qF (nA b ob q)];exact base.free b ob q hn hx
  ·obtain⟨o',e⟩:=base.there b ob q hx
   exact⟨o',kC b o' (nC b ob q) e⟩
  ·have:=base.tups b xs q;rw[qF (nt _ _ this)];exact this
  ·have:=base.frzs b ob u q;rw[qF (nt _ _ this)];exact this
  ·obtain⟨more,e⟩:=base.tbls b ps q
   exact⟨more,by rw[qF (nt _ _ e)];exact e⟩
 have hok':HOk X.prog X.w H' h':=QF st.inv.hok st.inv.free kC;have hat:h'.get? acc=Ab { cls:=.type "list",data:=.seq its.toArray n }:=kC acc _ hne st.at';have hok:HOk X.prog X.w (upd H' acc (.lst vs)) h':=QH hok' st.acn ⟨by rw[← rp.length,← zJ];exact hz,its,n,rv,hat⟩
 refine⟨H',P',α',vs,?_,st.rel,st.acn,st.same,st.pre,rp,st.inv.free⟩;exact I2.call' (s':={ s' with heap:=h' }) (ch:=fp) (st.inv.os) un hok st.inv.bare fun b hb=>by
  obtain⟨_,h1,h2,h3,h4,h5⟩:=hf b hb;exact⟨h3,h1,h4,h5⟩
theorem eW (S:CompSc X.env.scope X.N scope N' cap)(ok:X.Ok):Pg scope X.env=pure (wR X.env.cells scope.names []):=gK fun y hy hk=>ok.has y.1 (S.free y hy hk)
theorem KC {pins:Aa (Af × Cg)}{σ:_L.St}{SF:Sto}{acc:Af}{Q:VK}(c:pC X pins σ P1 α1 ds SF acc C s)(ok:OkV X P1 α1 Q (.lst ds) SF):EP X pins σ Q (.ref acc) s:=by
 obtain⟨H',P',α',vs,I,r,hn,e1,e2,rp,_⟩:=c;exact⟨.ref acc,_,I,rfl,wA r hn rp fun v H2 P2 α2 r2 q1 q2 q3=>ok v H2 P2 α2 r2 (e1.trans q1) (e2.trans q2) q3⟩
end
end _D
section
namespace _D
open PySem PySem.Spec PyProof.Rows _L PySem.SeqAt
def b01 (b:Ar):Al:=if b then 1 else 0
mutual
def eqD:D→D→Ar
 |.non,.non=>true
 |.bl a,.bl b=>a == b
 |.bl a,.int b=>b01 a == b
 |.int a,.bl b=>a == b01 b
 |.int a,.int b=>a == b
 |.str a,.str b=>a == b
 |.tup xs,.tup ys=>zK xs ys
 |.lst xs,.lst ys=>zK xs ys
 |_,_=>false
def zK:Aa D→Aa D→Ar
 |[],[]=>true
 |x::xs,y::ys=>eqD x y&&zK xs ys
 |_,_=>false
end
def pl:Aj→D→Ar
 |_,.non=>true
 |_,.bl _=>true
 |_,.int _=>true
 |_,.str _=>true
 |n+1,.tup xs=>xs.all (pl n)
 |n+1,.lst xs=>xs.all (pl n)
 |_,_=>false
theorem Q3 (x y:D)(xs ys:Aa D):zK (x::xs) (y::ys)=(eqD x y&&zK xs ys):=rfl
theorem uK:∀ (xs ys:Aa D),zK xs ys=((Ce (min xs.length ys.length)).all (fun j=>eqD (xs.getD j .non) (ys.getD j .non))&&xs.length == ys.length)
 |[],[]=>rfl
 |[],y::ys=>rfl
 |x::xs,[]=>rfl
 |x::xs,y::ys=>by
  have ih:=uK xs ys;rw[Q3,ih,Cj,Cj,Nat.succ_min_succ,Lp,OC,Hx,Bool.and_assoc];have e:(xs.length+1 == ys.length+1)=(xs.length == ys.length):=by simp
  rw[e];rfl
theorem WZ {xs ys:Aa D}(h:xs.length≠ys.length):zK xs ys=false:=by
 rw[uK];simp[h]
theorem tF (xs ys:Aa D):eqD (.tup xs) (.tup ys)=zK xs ys:=rfl
theorem tE (xs ys:Aa D):eqD (.lst xs) (.lst ys)=zK xs ys:=rfl
section
variable {X:Cx}{pins:Aa (Af × Cg)}{σ : _L.St}{H P:Hp}{α : Aa Af}{S:Sto}{s:Ag}
inductive Kd (X:Cx)(P:Hp)(α : Aa Af)(s:Ag):D→Ac→Prop where
 |non:Kd X P α s .non .none
 |bl (b:Ar):Kd X P α s (.bl b) (.bool b)
 |int (i:Al) (t:OQ):Kd X P α s (.int i) (.int i t)
 |str (x:As) (t:OQ):Kd X P α s (.str x) (.str x t)
 |tup (a:Af) (xs:Aa D) (its:Aa Ac) (vs:Aa V) (rp:qD X.K P α xs vs) (rv:qJ vs its) (h:s.heap.IsTuple a its.toArray) (q:SqT X.K P a vs):Kd X P α s (.tup xs) (.ref a)
 |lst (a:Af) (xs:Aa D) (its:Aa Ac) (vs:Aa V) (rp:qD X.K P α xs vs) (rv:qJ vs its) (h:s.heap.IsList a its.toArray) (q:SqX X.K P a vs):Kd X P α s (.lst xs) (.ref a)
theorem j8 (I:Inv X pins σ H s)(r:Rel X.K H P α S){n:Aj}{d:D}{v:V}{u:Ac}(h:pl n d=true)(p:Rep X.K P α d v)(rv:qL v u):Kd X P α s d u:=by
 cases d with
 |non=>simp only[Rep] at p;subst p;cases rv;exact .non
 |bl b=>simp only[Rep] at p;subst p;cases rv;exact .bl b
 |int i=>simp only[Rep] at p;subst p;obtain⟨t,rfl⟩:=rv;exact .int i t
 |str x=>simp only[Rep] at p;subst p;obtain⟨t,rfl⟩:=rv;exact .str x t
 |tup xs =>
  simp only[Rep] at p;obtain⟨a,vs,rfl,q,t⟩:=p;cases rv;obtain⟨its,r1,p1,_⟩:=I.tuple (xG r.sub q);exact .tup a xs its vs t r1 p1 q
 |lst xs =>
  simp only[Rep] at p;obtain⟨a,vs,rfl,q,t⟩:=p;cases rv;obtain⟨its,r1,p1,_⟩:=I.list ((xA r.sub q).l);exact .lst a xs its vs t r1 p1.isList q
 |_=>cases n <;> exact Hn h
theorem vE {ds:Aa D}{vs:Aa V}{its:Aa Ac}(rp:qD X.K P α ds vs)(rv:qJ vs its){j:Aj}(h:j<its.toArray.size):∃ v,Rep X.K P α (ds.getD j .non) v∧qL v its.toArray[j]∧ds.getD j .non∈ds:=by
 have l1:=rp.length;have l2:=rv.length;have hj:j<its.length:=by simpa using h
 have hd:j<ds.length:=by omega
 obtain⟨v,e1,p⟩:=rp.get (Ap hd);obtain⟨u,e2,q⟩:=rv.get e1;have e3:its.toArray[j]=u:=by
  have:its[j]? = Ab its[j]:=Ap hj;rw[this] at e2;simpa using Cm e2
 have e4:ds.getD j .non=ds[j]:=by simp[IZ,hd]
 rw[e3,e4];exact⟨v,p,q,Jq hd⟩
theorem jA {n:Aj}{ds:Aa D}(h:ds.all (pl n)=true){d:D}(hd:d∈ds):pl n d=true:=Bq.mp h d hd
theorem KU {h:Bk}{a:Af}{xs ys:Bl Ac}(h1:h.IsTuple a xs)(h2:h.IsTuple a ys):xs=ys:=by
 obtain⟨o,e,_,n,d⟩:=h1;obtain⟨o',e',_,n',d'⟩:=h2;cases e.symm.trans e';cases d.symm.trans d';rfl
theorem KP {h:Bk}{a:Af}{xs ys:Bl Ac}(h1:h.IsList a xs)(h2:h.IsList a ys):xs=ys:=by
 obtain⟨o,e,_,n,d⟩:=h1;obtain⟨o',e',_,n',d'⟩:=h2;cases e.symm.trans e';cases d.symm.trans d';rfl
theorem MS {h:Bk}{a:Af}{xs ys:Bl Ac}(h1:h.IsTuple a xs)(h2:h.IsList a ys):Ev:=by
 obtain⟨o,e,c,_⟩:=h1;obtain⟨o',e',c',_⟩:=h2;cases e.symm.trans e';exact absurd (c.symm.trans c') (by decide)
inductive Seqs (X:Cx)(P:Hp)(α : Aa Af)(xs ys:Aa D)(its its2:Aa Ac):Prop
 |mk (vs ws:Aa V) (rp:qD X.K P α xs vs) (rv:qJ vs its) (rp2:qD X.K P α ys ws) (rv2:qJ ws its2):Seqs X P α xs ys its its2
theorem Seqs.len1 {xs ys:Aa D}{its its2:Aa Ac}(q:Seqs X P α xs ys its its2):xs.length=its.length:=by
 obtain⟨vs,ws,rp,rv,_,_⟩:=q;exact rp.length.trans rv.length
theorem Seqs.len2 {xs ys:Aa D}{its its2:Aa Ac}(q:Seqs X P α xs ys its its2):ys.length=its2.length:=by
 obtain⟨vs,ws,_,_,rp,rv⟩:=q;exact rp.length.trans rv.length
inductive SameR (X:Cx)(P:Hp)(α : Aa Af):D→D→Prop
 |eq {d d':D} (h:eqD d d'=true):SameR X P α d d'
 |tt (xs ys:Aa D) (its:Aa Ac) (q:Seqs X P α xs ys its its):SameR X P α (.tup xs) (.tup ys)
 |ll (xs ys:Aa D) (its:Aa Ac) (q:Seqs X P α xs ys its its):SameR X P α (.lst xs) (.lst ys)
theorem a9 {d d':D}{u:Ac}(k1:Kd X P α s d u)(k2:Kd X P α s d' u):SameR X P α d d':=by
 cases k1 with
 |non=>cases k2;exact .eq rfl
 |bl b=>cases k2;exact .eq (Fu _)
 |int i t=>cases k2;exact .eq (Fu _)
 |str x t=>cases k2;exact .eq (Fu _)
 |tup a xs its vs rp rv h q =>
  cases k2 with
  |tup _ ys its2 ws rp2 rv2 h2 q2 =>
   cases KU h h2;exact .tt xs ys its ⟨vs,ws,rp,rv,rp2,rv2⟩
  |lst _ ys its2 ws rp2 rv2 h2 q2=>exact(MS h h2).elim
 |lst a xs its vs rp rv h q =>
  cases k2 with
  |lst _ ys its2 ws rp2 rv2 h2 q2 =>
   cases KP h h2;exact .ll xs ys its ⟨vs,ws,rp,rv,rp2,rv2⟩
  |tup _ ys its2 ws rp2 rv2 h2 q2=>exact(MS h2 h).elim
theorem nQ (I:Inv X pins σ H s)(r:Rel X.K H P α S){m:Aj}(ih:∀ (d d':D) (u:Ac),pl m d=true→pl m d'=true→Kd X P α s d u→Kd X P α s d' u→eqD d d'=true){xs ys:Aa D}{its:Aa Ac}(h1:xs.all (pl m)=true)(h2:ys.all (pl m)=true)(q:Seqs X P α xs ys its its):zK xs ys=true:=by
 obtain⟨vs,ws,rp,rv,rp2,rv2⟩:=q;have l1:=rp.length.trans rv.length;have l2:=rp2.length.trans rv2.length;rw[uK,l1,l2,Uj,AT];refine⟨Bq.mpr fun j hj=>?_,BEq.rfl⟩;have hj:j<its.toArray.size:=Ej.mp hj;obtain⟨w1,y1,z1,m1⟩:=vE rp rv hj;obtain⟨w2,y2,z2,m2⟩:=vE rp2 rv2 hj;exact ih _ _ _ (jA h1 m1) (jA h2 m2) (j8 I r (jA h1 m1) y1 z1) (j8 I r (jA h2 m2) y2 z2)
theorem hW (I:Inv X pins σ H s)(r:Rel X.K H P α S):∀ (n:Aj) (d d':D) (u:Ac),pl n d=true→pl n d'=true→Kd X P α s d u→Kd X P α s d' u→eqD d d'=true:=by
 intro n
 induction n with
 |zero =>
  intro d d' u h1 h2 k1 k2;cases a9 k1 k2 with
  |eq h=>exact h
  |tt=>exact Hn h1
  |ll=>exact Hn h1
 |succ m ih =>
  intro d d' u h1 h2 k1 k2;cases a9 k1 k2 with
  |eq h=>exact h
  |tt xs ys its q=>exact(tF xs ys).trans (nQ I r ih h1 h2 q)
  |ll xs ys its q=>exact(tE xs ys).trans (nQ I r ih h1 h2 q)
structure E3 (A:Bu)(s:Ag)(u u':Ac)(b:Ar):Prop where
 eq:EqAt A s u u' b
 rc:RcAt A s u u' b
 ne:RcNeAt A s u u' (!b)
inductive EqR (X:Cx)(P:Hp)(α : Aa Af)(A:Bu)(s:Ag):D→D→Ac→Ac→Prop
 |of {d d':D} {u u':Ac} (b:Ar) (e:eqD d d'=b) (h:E3 A s u u' b):EqR X P α A s d d' u u'
 |tt (a b:Af) (xs ys:Aa D) (its its2:Aa Ac) (ha:s.heap.IsTuple a its.toArray) (hb:s.heap.IsTuple b its2.toArray) (q:Seqs X P α xs ys its its2):EqR X P α A s (.tup xs) (.tup ys) (.ref a) (.ref b)
 |ll (a b:Af) (xs ys:Aa D) (its its2:Aa Ac) (ha:s.heap.IsList a its.toArray) (hb:s.heap.IsList b its2.toArray) (q:Seqs X P α xs ys its its2):EqR X P α A s (.lst xs) (.lst ys) (.ref a) (.ref b)
theorem UI {A:Bu}{d d':D}{u u':Ac}(hu:A.units<Ex)(k1:Kd X P α s d u)(k2:Kd X P α s d' u'):EqR X P α A s d d' u u':=by
 cases k1 with
 |non  =>
  cases k2 with
  |non  => exact .of _ rfl ⟨Yd _,RcAt.none_none,RcNeAt.none_none⟩
  |bl b=>exact .of _ rfl ⟨EqAt.none_bool b,RcAt.none_bool b,RcNeAt.none_bool b⟩
  |int b tb=>exact .of _ rfl ⟨EqAt.none_int b tb,RcAt.none_int b tb,RcNeAt.none_int b tb⟩
  |str b tb=>exact .of _ rfl ⟨EqAt.none_str b tb,RcAt.none_str b tb,RcNeAt.none_str b tb⟩
  |tup b ys its2 ws rp2 rv2 hb qb=>exact .of _ rfl ⟨EqAt.none_tuple hb hu,RcAt.none_tuple hb hu,RcNeAt.none_tuple hb hu⟩
  |lst b ys its2 ws rp2 rv2 hb qb=>exact .of _ rfl ⟨EqAt.none_list hb hu,RcAt.none_list hb hu,RcNeAt.none_list hb hu⟩
 |bl a =>
  cases k2 with
  |non  => exact .of _ rfl ⟨EqAt.bool_none a,RcAt.bool_none a,RcNeAt.bool_none a⟩
  |bl b=>exact .of _ rfl ⟨EqAt.bool_bool a b,RcAt.bool_bool a b,RcNeAt.bool_bool a b⟩
  |int b tb=>exact .of _ rfl ⟨EqAt.bool_int a b tb,RcAt.bool_int a b tb,RcNeAt.bool_int a b tb⟩
  |str b tb=>exact .of _ rfl ⟨EqAt.bool_str a b tb,RcAt.bool_str a b tb,RcNeAt.bool_str a b tb⟩
  |tup b ys its2 ws rp2 rv2 hb qb=>exact .of _ rfl ⟨EqAt.bool_tuple a hb hu,RcAt.bool_tuple a hb hu,RcNeAt.bool_tuple a hb hu⟩
  |lst b ys its2 ws rp2 rv2 hb qb=>exact .of _ rfl ⟨EqAt.bool_list a hb hu,RcAt.bool_list a hb hu,RcNeAt.bool_list a hb hu⟩
 |int a ta =>
  cases k2 with
  |non  => exact .of _ rfl ⟨EqAt.int_none a ta,RcAt.int_none a ta,RcNeAt.int_none a ta⟩
  |bl b=>exact .of _ rfl ⟨EqAt.int_bool a ta b,RcAt.int_bool a ta b,RcNeAt.int_bool a ta b⟩
  |int b tb=>exact .of _ rfl ⟨EqAt.int_int a ta b tb,RcAt.int_int a ta b tb,RcNeAt.int_int a ta b tb⟩
  |str b tb=>exact .of _ rfl ⟨EqAt.int_str a ta b tb,RcAt.int_str a ta b tb,RcNeAt.int_str a ta b tb⟩
  |tup b ys its2 ws rp2 rv2 hb qb=>exact .of _ rfl ⟨EqAt.int_tuple a ta hb hu,RcAt.int_tuple a ta hb hu,RcNeAt.int_tuple a ta hb hu⟩
  |lst b ys its2 ws rp2 rv2 hb qb=>exact .of _ rfl ⟨EqAt.int_list a ta hb hu,RcAt.int_list a ta hb hu,RcNeAt.int_list a ta hb hu⟩
 |str a ta =>
  cases k2 with
  |non  => exact .of _ rfl ⟨EqAt.str_none a ta,RcAt.str_none a ta,RcNeAt.str_none a ta⟩
  |bl b=>exact .of _ rfl ⟨EqAt.str_bool a ta b,RcAt.str_bool a ta b,RcNeAt.str_bool a ta b⟩
  |int b tb=>exact .of _ rfl ⟨EqAt.str_int a ta b tb,RcAt.str_int a ta b tb,RcNeAt.str_int a ta b tb⟩
  |str b tb=>exact .of _ rfl ⟨EqAt.str_str a ta b tb,RcAt.str_str a ta b tb,RcNeAt.str_str a ta b tb⟩
  |tup b ys its2 ws rp2 rv2 hb qb=>exact .of _ rfl ⟨EqAt.str_tuple a ta hb hu,RcAt.str_tuple a ta hb hu,RcNeAt.str_tuple a ta hb hu⟩
  |lst b ys its2 ws rp2 rv2 hb qb=>exact .of _ rfl ⟨EqAt.str_list a ta hb hu,RcAt.str_list a ta hb hu,RcNeAt.str_list a ta hb hu⟩
 |tup a xs its vs rp rv ha qa =>
  cases k2 with
  |non  => exact .of _ rfl ⟨EqAt.tuple_none ha hu,RcAt.tuple_none ha hu,RcNeAt.tuple_none ha hu⟩
  |bl b=>exact .of _ rfl ⟨EqAt.tuple_bool b ha hu,RcAt.tuple_bool b ha hu,RcNeAt.tuple_bool b ha hu⟩
  |int b tb=>exact .of _ rfl ⟨EqAt.tuple_int b tb ha hu,RcAt.tuple_int b tb ha hu,RcNeAt.tuple_int b tb ha hu⟩
  |str b tb=>exact .of _ rfl ⟨EqAt.tuple_str b tb ha hu,RcAt.tuple_str b tb ha hu,RcNeAt.tuple_str b tb ha hu⟩
  |tup b ys its2 ws rp2 rv2 hb qb=>exact .tt a b xs ys its its2 ha hb ⟨vs,ws,rp,rv,rp2,rv2⟩
  |lst b ys its2 ws rp2 rv2 hb qb=>exact .of _ rfl ⟨EqAt.tuple_list ha hb hu,RcAt.tuple_list ha hb hu,RcNeAt.tuple_list ha hb hu⟩
 |lst a xs its vs rp rv ha qa =>
  cases k2 with
  |non  => exact .of _ rfl ⟨EqAt.list_none ha hu,RcAt.list_none ha hu,RcNeAt.list_none ha hu⟩
  |bl b=>exact .of _ rfl ⟨EqAt.list_bool b ha hu,RcAt.list_bool b ha hu,RcNeAt.list_bool b ha hu⟩
  |int b tb=>exact .of _ rfl ⟨EqAt.list_int b tb ha hu,RcAt.list_int b tb ha hu,RcNeAt.list_int b tb ha hu⟩
  |str b tb=>exact .of _ rfl ⟨EqAt.list_str b tb ha hu,RcAt.list_str b tb ha hu,RcNeAt.list_str b tb ha hu⟩
  |tup b ys its2 ws rp2 rv2 hb qb=>exact .of _ rfl ⟨EqAt.list_tuple ha hb hu,RcAt.list_tuple ha hb hu,RcNeAt.list_tuple ha hb hu⟩
  |lst b ys its2 ws rp2 rv2 hb qb=>exact .ll a b xs ys its its2 ha hb ⟨vs,ws,rp,rv,rp2,rv2⟩
theorem E3.cast {A:Bu}{u u':Ac}{b c:Ar}(e:c=b)(h:E3 A s u u' b):E3 A s u u' c:=e▸h
theorem SO {A:Bu}{a b:Af}{xs ys:Aa D}{its its2:Aa Ac}(hu:A.units<Ex)(ha:s.heap.IsTuple a its.toArray)(hb:s.heap.IsTuple b its2.toArray)(l1:xs.length=its.length)(l2:ys.length=its2.length)
  (sub:∀ j (h1:j<its.toArray.size) (h2:j<its2.toArray.size),EqAt A.in1 s its.toArray[j] its2.toArray[j] (eqD (xs.getD j .non) (ys.getD j .non))) (same:a=b→zK xs ys=true):E3 A s (.ref a) (.ref b) (zK xs ys):=by
 have e:zK xs ys=((Ce (min its.toArray.size its2.toArray.size)).all (fun j=>eqD (xs.getD j .non) (ys.getD j .non))&&its.toArray.size == its2.toArray.size):=by rw[uK,l1,l2];rfl
 have R1:=RcAt.tuples ha hb hu sub;have R2:=RcNeAt.tuples ha hb hu sub;rw[← e] at R1 R2;refine⟨?_,R1,R2⟩;by_cases hab:a=b
 ·rw[same hab,hab]
  exact Yd _
 ·exact Yv hab R1
theorem SN {A:Bu}{a b:Af}{xs ys:Aa D}{its its2:Aa Ac}(hu:A.units<Ex)(ha:s.heap.IsList a its.toArray)(hb:s.heap.IsList b its2.toArray)(l1:xs.length=its.length)(l2:ys.length=its2.length)
  (sub:∀ j (h1:j<its.toArray.size) (h2:j<its2.toArray.size),EqAt A.in1 s its.toArray[j] its2.toArray[j] (eqD (xs.getD j .non) (ys.getD j .non))) (same:a=b→zK xs ys=true):E3 A s (.ref a) (.ref b) (zK xs ys):=by
 have R:RcAt A s (.ref a) (.ref b) (zK xs ys)∧RcNeAt A s (.ref a) (.ref b) (!zK xs ys):=by
  by_cases hl:its.length=its2.length
  ·have e:zK xs ys=(Ce its.toArray.size).all (fun j=>eqD (xs.getD j .non) (ys.getD j .non)):=by rw[uK,l1,l2,← hl,Uj,BEq.rfl,Bool.and_true];rfl
   rw[e];exact⟨RcAt.lists ha hb hl hu sub,RcNeAt.lists ha hb hl hu sub⟩
  ·rw[WZ (by rw[l1,l2];exact hl)]
   have hn:(its.toArray.size != its2.toArray.size)=true:=bne_iff_ne.mpr hl;exact⟨RcAt.lists_lengths ha hb hn hu,RcNeAt.lists_lengths ha hb hn hu⟩
 refine⟨?_,R.1,R.2⟩;by_cases hab:a=b
 ·rw[same hab,hab]
  exact Yd _
 ·exact Yv hab R.1
theorem Q2 (I:Inv X pins σ H s)(r:Rel X.K H P α S):∀ (n:Aj) (A:Bu) (d d':D) (u u':Ac),A.units+n<Ex→pl n d=true→pl n d'=true→Kd X P α s d u→Kd X P α s d' u'→E3 A s u u' (eqD d d'):=by
 intro n
 induction n with
 |zero =>
  intro A d d' u u' hu h1 h2 k1 k2;cases UI hu k1 k2 with
  |of b e h=>exact h.cast e
  |tt=>exact Hn h1
  |ll=>exact Hn h1
 |succ m ih =>
  intro A d d' u u' hu h1 h2 k1 k2;have hu0:A.units<Ex:=Og (Iu _ _) hu;have hu1:A.in1.units+m<Ex:=by show A.units+1+m<Ex;omega
  have sub:∀ {xs ys:Aa D} {its its2:Aa Ac},xs.all (pl m)=true→ys.all (pl m)=true→Seqs X P α xs ys its its2 →
    ∀ j (h1:j<its.toArray.size) (h2:j<its2.toArray.size),EqAt A.in1 s its.toArray[j] its2.toArray[j] (eqD (xs.getD j .non) (ys.getD j .non)):=fun {xs ys its its2} a1 a2 ⟨vs,ws,b1,b2,c1,c2⟩ j g1 g2=>by
   obtain⟨w1,y1,z1,m1⟩:=vE b1 b2 g1;obtain⟨w2,y2,z2,m2⟩:=vE c1 c2 g2;exact(ih A.in1 _ _ _ _ hu1 (jA a1 m1) (jA a2 m2) (j8 I r (jA a1 m1) y1 z1) (j8 I r (jA a2 m2) y2 z2)).eq
  cases UI hu0 k1 k2 with
  |of b e h=>exact h.cast e
  |tt a b xs ys its its2 ha hb q=>exact(SO hu0 ha hb q.len1 q.len2 (sub h1 h2 q) fun e=>by subst e;exact(tF xs ys).symm.trans (hW I r (m+1) _ _ _ h1 h2 k1 k2)).cast (tF xs ys)
  |ll a b xs ys its its2 ha hb q=>exact(SN hu0 ha hb q.len1 q.len2 (sub h1 h2 q) fun e=>by subst e;exact(tE xs ys).symm.trans (hW I r (m+1) _ _ _ h1 h2 k1 k2)).cast (tE xs ys)
def wW:Aj:=30
def gEq:G2:=fun a b S=>if pl wW a&&pl wW b then .ok (.bl (eqD a b)) S else .bad
def gNe:G2:=fun a b S=>if pl wW a&&pl wW b then .ok (.bl (!eqD a b)) S else .bad
set_option tactic.hygienic true in
theorem RP (hu:X.A.units+64<Ex):OpD X (Dc .Eq) gEq:=by
 intro pins σ H s P α S v u vv uu a b Q I r rv ru pa pb af;unfold gEq at af
 split at af
 ·rename_i h
  rw[AT] at h;exact(Q2 I r wW X.A a b vv uu (by unfold wW;omega) h.1 h.2 (j8 I r h.1 pa rv) (j8 I r h.2 pb ru)).rc _ _ _ _ ⟨.bl _,H,I,rfl,xr af r (by simp only[Rep])⟩
 ·exact An af
set_option tactic.hygienic true in
theorem UX (hu:X.A.units+64<Ex):OpD X (Dc .NotEq) gNe:=by
 intro pins σ H s P α S v u vv uu a b Q I r rv ru pa pb af;unfold gNe at af
 split at af
 ·rename_i h
  rw[AT] at h;exact(Q2 I r wW X.A a b vv uu (by unfold wW;omega) h.1 h.2 (j8 I r h.1 pa rv) (j8 I r h.2 pb ru)).ne _ _ _ _ ⟨.bl _,H,I,rfl,xr af r (by simp only[Rep])⟩
 ·exact An af
end
end _D
end
namespace _D
open PySem PySem.Spec PyProof.Rows _L
variable {pins:Aa (Af × Cg)}{kvs:Aa (Key × D)}{its us:Aa Ac}{xs ds:Aa D}{vs:Aa V}{f:Ac→Ac→Me Ac}{s:Ag}{a d:D}{v:V}{Q:VK}{σ:_L.St}
section
variable {X:Cx}
def i2 (C:Al→Al→Ar)(f:Al→Al→D):G2:=fun a b S=>match a,b with
 |.int i,.int j=>if C i j then .ok (f i j) S else .bad
 |_,_=>.bad
theorem UL {C:Al→Al→Ar}{f:Al→Al→D}{b:D}{S:Sto}{P:Hp}{α:Aa Af}{Ok:D→Sto→Prop}(h:qI X P α (i2 C f a b S) Ok):∃ i j,a=.int i∧b=.int j∧C i j=true∧Ok (f i j) S:=by
 cases a with
 |int i =>
  cases b with
  |int j =>
   obtain⟨hc,h⟩:=xS (X:=X) h;exact⟨i,j,rfl,rfl,hc,h⟩
  |_=>exact An h
 |_=>exact An h
theorem xF {P:Hp}{α:Aa Af}{i:Al}(r:Rep X.K P α (.int i) v):v=.int i:=by simpa only [Rep] using r
theorem mF {C':Al→Al→Prop}{v:Al→Al→V}{C:Al→Al→Ar}{d:Al→Al→D}(h:OpR X f (rI C' v))(hC:∀ i j,C i j=true→C' i j)(hv:∀ P α i j,Rep X.K P α (d i j) (v i j)):OpD X f (i2 C d):=
 OpD.of h fun H P α S x y a b Q r p1 p2 af=>by
  obtain⟨i,j,rfl,rfl,hc,ok⟩:=UL af;exact⟨i,j,xF p1,xF p2,hC i j hc,xr ok r (hv P α i j)⟩
theorem mE {v:Al→Al→V}{d:Al→Al→D}(h:OpR X f (rI0 v))(hv:∀ P α i j,Rep X.K P α (d i j) (v i j)):OpD X f (i2 (fun _ _=>true) d):=
 OpD.of h fun H P α S x y a b Q r p1 p2 af=>by
  obtain⟨i,j,rfl,rfl,_,ok⟩:=UL af;exact⟨i,j,xF p1,xF p2,xr ok r (hv P α i j)⟩
def zW:G2:=i2 (fun _ _=>true) fun i j=>.int (i-j)
theorem NA:OpD X (Dz .Sub) zW:=mE NL fun P α i j=>by simp only[Rep]
def dW (i j:Al):Ar:=decide (-(2 ^ 64)<i∧i<2 ^ 64)||decide (-(2 ^ 64)<j∧j<2 ^ 64)
theorem GP:OpD X (Dz .Mult) (i2 dW fun i j=>.int (i*j)):=mF NJ (fun i j h=>by
 unfold dW at h;rw[Mp] at h;rcases h with h|h
 ·exact .inl (Bw h)
 ·exact .inr (Bw h)) fun P α i j=>by simp only[Rep]
def F6 (i j:Al):Ar:=decide (0<j∧j<1073741824)
def bT:G2:=i2 F6 fun i j=>.int (i/j)
theorem N5:OpD X (Dz .FloorDiv) bT:=mF GT (fun i j h=>(Bw h:0<j∧j<1073741824)) fun P α i j=>by simp only[Rep]
def jH:G2:=i2 (fun _ j=>decide (0<j)) fun i j=>.int (i % j)
theorem N8:OpD X (Dz .Mod) jH:=mF NI (fun i j h=>Bw h) fun P α i j=>by simp only[Rep]
def HI (i j:Al):Ar:=decide (0≤j∧j≤1000000∧i.natAbs<2 ^ 64)
def Y3:G2:=i2 HI fun i j=>.int (i ^ j.toNat)
theorem N9:OpD X (Dz .Pow) Y3:=mF NK (fun i j h=>(Bw h:0≤j∧j≤1000000∧i.natAbs<2 ^ 64)) fun P α i j=>by simp only[Rep]
def gLt:G2:=i2 (fun _ _=>true) fun i j=>.bl (decide (i<j))
def gLe:G2:=i2 (fun _ _=>true) fun i j=>.bl (decide (i≤j))
def gGe:G2:=i2 (fun _ _=>true) fun i j=>.bl (decide (j≤i))
theorem UW:OpD X (Dc .Lt) gLt:=mE RW fun P α i j=>by simp only[Rep]
theorem RT:OpD X (Dc .LtE) gLe:=mE RV fun P α i j=>by simp only[Rep]
theorem RQ:OpD X (Dc .GtE) gGe:=mE RU fun P α i j=>by simp only[Rep]
def jI:D→Sto→Res D:=fun a S=>match a with
 |.int i=>.ok (.int (-i)) S
 |_=>.bad
theorem D8:UnD X (Vu .USub) jI:=by
 intro pins σ H s P α S v vv a Q I r rv p af;cases a with
 |int i=>exact D9 pins s σ H v vv Q I rv ⟨i,xF p,xr af r (by simp only[Rep])⟩
 |_=>exact An af
def gIs:G2:=fun a b S=>match b with
 |.non=>match a with
  |.non=>.ok (.bl true) S
  |_=>.ok (.bl false) S
 |_=>.bad
theorem GJ {P:Hp}{α:Aa Af}(r:Rep X.K P α d v):decide (v=.non)=(match d with|.non=>true|_=>false):=by
 cases d <;> simp only[Rep] at r
 case non=>subst r;rfl
 case bl=>subst r;rfl
 case int=>subst r;rfl
 case str=>subst r;rfl
 case ty=>subst r;rfl
 case clo=>obtain⟨rfl,_⟩:=r;rfl
 case obj=>obtain⟨rfl,_⟩:=r;rfl
 case tup=>obtain⟨a,vs,rfl,_⟩:=r;rfl
 case lst=>obtain⟨a,vs,rfl,_⟩:=r;rfl
 case dct0=>obtain⟨a,rfl,_⟩:=r;rfl
 case loc=>obtain⟨a,rfl,_⟩:=r;rfl
 case exn=>obtain⟨a,rfl,_⟩:=r;rfl
 case fd=>obtain⟨a,o,vs,rfl,_⟩:=r;rfl
theorem RS:OpD X (Dc .Is) gIs:=OpD.of NH fun H P α S x y a b Q r p1 p2 af=>by
 cases b with
 |non =>
  simp only[Rep] at p2;refine⟨p2,?_⟩;rw[GJ p1];cases a <;> exact xr af r (by simp only[Rep])
 |_=>exact An af
def qU:G2:=fun a b S=>match a,b with
 |.int i,.int j=>.ok (.int (i+j)) S
 |.str x,.str y=>if x.length+y.length≤lim then .ok (.str (x++y)) S else .bad
 |.tup xs,.tup ys=>if xs.length+ys.length≤lim then .ok (.tup (xs++ys)) S else .bad
 |.lst xs,.lst ys=>if xs.length+ys.length≤lim then .ok (.lst (xs++ys)) S else .bad
 |_,_=>.bad
theorem vY {H P:Hp}{α:Aa Af}{S:Sto}(I:Inv X pins σ H s)(r:Rel X.K H P α S)(p:Rep X.K P α (.tup xs) v) :
  ∃ a vs its,v=.ref a∧SqT X.K P a vs∧qD X.K P α xs vs∧qJ vs its∧Nm s.heap a its.toArray∧xs.length=its.length∧xs.length≤lim:=by
 simp only[Rep] at p;obtain⟨a,vs,rfl,q,t⟩:=p;obtain⟨its,rv,p1,z⟩:=I.tuple (xG r.sub q);exact⟨a,vs,its,rfl,q,t,rv,p1,by rw[t.length,rv.length],by rw[t.length,zJ];exact z⟩
theorem vU {H P:Hp}{α:Aa Af}{S:Sto}(I:Inv X pins σ H s)(r:Rel X.K H P α S)(p:Rep X.K P α (.lst xs) v) :
  ∃ a vs its n,v=.ref a∧SqX X.K P a vs∧qD X.K P α xs vs∧qJ vs its∧s.heap.get? a=Ab { cls:=.type "list",data:=.seq its.toArray n } ∧ xs.length=its.length∧xs.length≤lim:=by
 simp only[Rep] at p;obtain⟨a,vs,rfl,q,t⟩:=p;have:∃ its n,qJ vs its∧s.heap.get? a=Ab { cls:=.type "list",data:=.seq its.toArray n } ∧ vs.length≤sizeLine:=by
  rcases q with q|⟨its,n,e,z,rv⟩
  ·obtain⟨z,its,n,rv,e⟩:=(cY r.sub q).ok I.hok
   exact⟨its,n,rv,e,z⟩
  ·exact⟨its,n,rv,I.kIn _ _ e,z⟩
 obtain⟨its,n,rv,e,z⟩:=this;exact⟨a,vs,its,n,rfl,q,t,rv,e,by rw[t.length,rv.length],by rw[t.length,zJ];exact z⟩
theorem sW {H P:Hp}{α:Aa Af}{S:Sto}(I:Inv X pins σ H s)(r:Rel X.K H P α S)(t:qD X.K P α xs vs)(rv:qJ vs its)(hz:xs.length≤lim)
  (ok:OkV X P α Q (.tup xs) S):EP X pins σ Q (.ref s.heap.objs.size) { s with heap:=s.heap.push { cls:=.type "tuple",data:=.seq its.toArray } }:=by
 refine⟨.ref s.heap.objs.size,_,I.laid (t':=s.toks) (o:=.tup vs) (fun b ob q=>Ah _ q) (Az _) ⟨by rw[← t.length,← zJ];exact hz,its,rv,Ut _ _⟩,rfl,kZ r (I.hok.fresh (Az _)) t ok⟩
theorem bY {H P:Hp}{α:Aa Af}{S:Sto}(I:Inv X pins σ H s)(r:Rel X.K H P α S)(t:qD X.K P α xs vs)(rv:qJ vs its)(hz:xs.length≤lim)
  (ok:OkV X P α Q (.lst xs) S):EP X pins σ Q (.ref s.heap.objs.size) { s with heap:=s.heap.push { cls:=.type "list",data:=.seq its.toArray } }:=by
 refine⟨.ref s.heap.objs.size,_,I.laid (t':=s.toks) (o:=.lst vs) (fun b ob q=>Ah _ q) (Az _) ⟨by rw[← t.length,← zJ];exact hz,its,0,rv,Ba _ rfl⟩,rfl,wA r (I.hok.fresh (Az _)) t ok⟩
theorem F2 {H P:Hp}{α:Aa Af}{S:Sto}{ys:Aa D}{u:V}{vv uu:Ac}(I:Inv X pins σ H s)(r:Rel X.K H P α S)(rv:qL v vv)(ru:qL u uu)(pa:Rep X.K P α (.tup xs) v)(pb:Rep X.K P α (.tup ys) u)(hl:xs.length+ys.length≤lim)(af:OkV X P α Q (.tup (xs++ys)) S) :
  Ao (Au X.prog X.w) X.A (Dz .Add vv uu) (EP X pins σ Q) X.xe s:=by
 obtain⟨a,vs,its,rfl,q1,t1,rv1,h1,l1,_⟩:=vY I r pa;obtain⟨b,ws,its2,rfl,q2,t2,rv2,h2,l2,_⟩:=vY I r pb;cases rv;cases ru;by_cases hx:its=[]
 ·obtain⟨⟨cls,dd,data,sl⟩,ho,hc,n,hd⟩:=id h1
  obtain⟨⟨cls2,dd2,data2,sl2⟩,ho2,hc2,n2,hd2⟩:=id h2;simp only at hc hd hc2 hd2;subst hc hd hc2 hd2;have hxs:xs=[]:=Ix.mp (by rw[l1,hx];rfl)
  subst hxs;exact Ue ⟨_,ho,rfl⟩ ⟨_,ho2,rfl⟩ Pc Sy Ll Kt (Kl _ _) (tuple_addW0 a b its.toArray its2.toArray n n2 dd dd2 sl sl2 (by simp[hx]))
   ⟨ho,ho2,⟨.ref b,H,I,rfl,xr af r pb⟩⟩
 ·refine _H.cat_tup h1 h2 hx (fun z=>⟨.ref a,H,I,rfl,xr af r ?_⟩) (fun z=>?_) (by rw[← l1,← l2,← zJ];exact hl)
  ·have hys:ys=[]:=Ix.mp (by rw[l2,z];rfl)
   rw[hys,Gs];exact pa
  ·exact sW I r (t1.append t2) (rv1.append rv2) (by rw[Ca];exact hl) af
theorem F1 {H P:Hp}{α:Aa Af}{S:Sto}{ys:Aa D}{u:V}{vv uu:Ac}(I:Inv X pins σ H s)(r:Rel X.K H P α S)(rv:qL v vv)(ru:qL u uu)(pa:Rep X.K P α (.lst xs) v)(pb:Rep X.K P α (.lst ys) u)(hl:xs.length+ys.length≤lim)(af:OkV X P α Q (.lst (xs++ys)) S) :
  Ao (Au X.prog X.w) X.A (Dz .Add vv uu) (EP X pins σ Q) X.xe s:=by
 obtain⟨a,vs,its,n,rfl,q1,t1,rv1,h1,l1,_⟩:=vU I r pa;obtain⟨b,ws,its2,n2,rfl,q2,t2,rv2,h2,l2,_⟩:=vU I r pb;cases rv;cases ru;refine Ph h1 h2 ?_ (by rw[Aw,Aw,← l1,← l2,← zJ];exact hl)
 rw[Na];exact bY I r (t1.append t2) (rv1.append rv2) (by rw[Ca];exact hl) af
inductive AddV (a b:D)(S:Sto):Prop
 |bad (e:qU a b S=.bad)
 |int (i j:Al) (ea:a=.int i) (eb:b=.int j)
 |str (x y:As) (ea:a=.str x) (eb:b=.str y)
 |tup (x y:Aa D) (ea:a=.tup x) (eb:b=.tup y)
 |lst (x y:Aa D) (ea:a=.lst x) (eb:b=.lst y)
theorem HF (a b:D)(S:Sto):AddV a b S:=by
 cases a with
 |int i=>cases b with
  |int j=>exact .int i j rfl rfl
  |_=>exact .bad rfl
 |str i=>cases b with
  |str j=>exact .str i j rfl rfl
  |_=>exact .bad rfl
 |tup i=>cases b with
  |tup j=>exact .tup i j rfl rfl
  |_=>exact .bad rfl
 |lst i=>cases b with
  |lst j=>exact .lst i j rfl rfl
  |_=>exact .bad rfl
 |_=>exact .bad rfl
theorem N4:OpD X (Dz .Add) qU:=by
 intro pins σ H s P α S v u vv uu a b Q I r rv ru pa pb af;cases HF a b S with
 |bad e=>rw[e] at af;exact An af
 |int i j ea eb =>
  subst ea eb;exact NG pins s σ H v u vv uu Q I rv ru ⟨i,j,xF pa,xF pb,xr af r (by simp only[Rep])⟩
 |str x y ea eb =>
  subst ea eb;obtain⟨hl,af⟩:=xS (X:=X) af;simp only[Rep] at pa pb;exact iR pins s σ H v u vv uu Q I rv ru ⟨x,y,pa,pb,by rw[← zJ];exact hl,xr af r (by simp only[Rep])⟩
 |tup xs ys ea eb =>
  subst ea eb;obtain⟨hl,af⟩:=xS (X:=X) af;exact F2 I r rv ru pa pb hl af
 |lst xs ys ea eb =>
  subst ea eb;obtain⟨hl,af⟩:=xS (X:=X) af;exact F1 I r rv ru pa pb hl af
def gIx:G2:=fun a b S=>match b with
 |.int k=>match a with
  |.tup xs=>vG (atI xs k) S
  |.lst xs=>vG (atI xs k) S
  |.loc i=>match S[i]? with
   |some (.lst xs)=>vG (atI xs k) S
   |_=>.bad
  |_=>.bad
 |_=>.bad
theorem mW {P:Hp}{α:Aa Af}{k:Al}(rp:qD X.K P α ds vs)(h:atI ds k=Ab d):∃ v,atI vs k=Ab v∧Rep X.K P α d v:=by
 unfold atI at h ⊢;rw[← rp.length];cases q:ixN ds.length k with
 |none=>rw[q] at h;cases h
 |some j =>
  rw[q] at h;obtain⟨v,h1,h2⟩:=rp.get (show ds[j]? = Ab d from h)
  exact⟨v,h1,h2⟩
theorem CA:IxD X gIx:=by
 intro value slice pins σ H s P α S v u vv uu a b Q I r rv ru pa pb af hs;cases b with
 |int k =>
  have hk:=xF pb;cases a with
  |tup xs =>
   obtain⟨d,e,ok⟩:=vH (X:=X) af;simp only[Rep] at pa;obtain⟨p,vs,rfl,q,t⟩:=pa;obtain⟨w,e1,rw'⟩:=mW t e;exact MW value slice pins s σ H _ u vv uu Q I rv ru ⟨p,vs,k,w,rfl,hk,xG r.sub q,e1,xr ok r rw'⟩ hs
  |lst xs =>
   obtain⟨d,e,ok⟩:=vH (X:=X) af;simp only[Rep] at pa;obtain⟨p,vs,rfl,q,t⟩:=pa;obtain⟨w,e1,rw'⟩:=mW t e;exact cH value slice pins s σ H _ u vv uu Q I rv ru ⟨p,vs,k,w,rfl,hk,(xA r.sub q).l,e1,xr ok r rw'⟩ hs
  |loc i =>
   obtain⟨xs,hS,af⟩:=uS (X:=X) (f:=fun xs=>vG (atI xs k) S) af;obtain⟨d,e,ok⟩:=vH (X:=X) af;simp only[Rep] at pa;obtain⟨p,rfl,q⟩:=pa;obtain⟨vs,z,t⟩:=r.at' i p _ q hS;obtain⟨w,e1,rw'⟩:=mW t e;exact cH value slice pins s σ H _ u vv uu Q I rv ru ⟨p,vs,k,w,rfl,hk,.of z,e1,xr ok r rw'⟩ hs
  |_=>exact An af
 |_=>exact An af
def bV:G3:=fun o i d S=>match o,i with
 |.loc n,.int k=>match S[n]? with
  |some (.lst xs)=>match ixN xs.length k with
   |some j=>.ok () (S.set n (.lst (xs.set j d)))
   |none=>.bad
  |_=>.bad
 |_,_=>.bad
theorem EA:dP X (dJ X bV):=by
 intro pins s σ H o i v ov iv u Q I ro ri rv h;obtain⟨P,α,S,a,b,d,r,pa,pb,pd,af⟩:=h;cases a with
 |loc n =>
  cases b with
  |int k =>
   obtain⟨xs,hS,af⟩:=uS (X:=X) (f:=fun xs=>match ixN xs.length k with|some j=>.ok () (S.set n (.lst (xs.set j d)))|none=>.bad) af
   cases hj:ixN xs.length k with
   |none=>rw[hj] at af;exact An af
   |some j =>
    rw[hj] at af;simp only[Rep] at pa;obtain⟨p,rfl,q⟩:=pa;obtain⟨vs,z,t⟩:=r.at' n p _ q hS;refine VT pins s σ H _ i v ov iv u Q I ro ri rv ⟨p,vs,k,j,rfl,xF pb,z,by rw[← t.length];exact hj,?_⟩
    refine af _ P α (r.put (m':=.lst (xs.set j d)) q hS (by intro z;cases z) ⟨vs.set j v,qQ,t.set pd j⟩) (qE.refl _) (Bb _)
  |_=>exact An af
 |_=>exact An af
def iK:D→Sto→Am Aj
 |.tup xs,_=>Ab xs.length
 |.lst xs,_=>Ab xs.length
 |.str x,_=>if x.length≤lim then Ab x.length else none
 |.dct0,_=>Ab 0
 |.loc i,S=>match S[i]? with
  |some (.lst xs)=>Ab xs.length
  |_=>none
 |_,_=>none
def sL:DF:=fun ds S=>match ds with
 |[d]=>match iK d S with
  |some n=>.ok (.int n) S
  |none=>.bad
 |_=>.bad
end
section
variable {X:Cx}
theorem yI {P:Hp}{α:Aa Af}(rp:qD X.K P α [d] vs)(rv:qJ vs us):∃ v u,vs=[v]∧us=[u]∧Rep X.K P α d v∧qL v u:=by
 obtain⟨v,ws,rfl,p,t⟩:=rp.cons_inv;have:=t.nil_inv;subst this;obtain⟨u,rfl,q⟩:=jE rv;exact⟨v,u,rfl,rfl,p,q⟩
theorem gA {P:Hp}{α:Aa Af}{e:D}(rp:qD X.K P α [d,e] vs)(rv:qJ vs us):∃ v w u x,vs=[v,w]∧us=[u,x]∧Rep X.K P α d v∧Rep X.K P α e w∧qL v u∧qL w x:=by
 obtain⟨v,ws,rfl,p,t⟩:=rp.cons_inv;obtain⟨w,ws,rfl,p',t⟩:=t.cons_inv;have:=t.nil_inv;subst this;obtain⟨u,x,rfl,q,q'⟩:=dM rv;exact⟨v,w,u,x,rfl,rfl,p,p',q,q'⟩
def iJ (d:D)(S:Sto):Am Aj:=match d with
 |.dct0=>none
 |_=>iK d S
theorem TH {H P:Hp}{α:Aa Af}{S:Sto}{n:Aj}(r:Rel X.K H P α S)(p:Rep X.K P α d v)(hn:iJ d S=Ab n):BW X.K v H n:=by
 cases d with
 |str x =>
  cases (show v=.str x from p)
  obtain⟨hl,rfl⟩:=kS hn;exact⟨by rw[← zJ];exact hl,rfl⟩
 |tup xs =>
  simp only[Rep] at p;obtain⟨a,ws,rfl,sq,t⟩:=p;cases hn;exact .inr ⟨ws,xG r.sub sq,t.length⟩
 |lst xs =>
  simp only[Rep] at p;obtain⟨a,ws,rfl,sq,t⟩:=p;cases hn;exact .inl ⟨ws,(xA r.sub sq).l,t.length⟩
 |loc i =>
  simp only[Rep] at p;obtain⟨a,rfl,e⟩:=p;obtain⟨xs,hS,hn⟩:=TJ (f:=fun xs=>Ab xs.length) hn;cases hn;obtain⟨ws,z,t⟩:=r.at' i a _ e hS;exact .inl ⟨ws,.of z,t.length⟩
 |_=>exact nn hn
inductive LenD1 (ds:Aa D)(S:Sto)(r:Res D):Prop
 |bad (e:r=.bad)
 |of (d:D) (n:Aj) (ed:ds=[d]) (hn:iJ d S=Ab n) (e:r=.ok (.int n) S)
theorem R3 (ds:Aa D)(S:Sto):LenD1 ds S (match ds with|[.dct0]=>.bad|_=>sL ds S):=by
 cases ds with
 |nil=>exact .bad rfl
 |cons d ds =>
  cases ds with
  |cons _ _=>cases d <;> exact .bad rfl
  |nil =>
   have z:(match [d] with|[D.dct0]=>Res.bad|_=>sL [d] S)=(match iJ d S with|some n=>Res.ok (D.int n) S|none=>.bad):=by cases d <;> rfl
   rw[z];cases hn:iJ d S with
   |none=>exact .bad rfl
   |some n=>exact .of d n rfl hn rfl
theorem F9 (hD:Je):wQ X (.builtin "len") (fun ds S=>match ds with|[.dct0]=>.bad|_=>sL ds S):=by
 intro pins σ H s P α S vs us ds Q I r rv rp af;have af1:qI X P α (match ds with|[D.dct0]=>Res.bad|_=>sL ds S) (OkV X P α Q):=af
 clear af;cases R3 ds S with
 |bad e=>rw[e] at af1;exact An af1
 |of d n ed hn e =>
  rw[e] at af1;subst ed;obtain⟨v,u,rfl,rfl,p,q⟩:=yI rp rv;exact W1 pins s σ H _ _ Q I rv ⟨v,n,rfl,TH r p hn,xr af1 r (by simp only[Rep])⟩
def tyD:D→Sto→Am Ed
 |.non,_=>Ab "NoneType"
 |.bl _,_=>Ab "bool"
 |.int _,_=>Ab "int"
 |.str _,_=>Ab "str"
 |.tup _,_=>Ab "tuple"
 |.lst _,_=>Ab "list"
 |.dct0,_=>Ab "dict"
 |.loc i,S=>match S[i]? with
  |some (.lst _)=>Ab "list"
  |some (.dct _)=>Ab "dict"
  |_=>none
 |_,_=>none
def w8 (a b:Ed):Ar:=a == b||(a == "bool" && b == "int")
def uR (b:Ed):Ar:=b == "int" || b == "bool" || b == "tuple" || b == "list" || b == "str" || b == "dict"
def T6 (a b:Ed):Am Ar:=if (Gi a == Gi b)=true then Ab true else if PySem.W.kitMeta b=true then (fastBuiltinMro a).map (·.contains (.type b)) else none
def tyL:Aa Ed:=["NoneType","bool","int","str","tuple","list","dict"]
def okL:Aa Ed:=["int","bool","tuple","list","str","dict"]
theorem G4:(tyL.all fun a=>okL.all fun b=>decide (T6 a b=Ab (w8 a b)))=true:=by decide +kernel
theorem ND {b:Ed}(hb:uR b=true):b∈okL:=by simpa [uR,okL,or_assoc] using hb
theorem tN {K:Ai}{a b:Ed}(ha:a∈tyL)(hb:uR b=true):Jf K (.type a) (.type b)=Ab (w8 a b):=
 Bw (p:=T6 a b=Ab (w8 a b)) (Bq.mp (Bq.mp G4 a ha) b (ND hb))
def zY:DF:=fun ds S=>match ds with
 |[d,.ty b]=>if uR b then match tyD d S with
   |some a=>.ok (.bl (w8 a b)) S
   |none=>.bad
  else .bad
 |_=>.bad
inductive TyV (X:Cx)(H:Hp)(v:V)(a:Ed):Prop
 |of (t:TyOf X.K H v (.type a))
 |tup (p:Af) (vs:Aa V) (e:v=.ref p) (q:SqT X.K H p vs) (ea:a = "tuple")
 |lst (p:Af) (vs:Aa V) (e:v=.ref p) (q:SqL X.K H p vs) (ea:a = "list")
theorem rY {S:Sto}{a:Ed}(h:tyD d S=Ab a):a∈tyL:=by
 cases d with
 |non=>cases h;exact .head _
 |bl b=>cases h;exact .tail _ (.head _)
 |int i=>cases h;exact .tail _ (.tail _ (.head _))
 |str x=>cases h;exact .tail _ (.tail _ (.tail _ (.head _)))
 |tup xs=>cases h;exact .tail _ (.tail _ (.tail _ (.tail _ (.head _))))
 |lst xs=>cases h;exact .tail _ (.tail _ (.tail _ (.tail _ (.tail _ (.head _)))))
 |dct0=>cases h;exact .tail _ (.tail _ (.tail _ (.tail _ (.tail _ (.tail _ (.head _))))))
 |loc i =>
  rcases tV (f:=fun _=>Ab "list") (g:=fun _=>Ab "dict") h with⟨_,_,h⟩|⟨_,_,h⟩
  ·cases h;exact .tail _ (.tail _ (.tail _ (.tail _ (.tail _ (.head _)))))
  ·cases h;exact .tail _ (.tail _ (.tail _ (.tail _ (.tail _ (.tail _ (.head _))))))
 |_=>exact nn h
theorem JC {H P:Hp}{α:Aa Af}{S:Sto}{a:Ed}(r:Rel X.K H P α S)(p:Rep X.K P α d v)(h:tyD d S=Ab a):TyV X H v a:=by
 cases d with
 |non=>cases h;cases (show v=.non from p);exact .of .non
 |bl b=>cases h;cases (show v=.bl b from p);exact .of (.bl b)
 |int i=>cases h;cases (show v=.int i from p);exact .of (.int i)
 |str x=>cases h;cases (show v=.str x from p);exact .of (.str x)
 |tup xs =>
  cases h;simp only[Rep] at p;obtain⟨a,vs,e,q,t⟩:=p;exact .tup a vs e (xG r.sub q) rfl
 |lst xs =>
  cases h;simp only[Rep] at p;obtain⟨a,vs,e,q,t⟩:=p;exact .lst a vs e (xA r.sub q).l rfl
 |dct0 =>
  cases h;simp only[Rep] at p;obtain⟨a,rfl,q⟩:=p;exact .of (.dK (r.sub _ _ q))
 |loc i =>
  simp only[Rep] at p;obtain⟨a,rfl,q⟩:=p;rcases tV (f:=fun _=>Ab "list") (g:=fun _=>Ab "dict") h with⟨xs,hS,h⟩|⟨kvs,hS,h⟩
  ·cases h
   obtain⟨vs,z,t⟩:=r.at' i a _ q hS;exact .of (.lst z)
  ·cases h
   obtain⟨vs,z,t⟩:=r.at' i a _ q hS;exact .of (.dK z)
 |_=>exact nn h
inductive IsiV (ds:Aa D)(S:Sto):Prop
 |bad (e:zY ds S=.bad)
 |of (d:D) (b a:Ed) (ed:ds=[d,.ty b]) (hb:uR b=true) (ha:tyD d S=Ab a) (e:zY ds S=.ok (.bl (w8 a b)) S)
theorem HY (ds:Aa D)(S:Sto):IsiV ds S:=by
 cases ds with
 |nil=>exact .bad rfl
 |cons d ds =>
  cases ds with
  |nil=>exact .bad rfl
  |cons e ds =>
   cases ds with
   |cons _ _=>cases e <;> exact .bad rfl
   |nil =>
    cases e with
    |ty b =>
     have z:zY [d,.ty b] S=if uR b then (match tyD d S with|some a=>.ok (.bl (w8 a b)) S|none=>.bad) else .bad:=rfl
     by_cases hb:uR b=true
     ·rw[Bh hb] at z
      cases ha:tyD d S with
      |none=>rw[ha] at z;exact .bad z
      |some a=>rw[ha] at z;exact .of d b a rfl hb ha z
     ·rw[Bn hb] at z
      exact .bad z
    |_=>exact .bad rfl
theorem oJ:wQ X (.builtin "isinstance") zY:=by
 intro pins σ H s P α S vs us ds Q I r rv rp af;cases HY ds S with
 |bad e=>rw[e] at af;exact An af
 |of d b a ed hb ha e =>
  subst ed;rw[e] at af;obtain⟨v,w,u,x,rfl,rfl,p,p',q,q'⟩:=gA rp rv;simp only[Rep] at p';subst p';cases (show x=Gi b from q')
  have kit:=tN (K:=X.K) (rY ha) hb;have fin:∀ tk,EP X pins σ Q (.bool (w8 a b)) { s with toks:=tk }:=fun tk=>⟨.bl _,H,I.tok tk,rfl,xr af r (by simp only[Rep])⟩
  cases JC r p ha with
  |of ht=>exact QL I q ht kit fin
  |tup p' ws e sq ea =>
   subst e ea;cases (show u=Cb p' from q)
   obtain⟨its,rv',⟨o,h1,h2,_⟩,_⟩:=I.tuple sq;exact Ee Kn I.kIn ⟨o,h1,h2⟩ kit (fun z=>nomatch z) fin
  |lst p' ws e sq ea =>
   subst e ea;cases (show u=Cb p' from q)
   obtain⟨its,rv',⟨o,_,h1,h2,_⟩,_⟩:=I.list sq;exact Ee Ib I.kIn ⟨o,h1,h2⟩ kit (fun z=>nomatch z) fin
def zX:Aa D→Am (Aa Ar)
 |[]=>Ab []
 |.bl b::r=>(zX r).map (b::·)
 |_=>none
theorem yU {P:Hp}{α:Aa Af}:∀ {ds:Aa D} {bs:Aa Ar} {vs:Aa V} {us:Aa Ac},zX ds=Ab bs→qD X.K P α ds vs→qJ vs us→us=bs.map Fg
 |[],bs,vs,us,h,rp,rv=>by
  cases h;have:=rp.nil_inv;subst this;cases rv;rfl
 |d::ds,bs,vs,us,h,rp,rv=>by
  cases d with
  |bl b =>
   obtain⟨bs',q,rfl⟩:=Cs.mp (show (zX ds).map (b::·)=Ab bs from h)
   obtain⟨w,ws,rfl,p,t⟩:=rp.cons_inv;simp only[Rep] at p;subst p;cases rv with
   |cons q1 q2 =>
    cases (show _=Fg b from q1)
    rw[yU q t q2];rfl
  |_=>exact nn h
def jG (any:Ar):DF:=fun ds S=>match ds with
 |[d]=>match (zV d).bind zX with
  |some bs=>.ok (.bl (if any then bs.any id else bs.all id)) S
  |none=>.bad
 |_=>.bad
theorem lI (bs:Aa Ar):((Ce bs.length).all fun i=>bs.getD i false)=bs.all id:=by
 induction bs with
 |nil=>rfl
 |cons b bs ih =>
  rw[Cj,Lp,OC,Hx,OC,← ih];rfl
theorem lJ (bs:Aa Ar):((Ce bs.length).any fun i=>bs.getD i false)=bs.any id:=by
 induction bs with
 |nil=>rfl
 |cons b bs ih =>
  rw[Cj,Lp,Hl,List.any_map,Hl,← ih];rfl
theorem QN {H:Hp}{o:Cg}{h':Bk}{tk:Aj}(I:Inv X pins σ H s)(k:∀ b ob,b ∉ [s.heap.objs.size]→(s.heap.push o).get? b=Ab ob→h'.get? b=Ab ob):Inv X pins σ H { s with heap:=h',toks:=tk }:=
 I.kept fun b u e=>k b u (by simp;exact Cd (Ax e)) (Ah _ e)
theorem jB {bs:Aa Ar}(hi:its=bs.map Fg){A:Bu}:TruthOf X.prog X.w A (fun i v=>its.toArray[i]? = Ab v) (fun i=>bs.getD i false):=fun i v s' Q' E' hv hQ=>by
 subst hi;have hv':(bs.map Fg)[i]? = Ab v:=by simpa using hv
 rw[Dg] at hv';cases e:bs[i]? with
 |none=>rw[e] at hv';exact nn hv'
 |some b =>
  rw[e] at hv';cases Cm hv';have:bs.getD i false=b:=by simp[IZ,e]
  have hQ':Q' (bs.getD i false) s':=hQ;rw[this] at hQ';exact Uu hQ'
theorem KH {any:Ar}{S:Sto}{P:Hp}{α:Aa Af}{Ok:D→Sto→Prop}(h:qI X P α (jG any ds S) Ok):∃ d xs bs,ds=[d]∧ItV d xs∧zX xs=Ab bs∧Ok (.bl (if any then bs.any id else bs.all id)) S:=by
 obtain⟨d,rfl,h1⟩:=rB (X:=X) (β:=D) (g:=fun d=>match (zV d).bind zX with|some bs=>.ok (D.bl (if any then bs.any id else bs.all id)) S|none=>.bad) h
 cases hb:(zV d).bind zX with
 |none=>rw[hb] at h1;exact An h1
 |some bs =>
  rw[hb] at h1;obtain⟨xs,hx,hbs⟩:=Eh.mp hb;exact⟨d,xs,bs,rfl,itV hx,hbs,h1⟩
theorem F7 (any:Ar)(hc:X.calm=true):wQ X (.builtin (if any then "any" else "all")) (jG any):=by
 intro pins σ H s P α S vs us ds Q I r rv rp af;obtain⟨d,xs,bs,ed,hd,hbs,ok⟩:=KH af;clear af;subst ed;obtain⟨v,u,rfl,rfl,p,q⟩:=yI rp rv;clear rp;have fin:∀ {o:Cg} (h':Bk) (tk:Aj),(∀ b ob,b ∉ [s.heap.objs.size]→(s.heap.push o).get? b=Ab ob→h'.get? b=Ab ob)→EP X pins σ Q (.bool (if any then bs.any id else bs.all id)) { s with heap:=h',toks:=tk }:=
  fun {o} h' tk k=>⟨.bl _,H,QN I k,rfl,xr ok r (by simp only[Rep])⟩
 clear rv ok;have hh:X.A.in1.handled=none:=I.ok.hd hc;cases hd with
 |tup ed =>
  subst ed;obtain⟨a,ws,its,rfl,sq,t,rvi,ht,hl,_⟩:=vY I r p;cases (show u=Cb a from q)
  have hi:=yU hbs t rvi;have hlen:its.toArray.size=bs.length:=by rw[hi];simp
  have hne:a≠s.heap.objs.size:=by obtain⟨o,e,_⟩:=ht;exact Cd (Ax e)
  have W:=Ze (prog:=X.prog) (w:=X.w) hh s.heap.objs.size a hne its.toArray;have hT:∀ o,(s.heap.push o).IsTuple a its.toArray:=fun o=>by obtain⟨o,e,c⟩:=ht;exact⟨o,Ah _ e,c⟩
  have ht':s.heap.IsTuple a its.toArray:=ht;cases any with
  |false =>
   refine call_all_walk (Gh ht' ⟨s.heap.objs.size,_,_,_,_,_,_,rfl,W,⟨⟨_,Ba _ rfl,rfl,rfl⟩,hT _⟩,jB hi,fun h' tk k=>?_⟩);rw[hlen,lI];exact fin h' tk k
  |true =>
   refine call_any_walk (Gh ht' ⟨s.heap.objs.size,_,_,_,_,_,_,rfl,W,⟨⟨_,Ba _ rfl,rfl,rfl⟩,hT _⟩,jB hi,fun h' tk k=>?_⟩);rw[hlen,lJ];exact fin h' tk k
 |lst ed =>
  subst ed;obtain⟨a,ws,its,n,rfl,sq,t,rvi,ht,hl,_⟩:=vU I r p;cases (show u=Cb a from q)
  have hL:s.heap.IsList a its.toArray:=⟨_,ht,rfl,n,rfl⟩;have hi:=yU hbs t rvi;have hlen:its.toArray.size=bs.length:=by rw[hi];simp
  have hne:a≠s.heap.objs.size:=Cd (Ax ht);have W:=Zk (prog:=X.prog) (w:=X.w) hh s.heap.objs.size a hne its.toArray;have hL':∀ o,(s.heap.push o).IsList a its.toArray:=fun o=>⟨_,Ah _ ht,rfl,n,rfl⟩;cases any with
  |false =>
   refine call_all_walk (Ga hL ⟨s.heap.objs.size,_,_,_,_,_,_,rfl,W,⟨⟨_,Ba _ rfl,rfl,rfl⟩,hL' _⟩,jB hi,fun h' tk k=>?_⟩);rw[hlen,lI];exact fin h' tk k
  |true =>
   refine call_any_walk (Ga hL ⟨s.heap.objs.size,_,_,_,_,_,_,rfl,W,⟨⟨_,Ba _ rfl,rfl,rfl⟩,hL' _⟩,jB hi,fun h' tk k=>?_⟩);rw[hlen,lJ];exact fin h' tk k
def iE:DF:=fun ds S=>match ds with
 |[.int i]=>.ok (.int i) S
 |[.bl b]=>.ok (.int (b01 b)) S
 |_=>.bad
inductive IntV (ds:Aa D)(S:Sto):Prop
 |bad (e:iE ds S=.bad)
 |int (i:Al) (e:ds=[.int i])
 |bl (b:Ar) (e:ds=[.bl b])
theorem HV (ds:Aa D)(S:Sto):IntV ds S:=by
 cases ds with
 |nil=>exact .bad rfl
 |cons d ds =>
  cases ds with
  |cons _ _=>cases d <;> exact .bad rfl
  |nil =>
   cases d with
   |int i=>exact .int i rfl
   |bl b=>exact .bl b rfl
   |_=>exact .bad rfl
theorem F8:wQ X (.type "int") iE:=by
 intro pins σ H s P α S vs us ds Q I r rv rp af;cases HV ds S with
 |bad e=>rw[e] at af;exact An af
 |int i e =>
  subst e;obtain⟨v,u,rfl,rfl,p,q⟩:=yI rp rv;exact nN pins s σ H _ _ Q I rv (.inl ⟨_,by rw[xF p],xr af r (by simp only[Rep])⟩)
 |bl b e =>
  subst e;obtain⟨v,u,rfl,rfl,p,q⟩:=yI rp rv;simp only[Rep] at p;subst p;exact nN pins s σ H _ _ Q I rv (.inr ⟨_,rfl,xr af r (by simp only[Rep];rfl)⟩)
def yD:DF:=fun ds S=>match ds with
 |[d]=>match zV d with
  |some xs=>.ok (.tup xs) S
  |none=>.bad
 |_=>.bad
theorem W4:wQ X (.type "tuple") yD:=by
 intro pins σ H s P α S vs us ds Q I r rv rp af;obtain⟨d,rfl,af1⟩:=rB (X:=X) (β:=D) (g:=fun d=>match zV d with|some xs=>.ok (D.tup xs) S|none=>.bad) af
 obtain⟨xs,hx,af2⟩:∃ xs,zV d=Ab xs∧OkV X P α Q (.tup xs) S:=by
  cases hx:zV d with
  |none=>rw[hx] at af1;exact An af1
  |some xs=>rw[hx] at af1;exact⟨xs,rfl,af1⟩
 obtain⟨v,u,rfl,rfl,p,q⟩:=yI rp rv;cases itV hx with
 |tup e =>
  subst e;have p0:=p;simp only[Rep] at p;obtain⟨a,ws,rfl,sq,t⟩:=p;exact gJ pins s σ H _ _ Q I rv ⟨a,ws,rfl,.inr ⟨xG r.sub sq,xr af2 r p0⟩⟩
 |lst e =>
  subst e;simp only[Rep] at p;obtain⟨a,ws,rfl,sq,t⟩:=p;exact gJ pins s σ H _ _ Q I rv ⟨a,ws,rfl,.inl ⟨(xA r.sub sq).l,fun l hl=>kZ r hl t af2⟩⟩
def fU:DF:=fun ds S=>match ds with
 |[d]=>match zV d with
  |some xs=>.ok (.lst xs) S
  |none=>.bad
 |_=>.bad
theorem JM:wQ X (.type "list") fU:=by
 intro pins σ H s P α S vs us ds Q I r rv rp af;obtain⟨d,rfl,af1⟩:=rB (X:=X) (β:=D) (g:=fun d=>match zV d with|some xs=>.ok (D.lst xs) S|none=>.bad) af
 obtain⟨xs,hx,af2⟩:∃ xs,zV d=Ab xs∧OkV X P α Q (.lst xs) S:=by
  cases hx:zV d with
  |none=>rw[hx] at af1;exact An af1
  |some xs=>rw[hx] at af1;exact⟨xs,rfl,af1⟩
 obtain⟨v,u,rfl,rfl,p,q⟩:=yI rp rv;cases itV hx with
 |tup e =>
  subst e;simp only[Rep] at p;obtain⟨a,ws,rfl,sq,t⟩:=p;exact gP pins s σ H _ _ Q I rv ⟨a,ws,rfl,.inr (xG r.sub sq),fun l hl=>wA r hl t af2⟩
 |lst e =>
  subst e;simp only[Rep] at p;obtain⟨a,ws,rfl,sq,t⟩:=p;exact gP pins s σ H _ _ Q I rv ⟨a,ws,rfl,.inl ((xA r.sub sq).l),fun l hl=>wA r hl t af2⟩
end
section
variable {X:Cx}
structure ClsK (K:Ai)(cl:Aa Af):Prop where
 ex:∀ C∈cl,ExnK K C
 one:∀ C∈cl,∀ B∈cl,Jf K (.ref C) (.ref B)=Ab (C == B)
 ve:∀ C∈cl,Jf K (.ref C) (.type "ValueError")=Ab true
def zM (cl:Aa Af):DF:=fun ds S=>match ds with
 |[.exn (.ref C),.obj B]=>if cl.contains C&&cl.contains B then .ok (.bl (C == B)) S else .bad
 |[.exn (.ref C),.ty b]=>if cl.contains C&&(b == "ValueError") then .ok (.bl true) S else .bad
 |_=>zY ds S
theorem Q6 {H P:Hp}{α:Aa Af}{S:Sto}{C:Af}{u:Ac}(I:Inv X pins σ H s)(r:Rel X.K H P α S)(p:Rep X.K P α (.exn (.ref C)) v)(q:qL v u):∃ a,u=.ref a∧vM a C s.heap:=by
 simp only[Rep] at p;obtain⟨a,rfl,z⟩:=p;obtain⟨y,_⟩:=I.hok a _ (r.sub _ _ z);exact⟨a,q,y⟩
inductive IsiE (cl:Aa Af)(ds:Aa D)(S:Sto):Prop
 |bad (e:zM cl ds S=.bad)
 |old (e:zM cl ds S=zY ds S)
 |obj (C B:Af) (ed:ds=[.exn (.ref C),.obj B]) (h1:C∈cl) (h2:B∈cl) (e:zM cl ds S=.ok (.bl (C == B)) S)
 |ve (C:Af) (ed:ds=[.exn (.ref C),.ty "ValueError"]) (h1:C∈cl) (e:zM cl ds S=.ok (.bl true) S)
theorem SY (cl:Aa Af)(C:Af)(d:D)(S:Sto):IsiE cl [.exn (.ref C),d] S:=by
 cases d with
 |obj B =>
  have z:zM cl [.exn (.ref C),.obj B] S=if (cl.contains C&&cl.contains B)=true then .ok (.bl (C == B)) S else .bad:=rfl
  by_cases h:(cl.contains C&&cl.contains B)=true
  ·rw[Bh h] at z
   have h':=EQ.mp h;exact .obj C B rfl (Fj.mp h'.1) (Fj.mp h'.2) z
  ·rw[Bn h] at z
   exact .bad z
 |ty b =>
  have z:zM cl [.exn (.ref C),.ty b] S=if (cl.contains C&&(b == "ValueError"))=true then .ok (.bl true) S else .bad:=rfl
  by_cases h:(cl.contains C&&(b == "ValueError"))=true
  ·rw[Bh h] at z
   have h':=EQ.mp h;cases (Pf.mp h'.2);exact .ve C rfl (Fj.mp h'.1) z
  ·rw[Bn h] at z
   exact .bad z
 |_=>exact .old rfl
theorem HX (cl:Aa Af)(ds:Aa D)(S:Sto):IsiE cl ds S:=by
 cases ds with
 |nil=>exact .old rfl
 |cons a ds =>
  cases a with
  |exn c =>
   cases c with
   |ref C =>
    cases ds with
    |nil=>exact .old rfl
    |cons b ds =>
     cases ds with
     |nil=>exact SY cl C b S
     |cons _ _=>cases b <;> exact .old rfl
   |_=>exact .old rfl
  |_=>exact .old rfl
theorem JJ {cl:Aa Af}(hK:ClsK X.K cl):wQ X (.builtin "isinstance") (zM cl):=by
 intro pins σ H s P α S vs us ds Q I r rv rp af;cases HX cl ds S with
 |bad e=>rw[e] at af;exact An af
 |old e=>rw[e] at af;exact oJ pins σ H s P α S vs us ds Q I r rv rp af
 |obj C B ed h1 h2 e =>
  rw[e] at af;subst ed;obtain⟨v,w,u,x,rfl,rfl,p,p',q,q'⟩:=gA rp rv;simp only[Rep] at p';obtain⟨rfl,_⟩:=p';cases (show x=Cb B from q')
  obtain⟨a,rfl,ha⟩:=Q6 I r p q;exact Ee (sV (hK.ex C h1)) I.kIn ha (hK.one C h1 B h2) (fun z=>nomatch z) fun tk=>⟨.bl _,H,I.tok tk,rfl,xr af r (by simp only[Rep])⟩
 |ve C ed h1 e =>
  rw[e] at af;subst ed;obtain⟨v,w,u,x,rfl,rfl,p,p',q,q'⟩:=gA rp rv;simp only[Rep] at p';subst p';cases (show x=Gi "ValueError" from q')
  obtain⟨a,rfl,ha⟩:=Q6 I r p q;exact Ee (sV (hK.ex C h1)) I.kIn ha (hK.ve C h1) (fun z=>nomatch z) fun tk=>⟨.bl _,H,I.tok tk,rfl,xr af r (by simp only[Rep])⟩
def MtD (X:Cx)(id:Ed)(g:D→Aa D→Sto→Res D):Prop:=
 ∀ (pins:Aa (Af × Cg)) (σ : _L.St) (H:Hp) (s:Ag) (P:Hp) (α : Aa Af) (S:Sto) (v:V) (vv:Ac) (vs:Aa V) (us:Aa Ac) (a:D) (ds:Aa D) (Q:VK),Inv X pins σ H s→Rel X.K H P α S→qL v vv→Rep X.K P α a v→qJ vs us→qD X.K P α ds vs→qV X P α (g a ds S) Q →
  Ao (Au X.prog X.w) X.A (call (.builtin id) (vv::us)) (EP X pins σ Q) X.xe s
def dBm (T:Ed)(g:D→Aa D→Sto→Res D)(fo:DE)(fa:DA):DE:=fun env S=>(fo env S).bind fun a S1=>if (tyD a S1 == Ab T)=true then (fa env S1).bind fun ds S2=>g a ds S2 else .bad
theorem XM {H P:Hp}{α:Aa Af}{S:Sto}{T:Ed}(r:Rel X.K H P α S)(p:Rep X.K P α a v)(h:tyD a S=Ab T)(hT:T = "list" ∨ T = "dict" ∨ T = "int" ∨ T = "str"):tyV X.K T v H:=by
 cases a with
 |int i=>cases h;simp only[Rep] at p;subst p;rfl
 |str x=>cases h;simp only[Rep] at p;subst p;rfl
 |lst xs =>
  cases h;simp only[Rep] at p;obtain⟨b,vs,rfl,q,t⟩:=p;exact .inl ⟨rfl,vs,(xA r.sub q).l⟩
 |dct0 =>
  cases h;simp only[Rep] at p;obtain⟨b,rfl,q⟩:=p;exact .inr (.inr (.inl ⟨rfl,.inl ⟨[],r.sub _ _ q⟩⟩))
 |loc i =>
  simp only[Rep] at p;obtain⟨b,rfl,q⟩:=p;rcases tV (f:=fun _=>Ab "list") (g:=fun _=>Ab "dict") h with⟨xs,hS,h⟩|⟨kvs,hS,h⟩
  ·cases h
   obtain⟨vs,z,t⟩:=r.at' i b _ q hS;exact .inl ⟨rfl,vs,SqL.of z⟩
  ·cases h
   obtain⟨vs,z,t⟩:=r.at' i b _ q hS;exact .inr (.inr (.inl ⟨rfl,.inl ⟨vs,z⟩⟩))
 |non=>cases h;exact absurd hT (by decide)
 |bl b=>cases h;exact absurd hT (by decide)
 |tup xs=>cases h;exact absurd hT (by decide)
 |_=>exact nn h
variable {o e:Bp}{es:Aa Bp}{fo:DE}{fa:DA}{name:As}{apos cpos:Ek}{T id:Ed}{g:D→Aa D→Sto→Res D}
theorem FH {P:Hp}{α:Aa Af}{S:Sto}{β:Type}{k:Res β}{Ok:β→Sto→Prop}(h:qI X P α (if (tyD a S == Ab T)=true then k else .bad) Ok):tyD a S=Ab T∧qI X P α k Ok:=by
 by_cases z:(tyD a S == Ab T)=true
 ·rw[Bh z] at h;exact⟨Pf.mp z,h⟩
 ·rw[Bn z] at h;exact An h
theorem SD (pa:PlainAttrs T)(slot:Slot T name id)(hty:typeOf (.builtin id)=pure (.type "method_descriptor"))(hT:T = "list" ∨ T = "dict" ∨ T = "int" ∨ T = "str")(hm:MtD X id g)(ho:PE X o (tD X fo))(ha:PA X (e::es) (tDA X fa))
  (hbase:OD o name X.env (eval o X.env)=eval o X.env:=by rfl)
  (hfew:((Fq cpos (Bi (e::es) X.env)).all (fun x=>!x.1)&&(backToKw cpos (keywordEach [] X.env)).all (fun x=>x.1.isSome)
   && decide ((e::es).length+([]:Aa Ye).length+(if ([] : Aa Ye).isEmpty then 0 else 1)<30))=true:=by rfl)
  (hline:(apos.endLine == cpos.line)=true:=by rfl) (hs:Bi (e::es) X.env=(false,eval e X.env)::Bi es X.env:=by rfl) (hplain:(Fq cpos (Bi es X.env)).any (·.1)=false:=by rfl) :
  PE X (.Call (.Attribute o name apos) (e::es) [] cpos) (tD X (dBm T g fo fa)):=by
 intro pins s σ H Q I h;obtain⟨P,α,env,S,r,re,af⟩:=h;refine wpAny_Call_method_late hbase hfew hline rfl (thn (zL ho I r re af) fun vv s1 ⟨v,H1,P1,α1,d,S1,G1,af1⟩=>?_);obtain⟨ht,af2⟩:=FH af1;obtain⟨h1,h2⟩:=XJ G1.inv G1.val (XM G1.rel G1.rep ht hT);refine⟨T,id,pa,slot,hty,h1,h2,?_⟩;have hA:=wV ha G1.inv G1.rel G1.env (P:=P1) (α:=α1) (Ok:=OkV X P1 α1 Q) (qV.base G1.same G1.pre (r:=(fa env S1).bind fun ds S2=>g d ds S2) af2) cpos;rw[hs] at hA ⊢;refine Qq (by show (false||(Fq cpos (Bi es X.env)).any (·.1))=false;rw[hplain] <;> rfl) (Si ?_)
 exact thn hA fun us s2 ⟨vs,H2,P2,α2,ds,S2,I2,rv,r2,re2,rp2,e1,e2,af3⟩=>hm pins σ H2 s2 P2 α2 S2 v vv vs us d ds Q I2 r2 G1.val (Rep.mono e1 e2 _ _ G1.rep) rv rp2 (qV.base e1 e2 af3)
def x9:D→Aa D→Sto→Res D:=fun a ds S=>match a,ds with
 |.loc i,[d]=>match S[i]? with
  |some (.lst xs)=>if xs.length<lim then .ok .non (S.set i (.lst (xs++[d]))) else .bad
  |_=>.bad
 |_,_=>.bad
inductive ApV (a:D)(ds:Aa D)(S:Sto):Prop
 |bad (e:x9 a ds S=.bad)
 |of (i:Aj) (d:D) (xs:Aa D) (ea:a=.loc i) (ed:ds=[d]) (hS:S[i]? = Ab (.lst xs)) (hl:xs.length<lim) (e:x9 a ds S=.ok .non (S.set i (.lst (xs++[d]))))
theorem apV (a:D)(ds:Aa D)(S:Sto):ApV a ds S:=by
 cases a with
 |loc i =>
  cases ds with
  |nil=>exact .bad rfl
  |cons d ds =>
   cases ds with
   |cons _ _=>exact .bad rfl
   |nil =>
    have z:x9 (.loc i) [d] S=(match S[i]? with|some (.lst xs)=>(if xs.length<lim then .ok .non (S.set i (.lst (xs++[d]))) else .bad)|_=>.bad):=rfl
    cases hS:S[i]? with
    |none=>rw[hS] at z;exact .bad z
    |some m =>
     rw[hS] at z;cases m with
     |lst xs =>
      by_cases hl:xs.length<lim
      ·exact .of i d xs rfl rfl hS hl (z.trans (Bh hl))
      ·exact .bad (z.trans (Bn hl))
     |_=>exact .bad z
 |_=>exact .bad rfl
theorem Z5:MtD X "list.append" x9:=by
 intro pins σ H s P α S v vv vs us a ds Q I r rv p rvs rps af;cases apV a ds S with
 |bad e=>rw[e] at af;exact An af
 |of i d xs ea ed hS hl e =>
  rw[e] at af;subst ea ed;obtain⟨w,u,rfl,rfl,p',q'⟩:=yI rps rvs;simp only[Rep] at p;obtain⟨b,rfl,q⟩:=p;obtain⟨ws,z,t⟩:=r.at' i b _ q hS;refine Z8 pins s σ H (.ref b) [w] vv [u] Q I rv (.cons q' .nil) ⟨b,ws,w,rfl,rfl,z,by rw[← t.length,← zJ];exact hl,?_⟩
  exact xr af (r.put (m':=.lst (xs++[d])) q hS (by intro z;cases z) ⟨ws++[w],qQ,t.append (.cons p' .nil)⟩) (by simp only[Rep])
end
def wX:D→Am Key
 |.int i=>Ab (.inl i)
 |.str x=>Ab (.inr x)
 |_=>none
def zP (kvs:Aa (Key × D))(k:Key):Am D:=(kvs.find? fun kv=>decide (kv.1=k)).map (·.2)
def wB (kvs:Aa (Key × D))(k:Key)(v:D):Aa (Key × D):=
 if (kvs.any fun kv=>decide (kv.1=k))=true then kvs.map (fun kv=>if kv.1=k then (kv.1,v) else kv) else kvs++[(k,v)]
section
variable {K:Ai}{P:Hp}{α : Aa Af}
theorem cJ {vs:Aa (Key × V)}(r:KVs K P α kvs vs):kvs.length=vs.length:=Paired.length r
theorem pL {k:Key}:∀ {kvs:Aa (Key × D)} {vs:Aa (Key × V)},KVs K P α kvs vs→(∀ d,zP kvs k=Ab d→∃ v,yB vs k=Ab v∧Rep K P α d v)∧(zP kvs k=none→yB vs k=none)
 |_,_,.nil=>⟨fun d h=>by simp[zP] at h,fun _=>rfl⟩
 |(k1,d1)::kvs,(k2,v2)::vs,.cons z t=>by
  obtain⟨e,r⟩:=z;dsimp only at e r;subst e;obtain⟨h1,h2⟩:=pL (k:=k) t;unfold zP yB at *;by_cases hk:k1=k
  ·subst hk
   constructor
   ·intro d h
    simp at h;subst h;exact⟨v2,by simp,r⟩
   ·intro h
    simp at h
  ·constructor
   ·intro d h
    rw[Qr (by simpa using hk)] at h ⊢
    exact h1 d h
   ·intro h
    rw[Qr (by simpa using hk)] at h ⊢
    exact h2 h
theorem G6 {k:Key}{vs:Aa (Key × V)}(h:KVs K P α kvs vs):(kvs.any fun kv=>decide (kv.1=k))=(vs.any fun kv=>decide (kv.1=k)):=by
 induction h with
 |nil=>rfl
 |cons z t ih=>rw[Hl,Hl,ih,z.1]
theorem G8 {k:Key}(q:Rep K P α d v){kvs:Aa (Key × D)}{vs:Aa (Key × V)}(h:KVs K P α kvs vs):KVs K P α (kvs.map fun kv=>if kv.1=k then (kv.1,d) else kv) (vs.map fun kv=>if kv.1=k then (kv.1,v) else kv):=by
 induction h with
 |nil=>exact .nil
 |cons z t ih =>
  rw[Dv,Dv];refine .cons ?_ ih;rw[← z.1]
  split
  ·exact⟨rfl,q⟩
  ·exact z
theorem G7 {k:Key}(q:Rep K P α d v){kvs:Aa (Key × D)}{vs:Aa (Key × V)}(h:KVs K P α kvs vs):KVs K P α (kvs++[(k,d)]) (vs++[(k,v)]):=by
 induction h with
 |nil=>exact .cons ⟨rfl,q⟩ .nil
 |cons z t ih=>exact .cons z ih
theorem cK {k:Key}(q:Rep K P α d v){kvs:Aa (Key × D)}{vs:Aa (Key × V)}(r:KVs K P α kvs vs):KVs K P α (wB kvs k d) (yL vs k v):=by
 unfold wB yL;rw[G6 r]
 split
 ·exact G8 q r
 ·exact G7 q r
theorem m8 {k:Key}(h:wX d=Ab k)(r:Rep K P α d v):v=kV k:=by
 cases d with
 |int i=>cases h;simp only[Rep] at r;exact r
 |str x=>cases h;simp only[Rep] at r;exact r
 |_=>cases h
end
section
variable {X:Cx}{o i e:Bp}{pos:Ek}{fo fi:DE}
def sF:DE:=fun _ S=>.ok (.loc S.length) (S++[.dct []])
theorem FM:PE X (.Dict [] [] pos) (tD X sF):=by
 refine peW rD fun σ H Q ⟨P,α,env,S,r,re,af⟩ p hp=>?_;have hpre:α<+:α++[p]:=Fa _ _;have r1:=r.new (o:=.dK []) (m:=.dct []) hp ⟨[],qQ,.nil⟩;refine af _ _ _ _ r1 (qE.refl _) hpre ?_;simp only[Rep];exact⟨p,rfl,by rw[← r.len];simp⟩
def lZ:DE:=fun _ S=>.ok .dct0 S
theorem JW:PE X (.Dict [] [] pos) (tD X lZ):=by
 refine peW rD fun σ H Q ⟨P,α,env,S,r,re,af⟩ p hp=>?_;obtain⟨r1,e1⟩:=r.pure (o:=.dK []) hp;refine af _ _ _ α r1 e1 (Bb _) ?_;simp only[Rep];exact⟨p,rfl,qQ⟩
def yG:G3:=fun o i d S=>match o with
 |.loc n=>match S[n]? with
  |some (.dct kvs)=>match wX i with
   |some k=>if kvs.length<lim then .ok () (S.set n (.dct (wB kvs k d))) else .bad
   |none=>.bad
  |_=>bV o i d S
 |_=>bV o i d S
inductive Set2V (a b d:D)(S:Sto):Prop
 |bad (e:yG a b d S=.bad)
 |old (e:yG a b d S=bV a b d S)
 |of (n:Aj) (kvs:Aa (Key × D)) (k:Key) (ea:a=.loc n) (hS:S[n]? = Ab (.dct kvs)) (hk:wX b=Ab k) (hl:kvs.length<lim) (e:yG a b d S=.ok () (S.set n (.dct (wB kvs k d))))
theorem E9 (a b d:D)(S:Sto):Set2V a b d S:=by
 cases a with
 |loc n =>
  have z:yG (.loc n) b d S=(match S[n]? with|some (.dct kvs)=>(match wX b with|some k=>(if kvs.length<lim then .ok () (S.set n (.dct (wB kvs k d))) else .bad)|none=>.bad)|_=>bV (.loc n) b d S):=rfl
  cases hS:S[n]? with
  |none=>rw[hS] at z;exact .old z
  |some m =>
   rw[hS] at z;cases m with
   |dct kvs =>
    cases hk:wX b with
    |none=>rw[hk] at z;exact .bad z
    |some k =>
     rw[hk] at z;by_cases hl:kvs.length<lim
     ·exact .of n kvs k rfl hS hk hl (z.trans (Bh hl))
     ·exact .bad (z.trans (Bn hl))
   |_=>exact .old z
 |_=>exact .old rfl
theorem LS (hu:X.A.units+1<Ex):dP X (dJ X yG):=by
 intro pins s σ H o i v ov iv u Q I ro ri rv h;obtain⟨P,α,S,a,b,d,r,pa,pb,pd,af⟩:=h;cases E9 a b d S with
 |bad e=>rw[e] at af;exact An af
 |old e =>
  rw[e] at af;exact EA pins s σ H o i v ov iv u Q I ro ri rv ⟨P,α,S,a,b,d,r,pa,pb,pd,af⟩
 |of n kvs k ea hS hk hl e =>
  rw[e] at af;subst ea;simp only[Rep] at pa;obtain⟨p,rfl,q⟩:=pa;obtain⟨vs,z,t⟩:=r.at' n p _ q hS;cases m8 hk pb;cases (show ov=Cb p from ro)
  refine oU hu I (mT.k (v:=v) z (by rw[← cJ t,← zJ];exact hl)) ri rv fun s' I'=>⟨_,I',?_⟩
  exact af _ P α (r.put (m':=.dct (wB kvs k d)) q hS (by intro z;cases z) ⟨_,qQ,cK pd t⟩) (qE.refl _) (Bb _)
def IA:D→Aa D→Sto→Res D:=fun a ds S=>match a,ds with
 |.loc n,[i,x]=>match S[n]? with
  |some (.dct kvs)=>match wX i with
   |some k=>.ok ((zP kvs k).getD x) S
   |none=>.bad
  |_=>.bad
 |_,_=>.bad
def fV:D→Aa D→Sto→Res D:=fun a ds S=>match a,ds with
 |.lst xs,[.bl k]=>match zX xs with
  |some bs=>.ok (.int (bs.countP (· == k):Aj)) S
  |none=>.bad
 |_,_=>.bad
def tJ (k:Ar):Aa Ar→Am Aj
 |[]=>none
 |b::r=>if b=k then Ab 0 else (tJ k r).map (· + 1)
def fW:D→Aa D→Sto→Res D:=fun a ds S=>match a,ds with
 |.lst xs,[.bl k]=>match (zX xs).bind (tJ k) with
  |some j=>.ok (.int j) S
  |none=>.bad
 |_,_=>.bad
theorem sH (k:Ar){bs:Aa Ar}{y:Ac}(hy:y∈(bs.map Fg).toArray):Yy y (.bool k) (Qs k y):=by
 have hy':y∈bs.map Fg:=by rwa [List.mem_toArray] at hy
 obtain⟨b,_,rfl⟩:=Ci.mp hy';exact fun prog w A E s Q h=>Xy b k prog w E Q h
theorem eD (k:Ar)(bs:Aa Ar):(bs.map Fg).countP (Qs k)=bs.countP (· == k):=by
 rw[Wv];rfl
theorem oA {β:Type}{r:Res β}{P:Hp}{α:Aa Af}{Ok:β→Sto→Prop}(e:r=.bad)(h:qI X P α r Ok):Ev:=by
 rw[e] at h;exact h
inductive BlV (a:D)(ds:Aa D):Prop
 |no (h:∀ (g:Aa D→Ar→Res D),(match a,ds with|.lst xs,[.bl k]=>g xs k|_,_=>.bad)=.bad)
 |of (xs:Aa D) (k:Ar) (ea:a=.lst xs) (ed:ds=[.bl k])
theorem blV (a:D)(ds:Aa D):BlV a ds:=by
 cases a with
 |lst xs =>
  cases ds with
  |nil=>exact .no fun _=>rfl
  |cons d ds =>
   cases ds with
   |cons _ _=>cases d <;> exact .no fun _=>rfl
   |nil =>
    cases d with
    |bl k=>exact .of xs k rfl rfl
    |_=>exact .no fun _=>rfl
 |_=>exact .no fun _=>rfl
theorem YO:MtD X "list.count" fV:=by
 intro pins σ H s P α S v vv vs us a ds Q I r rv p rvs rps af;cases blV a ds with
 |no h=>exact(oA (X:=X) (r:=fV a ds S) (h _) af).elim
 |of xs k ea ed =>
  subst ea ed;have af:qI X P α (match zX xs with|some bs=>Res.ok (D.int (bs.countP (· == k):Aj)) S|none=>.bad) (OkV X P α Q):=af
  cases hb:zX xs with
  |none=>rw[hb] at af;exact An af
  |some bs =>
   rw[hb] at af;obtain⟨vx,ux,rfl,rfl,px,qx⟩:=yI rps rvs;simp only[Rep] at px;subst px;cases (show ux=Fg k from qx)
   obtain⟨b,ws,its,n,rfl,sq,t,rvi,ht,hl,_⟩:=vU I r p;cases (show vv=Cb b from rv)
   have hi:=yU hb t rvi;subst hi;refine Lm Pq ⟨_,ht,rfl⟩ PySem.F.entry_list_count (PySem.F.args_list_count_2 _ _) (PySem.SeqAt.list_countAt b (bs.map Fg).toArray n none #[] (.bool k) (Qs k)) ⟨ht,fun y hy=>(sH k hy).at _ _,?_⟩;refine⟨.int _,H,I.tok _,⟨_,rfl⟩,?_⟩;rw[show (bs.map Fg).toArray.toList=bs.map Fg from rfl,eD]
   exact xr af r (by simp only[Rep])
theorem c8 {k:Ar}:∀ {bs:Aa Ar} {j:Aj},tJ k bs=Ab j→∃ h:j<bs.length,bs[j]=k∧∀ m (hm:m<bs.length),m<j→bs[m]≠k
 |[],j,h=>by cases h
 |b::r,j,h=>by
  unfold tJ at h;by_cases hb:b=k
  ·rw[Bh hb] at h
   cases h;exact⟨by simp,by simpa using hb,fun m hm z=>absurd z (Nat.not_lt_zero _)⟩
  ·rw[Bn hb] at h
   obtain⟨i,hi,rfl⟩:=Cs.mp h;obtain⟨h1,h2,h3⟩:=c8 hi;refine⟨by simp;omega,by simpa using h2,fun m hm hl=>?_⟩
   cases m with
   |zero=>simpa using hb
   |succ m=>simpa using h3 m (by simp at hm;omega) om
theorem YQ:MtD X "list.index" fW:=by
 intro pins σ H s P α S v vv vs us a ds Q I r rv p rvs rps af;cases blV a ds with
 |no h=>exact(oA (X:=X) (r:=fW a ds S) (h _) af).elim
 |of xs k ea ed =>
  subst ea ed;have af:qI X P α (match (zX xs).bind (tJ k) with|some j=>Res.ok (D.int j) S|none=>.bad) (OkV X P α Q):=af
  cases hj:(zX xs).bind (tJ k) with
  |none=>rw[hj] at af;exact An af
  |some j =>
   rw[hj] at af;obtain⟨bs,hb,hi⟩:=Eh.mp hj;obtain⟨vx,ux,rfl,rfl,px,qx⟩:=yI rps rvs;simp only[Rep] at px;subst px;cases (show ux=Fg k from qx)
   obtain⟨b,ws,its,n,rfl,sq,t,rvi,ht,hl,hz⟩:=vU I r p;cases (show vv=Cb b from rv)
   have hi':=yU hb t rvi;subst hi';obtain⟨h1,h2,h3⟩:=c8 hi;have hlen:bs.length≤sizeLine:=by
    have e1:=t.length;have e2:=rvi.length;rw[Aq] at e2;rw[zJ] at hz;omega
   refine Lm Pr ⟨_,ht,rfl⟩ PySem.F.entry_list_index (PySem.F.args_list_index_2 _ _) (Yf b (bs.map Fg).toArray n (.bool k) (Qs k) (fun y hy=>sH k hy) j (by simpa using h1) ?_ ?_ ?_) ⟨ht,?_⟩
   ·rw[Ew] at hlen;omega
   ·simp[Qs,h2]
   ·intro m hm hl'
    have hm':m<bs.length:=by simpa using hm
    have:=h3 m hm' hl';simp[Qs,this]
   ·exact⟨.int _,H,I.tok _,⟨_,rfl⟩,xr af r (by simp only[Rep])⟩
end
def u9 (S:Sto):Sto:=S.map fun _=>.dead
def aX:D→Ar
 |.non=>true
 |.bl _=>true
 |.int _=>true
 |.str _=>true
 |_=>false
def mapO {β γ:Type}(f:β→Am γ) : Aa β → Am (Aa γ)
 |[]=>Ab []
 |b::r=>match f b,mapO f r with
  |some c,Ab cs=>Ab (c::cs)
  |_,_=>none
def vF:Aj→Sto→D→Am D
 |n+1,S,.tup xs=>(mapO (vF n S) xs).map .tup
 |n+1,S,.lst xs=>(mapO (vF n S) xs).map .lst
 |n+1,S,.loc i=>match S[i]? with
  |some (.lst xs)=>(mapO (vF n S) xs).map .lst
  |_=>none
 |_,_,.non=>Ab .non
 |_,_,.bl b=>Ab (.bl b)
 |_,_,.int i=>Ab (.int i)
 |_,_,.str x=>Ab (.str x)
 |_,_,.ty n=>Ab (.ty n)
 |_,_,.obj a=>Ab (.obj a)
 |_,_,.dct0=>Ab .dct0
 |_,_,.exn c=>Ab (.exn c)
 |_,_,_=>none
def vD (H P:Hp)(α : Aa Af):Hp:=fun b=>if (P b).isSome then P b else if b∈α then H b else none
section
variable {K:Ai}{H P:Hp}{α : Aa Af}{S:Sto}
theorem uL (H P:Hp)(α : Aa Af):qE P (vD H P α):=fun b o e=>by
 unfold vD;rw[e];rfl
theorem Y2 (r:Rel K H P α S):qE (vD H P α) H:=fun b o e=>by
 unfold vD at e
 split at e
 ·exact r.sub b o e
 ·split at e
  ·exact e
  ·cases e
theorem tG {a:Af}(h:P a=none)(ha:a∈α):vD H P α a=H a:=by
 unfold vD;rw[h];simp[ha]
theorem Rel.frz (r:Rel K H P α S):Rel K H (vD H P α) α (u9 S) where
 tb:=r.tb.keep (fun _ _ q _=>q) fun b u q _ p n=>⟨by unfold vD;rw[p];simp[n],n⟩
 sub:=Y2 r
 len:=by rw[r.len];simp[u9]
 nd:=r.nd
 sep:=fun i a o h1 h2 h3=>by
  unfold u9 at h2;rw[Dg] at h2;cases q:S[i]? with
  |none=>rw[q] at h2;cases h2
  |some m=>rw[q] at h2;cases h2;exact absurd rfl h3
 at':=fun i a o h1 h2=>by
  unfold u9 at h2;rw[Dg] at h2;cases q:S[i]? with
  |none=>rw[q] at h2;cases h2
  |some m=>rw[q] at h2;cases h2;trivial
 own:=r.own
theorem Rel.unfrz {H' P1:Hp}{α1:Aa Af}{S1:Sto}(r:Rel K H P α S)(r1:Rel K H' P1 α1 S1)(e:qE (vD H P α) P1):Rel K H' P α S:=by
 have mem:∀ i a,α[i]? = Ab a→a∈α:=fun i a h=>Bm h;have kp:∀ (i:Aj) (a:Af) (o:MO) (u:HO),α[i]? = Ab a→S[i]? = Ab o→o≠MO.dead→H a=Ab u→H' a=Ab u:=fun i a o u h1 h2 h3 h4 =>
  r1.sub a u (e a u (by rw[tG (r.sep i a o h1 h2 h3) (mem i a h1)];exact h4))
 refine⟨fun x hx c T h=>let ⟨ps,e,_,_,ok,cd⟩:=r1.tb x hx c T h;let ⟨_,_,pn,an,_,_⟩:=r.tb x hx c T h;⟨ps,e,pn,an,ok,cd⟩,(uL H P α).trans (e.trans r1.sub),r.len,r.nd,r.sep,fun i a o h1 h2=>?_,fun i a h1=>?_⟩
 ·have m:=r.at' i a o h1 h2
  cases o with
  |dead=>trivial
  |lst ds=>obtain⟨vs,q,t⟩:=m;exact⟨vs,kp i a _ _ h1 h2 (by intro z;cases z) q,t⟩
  |dct kvs=>obtain⟨vs,q,t⟩:=m;exact⟨vs,kp i a _ _ h1 h2 (by intro z;cases z) q,t⟩
  |ins C fs=>obtain⟨dx,vs,q,t⟩:=m;exact⟨dx,vs,kp i a _ _ h1 h2 (by intro z;cases z) q,t⟩
 ·have h:=r.own i a h1
  cases q:H a with
  |none=>exact absurd q h
  |some u =>
   have z:∃ u',vD H P α a=Ab u':=by
    cases q2:P a with
    |none=>exact⟨u,by rw[tG q2 (mem i a h1)];exact q⟩
    |some u'=>exact⟨u',uL H P α a u' q2⟩
   obtain⟨u',z⟩:=z;rw[r1.sub a u' (e a u' z)];intro w;cases w
set_option tactic.hygienic true in
theorem qD.mapO {f:D→Am D}{P':Hp}(h:∀ d t v,f d=Ab t→Rep K P α d v→Rep K P' α t v):∀ {ds ts:Aa D} {vs:Aa V},_D.mapO f ds=Ab ts→qD K P α ds vs→qD K P' α ts vs
 |[],ts,vs,e,r=>by cases e;rw[r.nil_inv];exact .nil
 |d::ds,ts,vs,e,r=>by
  obtain⟨w,ws,rfl,r1,r2⟩:=r.cons_inv;unfold _D.mapO at e
  split at e
  ·rename_i c cs h1 h2
   cases e;exact .cons (h d c w h1 r1) (qD.mapO h h2 r2)
  ·cases e
theorem cZ (r:Rel K H P α S):∀ (n:Aj) (d t:D) (v:V),vF n S d=Ab t→Rep K P α d v→Rep K (vD H P α) α t v:=by
 have mono:∀ (d:D) (v:V),Rep K P α d v→Rep K (vD H P α) α d v:=fun d v=>Rep.mono (uL H P α) (Bb _) d v;intro n
 induction n with
 |zero =>
  intro d t v h p;cases d <;> first|(cases h;exact mono _ _ p)|exact nn h
 |succ n ih =>
  intro d t v h p;cases d with
  |tup xs =>
   obtain⟨ts,h1,rfl⟩:=Cs.mp h;simp only[Rep] at p ⊢;obtain⟨a,vs,rfl,q,t⟩:=p;exact⟨a,vs,rfl,yN (uL H P α) q,qD.mapO (fun d t v=>ih d t v) h1 t⟩
  |lst xs =>
   obtain⟨ts,h1,rfl⟩:=Cs.mp h;simp only[Rep] at p ⊢;obtain⟨a,vs,rfl,q,t⟩:=p;exact⟨a,vs,rfl,xA (uL H P α) q,qD.mapO (fun d t v=>ih d t v) h1 t⟩
  |loc i =>
   have h:(match S[i]? with|some (.lst xs)=>(_D.mapO (vF n S) xs).map D.lst|_=>none)=Ab t:=h
   cases hS:S[i]? with
   |none=>rw[hS] at h;exact nn h
   |some m =>
    rw[hS] at h;cases m with
    |lst xs =>
     obtain⟨ts,h1,rfl⟩:=Cs.mp h;simp only[Rep] at p ⊢;obtain⟨a,rfl,q⟩:=p;obtain⟨vs,z,t⟩:=r.at' i a _ q hS;refine⟨a,vs,rfl,.inl (.inl ?_),qD.mapO (fun d t v=>ih d t v) h1 t⟩;rw[tG (r.sep i a _ q hS (by intro z;cases z)) (Bm q)]
     exact z
    |_=>exact nn h
  |fd ks ds=>exact nn h
  |clo a vs ds=>exact nn h
  |_=>cases h;exact mono _ _ p
theorem XZ {P':Hp}{α':Aa Af}(h:aX d=true)(p:Rep K P α d v):Rep K P' α' d v:=by
 cases d with
 |non=>simpa only [Rep] using p
 |bl b=>simpa only [Rep] using p
 |int i=>simpa only [Rep] using p
 |str x=>simpa only [Rep] using p
 |_=>cases h
end
def bR:Aj:=20
def iL (r:Res D)(S:Sto):Res D:=match r with
 |.ok d _=>if aX d then .ok d S else .bad
 |_=>.bad
theorem iM {X:Cx}{H P:Hp}{α:Aa Af}{S:Sto}{r:Res D}(rl:Rel X.K H P α S)(af:qV X P α (iL r S) Q):qV X (vD H P α) α r Q:=by
 cases r with
 |ok d S' =>
  obtain⟨ha,af⟩:=xS (X:=X) af;exact fun v H' P' α' r' e1 e2 rp=>af v H' P α (rl.unfrz r' e1) (qE.refl _) (Bb _) (XZ ha rp)
 |ex c x S'=>exact An af
 |bad=>exact An af
section
variable {X:Cx}
def pP (g:G2):G2:=fun a b S=>match vF bR S a,vF bR S b with
 |some x,Ab y=>iL (g x y (u9 S)) S
 |_,_=>.bad
set_option tactic.hygienic true in
theorem OpD.look {g:G2}(h:OpD X f g):OpD X f (pP g):=by
 intro pins σ H s P α S v u vv uu a b Q I r rv ru pa pb af;unfold pP at af
 split at af
 ·rename_i x y hx hy
  exact h pins σ H s _ α (u9 S) v u vv uu x y Q I r.frz rv ru (cZ r bR a x v hx pa) (cZ r bR b y u hy pb) (iM r af)
 ·exact An af
variable {cm:Ar}{k:Aj}{f:Af}{fd:Fb}{ps:Aa As}{F:DF}{x:As}{p pos:Ek}{e:Bp}{es:Aa Bp}{fa:DA}{n:Aj}
end
def vZ (t:DT)(f:DS):Aj→qG→Sto→Out
 |0,_,_=>.bad
 |n+1,env,S=>(t env S).toS env fun b S1=>if b then (match f env S1 with
   |.nx env2 S2=>vZ t f n env2 S2
   |.ct env2 S2=>vZ t f n env2 S2
   |.bk env2 S2=>.nx env2 S2
   |o=>o) else .nx env S1
theorem oE:∃ n:Aj,n=2 ^ 60:=⟨_,rfl⟩
def big:Aj:=Pi oE
theorem F5:big=2 ^ 60:=L2 oE
def mO (t:DT)(f:DS):DS:=fun env S=>vZ t f big env S
section
variable {X:Cx}{pos:Ek}
inductive WhI (X:Cx)(P:Hp)(α : Aa Af)(t:DT)(f:DS)(D:Ends)(m:Aj)(σ : _L.St)(H:Hp):Prop
 |mk (P2:Hp) (α2:Aa Af) (env2:qG) (S2:Sto) (r:Rel X.K H P2 α2 S2) (re:qZ X.K P2 α2 σ env2) (e1:qE P P2) (e2:α<+:α2) (af:qX X P2 α2 (vZ t f m env2 S2) D):WhI X P α t f D m σ H
theorem WS {c:Bp}{body:Aa El}{t:DT}{f:DS}(hp:Ml (Au X.prog X.w) X.A X.env X.xe)(hc:PT X c (tDT X t))(hb:PSs X body (tDS X f)):PS X (.While c body [] pos) (tDS X (mO t f)):=
 psW (V6 hp hc hb) fun D σ H ⟨P,α,env,S,r,re,af⟩=>by
  refine⟨WhI X P α t f D,⟨big,P,α,env,S,r,re,qE.refl _,Bb _,af⟩,?_⟩;rintro m σ2 H2 ⟨P2,α2,env2,S2,r2,re2,e1,e2,af2⟩;cases m with
  |zero=>exact An af2
  |succ m =>
   have af3:=w6 af2;refine⟨P2,α2,env2,S2,r2,re2,?_⟩;cases q:t env2 S2 with
   |bad=>rw[q] at af3;exact af3
   |ex c x S'=>rw[q] at af3;exact af3
   |ok b S3 =>
    rw[q] at af3;intro H3 P3 α3 r3 e3 e4;have af4:qX X P3 α3 (if b then (match f env2 S3 with|.nx env2 S2=>vZ t f m env2 S2|.ct env2 S2=>vZ t f m env2 S2|.bk env2 S2=>.nx env2 S2|o=>o) else .nx env2 S3) D:=qX.base e3 e4 af3
    cases b with
    |false=>exact af4 σ2 H3 P3 α3 r3 (re2.mono e3 e4) (qE.refl _) (Bb _)
    |true =>
     simp only[Eb] at af4 ⊢;refine⟨WhI X P α t f D m,fun σ' H' w=>⟨m,Ho _,w⟩,P3,α3,env2,S3,r3,re2.mono e3 e4,?_⟩;cases q2:f env2 S3 with
     |bad=>rw[q2] at af4;exact af4
     |ex c x env4 S4=>rw[q2] at af4;exact af4
     |rt d4 S4=>rw[q2] at af4;exact af4
     |bk env4 S4=>rw[q2] at af4;exact af4
     |nx env4 S4 =>
      rw[q2] at af4;exact fun σ5 H5 P5 α5 r5 re5 e8 e9=>⟨P5,α5,env4,S4,r5,re5,(e1.trans e3).trans e8,(e2.trans e4).trans e9,qX.base e8 e9 af4⟩
     |ct env4 S4 =>
      rw[q2] at af4;exact fun σ5 H5 P5 α5 r5 re5 e8 e9=>⟨P5,α5,env4,S4,r5,re5,(e1.trans e3).trans e8,(e2.trans e4).trans e9,qX.base e8 e9 af4⟩
end
section
variable {X:Cx}{a b c e:Bp}{pos:Ek}{fa fe:DE}
def IS (i:Aj)(g:G2)(fe:DE):DS:=fun env S=>match env[i]? with
 |some (Ab x)=>(fe env S).toS env fun y S1=>(g x y S1).toS env fun z S2=>.nx (env.set i (Ab z)) S2
 |_=>.bad
def zS (xs:Aa D)(lo hi:Am Al):Aa D:=(xs.drop (_H.sIx xs.length 0 lo)).take (_H.sIx xs.length xs.length hi-_H.sIx xs.length 0 lo)
abbrev DO:=qG→Sto→Res (Am Al)
def OkO (X:Cx)(P:Hp)(α : Aa Af)(Q:Am Al→Hp→Prop)(o:Am Al)(S':Sto):Prop:=∀ H' P' α',Rel X.K H' P' α' S'→qE P P'→α<+:α'→Q o H'
def tDO (X:Cx)(f:DO):TO:=fun σ H Q=>∃ P α env S,Rel X.K H P α S∧qZ X.K P α σ env∧qI X P α (f env S) (OkO X P α Q)
def xI:DO:=fun _ S=>.ok none S
def zR (f:DE):DO:=fun env S=>(f env S).bind fun d S1=>match d with
 |.int i=>.ok (Ab i) S1
 |_=>.bad
theorem K6:PO X none (tDO X xI):=fun pins s σ H Q I ⟨P,α,env,S,r,re,af⟩=>P7 pins s σ H Q I (af H P α r (qE.refl _) (Bb _))
theorem K7 (he:PE X e (tD X fe)):PO X (Ab e) (tDO X (zR fe)):=by
 intro pins s σ H Q I h;obtain⟨P,α,env,S,r,re,af⟩:=h;refine P8 (te:=tD X fe) he pins s σ H Q I ⟨P,α,env,S,r,re,?_⟩;have af':qI X P α ((fe env S).bind fun d S1=>match d with|.int i=>.ok (Ab i) S1|_=>.bad) (OkO X P α Q):=af
 cases q:fe env S with
 |bad=>rw[q] at af';exact af'
 |ex c x S'=>rw[q] at af';exact af'
 |ok d S1 =>
  rw[q] at af';intro v H1 P1 α1 r1 e1 e2 rp;cases d with
  |int i=>exact⟨i,xF rp,af' H1 P1 α1 r1 e1 e2⟩
  |_=>exact An af'
theorem qD.cut {K:Ai}{P:Hp}{α:Aa Af}(r:qD K P α ds vs)(lo hi:Am Al):qD K P α (zS ds lo hi) (gS vs lo hi):=by
 unfold zS gS;rw[r.length];exact(r.drop _).take _
def gSl (d:D)(lo hi:Am Al)(S:Sto):Res D:=match d with
 |.lst xs=>.ok (.lst (zS xs lo hi)) S
 |.loc i=>match S[i]? with
  |some (.lst xs)=>.ok (.lst (zS xs lo hi)) S
  |_=>.bad
 |.tup xs=>.ok (.tup (zS xs lo hi)) S
 |_=>.bad
def dSl (fe:DE)(fl fh:DO):DE:=fun env S=>(fe env S).bind fun d S1=>(fl env S1).bind fun lo S2=>(fh env S2).bind fun hi S3=>gSl d lo hi S3
end
end _D
namespace _D
open PySem PySem.Spec PyProof.Rows _L _H
section
variable {prog:Be}{w:Bt}{A:Bu}{E:Ac→Ag→Prop}{s:Ag}
theorem gM {t sl:Af}{items:Bl Ac}{vl vu:Ac}{lo hi:Am Al}{Q:Ac→Ag→Prop}(ht:Nm s.heap t items)(hs:s.heap.IsSliceOf sl vl vu .none)(pl:On vl lo)(pu:On vu hi)
  (hw:sIx items.size 0 lo=0∧sIx items.size items.size hi=items.size) (h:Q (.ref t) s):Ao (Au prog w) A (Jh (.ref t) (.ref sl)) Q E s:=by
 obtain⟨ob,hob,hcb,_⟩:=id hs;have hTs:s.TypeIs (.ref sl) "slice":=⟨ob,hob,hcb⟩;unfold Jh
 try with_reducible refine Du ?_
 first|refine Ad (Ak ?_)|skip
 refine Ad (O1 ht.typeIs (by decide) ?_)
 refine Ad (Dr (name:=Gv "__getitem__") ht.typeIs Dj
  (Dw Dj ht.typeIs My ?_ (Oc _ _)))
 show Ao _ _ (Jp (.ref t) >>= _) _ _ s;refine Ad (Sz ht ?_);refine Ad (Jl hTs ?_);rw[Bh (by decide)]
 refine Ad (uV hs pl pu ?_);show Ao _ _ (if (((sIx items.size 0 lo:Aj):Al) == 0&&(1:Al) == 1&&(sIx items.size items.size hi-sIx items.size 0 lo) == items.size)=true then _ else _) _ _ s
 rw[hw.1,hw.2,Bh (by simp)]
 unfold Xz;refine Ad (Ad (Jl ht.typeIs (Ak ?_)));rw[Bh (by decide)]
 exact Ad (Ju (Ak ⟨_,rfl,Ak h⟩))
end
section
variable {X:Cx}{e:Bp}{fe:DE}{pos p2:Ek}
def CQ (X:Cx):V→Am Al→Am Al→Hp→VK→Prop:=fun x lo hi H Q=>∃ P α S d,Rel X.K H P α S∧Rep X.K P α d x∧qV X P α (gSl d lo hi S) Q
theorem CU:SlR X (CQ X):=by
 intro pins s σ H x v vl vu lo hi sl Q I rx hs pl pu h;obtain⟨P,α,S,d,r,p,af⟩:=h;cases d with
 |lst xs =>
  simp only[Rep] at p;obtain⟨a,vs,rfl,q,t⟩:=p;exact aD pins s σ H _ v vl vu lo hi sl Q I rx hs pl pu ⟨a,vs,rfl,(xA r.sub q).l,fun b hb=>wA r hb (qD.cut t lo hi) af⟩
 |loc i =>
  obtain⟨xs,hS,af⟩:=uS (X:=X) (f:=fun xs=>Res.ok (D.lst (zS xs lo hi)) S) af;simp only[Rep] at p;obtain⟨a,rfl,q⟩:=p;obtain⟨vs,z,t⟩:=r.at' i a _ q hS;exact aD pins s σ H _ v vl vu lo hi sl Q I rx hs pl pu ⟨a,vs,rfl,SqL.of z,fun b hb=>wA r hb (qD.cut t lo hi) af⟩
 |tup xs =>
  have p0:=p;simp only[Rep] at p;obtain⟨a,vs,rfl,q,t⟩:=p;by_cases hw:sIx vs.length 0 lo=0∧sIx vs.length vs.length hi=vs.length
  ·cases rx
   obtain⟨its,rv,ht,hz⟩:=I.tuple (xG r.sub q);have hlen:its.toArray.size=vs.length:=by rw[Aw];exact rv.length.symm
   refine⟨"tuple",_,Dj.lookup,ht.typeIs,gM ht hs pl pu (by rw[hlen];exact hw) ⟨.ref a,H,I,rfl,xr af r ?_⟩⟩
   have e:zS xs lo hi=xs:=by
    unfold zS;rw[t.length,hw.1,hw.2,← t.length];simp
   rw[e];exact p0
  ·exact LV pins s σ H _ v vl vu lo hi sl Q I rx hs pl pu ⟨a,vs,rfl,xG r.sub q,hw,fun b hb=>kZ r hb (qD.cut t lo hi) af⟩
 |_=>exact An af
theorem WJ {lo hi:Am Bp}{fl fh:DO}(he:PE X e (tD X fe))(hl:PO X lo (tDO X fl))(hu:PO X hi (tDO X fh)):PE X (.Subscript e (.Slice lo hi none p2) pos) (tD X (dSl fe fl fh)):=
 peW (V3 CU he hl hu) fun σ H Q ⟨P,α,env,S,r,re,af⟩=>by
  refine⟨P,α,env,S,r,re,?_⟩;have af':qI X P α ((fe env S).bind fun d S1=>(fl env S1).bind fun lo S2=>(fh env S2).bind fun hi S3=>gSl d lo hi S3) (OkV X P α Q):=af;cases q:fe env S with
  |bad=>rw[q] at af';exact af'
  |ex c x S'=>rw[q] at af';exact af'
  |ok d S1 =>
   rw[q] at af';intro v H1 P1 α1 r1 e1 e2 rp;refine⟨P1,α1,env,S1,r1,re.mono e1 e2,?_⟩;have af2:qI X P1 α1 ((fl env S1).bind fun lo S2=>(fh env S2).bind fun hi S3=>gSl d lo hi S3) (OkV X P1 α1 Q):=qV.base e1 e2 af';cases q2:fl env S1 with
   |bad=>rw[q2] at af2;exact af2
   |ex c x S'=>rw[q2] at af2;exact af2
   |ok l S2 =>
    rw[q2] at af2;intro H2 P2 α2 r2 e3 e4;refine⟨P2,α2,env,S2,r2,(re.mono e1 e2).mono e3 e4,?_⟩;have af3:qI X P2 α2 ((fh env S2).bind fun hi S3=>gSl d l hi S3) (OkV X P2 α2 Q):=qV.base e3 e4 af2;cases q3:fh env S2 with
    |bad=>rw[q3] at af3;exact af3
    |ex c x S'=>rw[q3] at af3;exact af3
    |ok u S3 =>
     rw[q3] at af3;intro H3 P3 α3 r3 e5 e6;exact⟨P3,α3,S3,d,r3,Rep.mono (e3.trans e5) (e4.trans e6) _ _ rp,qV.base e5 e6 af3⟩
end
end _D
namespace _D
open PySem PySem.Spec PyProof.Rows _L
variable {N:Aa As}{its ds dsF:Aa D}{body:Aa El}{vs:Aa V}{Q:Ac→Ag→Prop}{C:Af}{Qa Qd:Ag→Prop}{m:Aj}{o':Am (Aj × MO)}{tp:Ar}{h':Bk}{xs ys:Bl Ac}{py:Ek}{R:It→Hp→Prop}{SF:Sto}{env envF:qG}
def zB (tp:Ar)(h:Bk)(it l:Af)(k:Aj):Prop:=if tp then h.IsTupleIter it l k else h.IsListIter it l k
def xO (tp:Ar)(h:Bk)(l:Af)(xs:Bl Ac):Prop:=if tp then h.IsTuple l xs else h.IsList l xs
theorem zB.keep {h:Bk}{it l:Af}{k:Aj}(x:zB tp h it l k)(q:∀ o,h.get? it=Ab o→h'.get? it=Ab o):zB tp h' it l k:=by
 cases tp <;> (obtain⟨o,e,r⟩:=x;exact⟨o,q o e,r⟩)
theorem xO.keep {h:Bk}{l:Af}(x:xO tp h l xs)(q:∀ o,h.get? l=Ab o→h'.get? l=Ab o):xO tp h' l xs:=by
 cases tp <;> (obtain⟨o,e,r⟩:=x;exact⟨o,q o e,r⟩)
theorem zB.there {h:Bk}{it l:Af}{k:Aj}(x:zB tp h it l k):∃ o,h.get? it=Ab o∧∀ v,o.data≠.cell v:=by
 cases tp <;> (obtain⟨o,e,_,d⟩:=x;exact⟨o,e,fun v z=>by rw[d] at z;cases z⟩)
section
variable {prog:Be}{w:Bt}{A:Bu}{E:Ac→Ag→Prop}{s:Ag}
theorem YT {it t:Af}{i:Aj}{items:Bl Ac}{x:Ac}(hit:s.heap.IsTupleIter it t i)(ht:s.heap.IsTuple t items)(hx:items[i]? = Ab x)
  (hQ:∀ h',h'.IsTupleIter it t (i+1)→En it s.heap h'→Q x { s with heap:=h' }) : Ao (Au prog w) A (Ds (.ref it)) Q E s:=by
 obtain⟨o,e,c,d⟩:=id hit;obtain⟨u,eu,_,m,du⟩:=ht;unfold Ds;refine Ad (Dr (name:=Gv "__next__") hit.typeIs Hv (Dw Hv hit.typeIs Nq ?_ (Nb _)));show Ao _ _ (field (.ref it) 0 >>= _) _ _ s;refine Ad (Do e d (x:=.ref t) rfl ?_);show Ao _ _ (if (Cb t == Ez)=true then _ else _) _ _ s;rw[Bn (show ¬ ((Cb t == Ez)=true) from Fp)]
 show Ao _ _ (field (.ref it) 1 >>= _) _ _ s;refine Ad (Do e d (x:=.int i 0) rfl ?_);show Ao _ _ (Yg (.ref t) >>= _) _ _ s;refine Ad (Gp eu du ?_);simp only[Em,hx];refine Ad (La e d (by simp) (Ak ⟨x,rfl,Ak (hQ _ ⟨_,Fi _ e (Obj.isFreed_of_fields (Ua d _)),(Obj.cls_mapFields ..).trans c,?_⟩ (Gt ..))⟩))
 rw[Ua d];simp[Ft]
theorem sY {it t:Af}{i:Aj}{items:Bl Ac}{Q:Ac→Ag→Prop}(hh:A.handled=none)(hit:s.heap.IsTupleIter it t i)(ht:s.heap.IsTuple t items)(hx:items[i]? = none)
  (hE:∀ h' e,Zf it s.heap h'→(∃ o,h'.get? e=Ab o∧o.cls=.type "StopIteration")→E (.ref e) { s with heap:=h' }) : Ao (Au prog w) A (Ds (.ref it)) Q E s:=by
 obtain⟨o,e,c,d⟩:=id hit;obtain⟨u,eu,_,m,du⟩:=ht;unfold Ds;refine Ad (Dr (name:=Gv "__next__") hit.typeIs Hv (Dw Hv hit.typeIs Nq ?_ (Nb _)));show Ao _ _ (field (.ref it) 0 >>= _) _ _ s;refine Ad (Do e d (x:=.ref t) rfl ?_);show Ao _ _ (if (Cb t == Ez)=true then _ else _) _ _ s;rw[Bn (show ¬ ((Cb t == Ez)=true) from Fp)]
 show Ao _ _ (field (.ref it) 1 >>= _) _ _ s;refine Ad (Do e d (x:=.int i 0) rfl ?_);show Ao _ _ (Yg (.ref t) >>= _) _ _ s;refine Ad (Gp eu du ?_);simp only[Em,hx];refine Ad (Ju (Ad (La e d (by simp) ?_)))
 show Ao _ _ (newExc (.type "StopIteration") [] >>= _) _ _ _;refine Ad ?_;simp only[newExc,newTuple];refine Ad (Dl ?_ (by size_fits))
 refine Ad (m:=Nr _ _) (Oq (a:=Ez) (by first|rfl|(simp only[Nr];rfl)) (Dl ?_ (by size_fits)))
 simp only[raiseNew];refine Ad (wpAny_handled ?_)
 first|rw[show A.in1.handled=none from hh]|rw[hh]
 exact Ad (Ak (wpAny_throw (hE _ _ (((Gt ..).extBut.push _).push _) ⟨_,Ba _ rfl,rfl⟩)))
theorem kW {it l:Af}{k:Aj}{x:Ac}(hit:zB tp s.heap it l k)(hl:xO tp s.heap l xs)(hx:xs[k]? = Ab x)
  (hQ:∀ h',zB tp h' it l (k+1)→En it s.heap h'→Q x { s with heap:=h' }) : Ao (Au prog w) A (Ds (.ref it)) Q E s:=by
 cases tp with
 |false=>exact wpAny_nextOf_list_item hit hl hx hQ
 |true=>exact YT hit hl hx hQ
theorem uQ {it l:Af}{k:Aj}{Q:Ac→Ag→Prop}(hh:A.handled=none)(hit:zB tp s.heap it l k)(hl:xO tp s.heap l xs)(hx:xs[k]? = none)
  (hE:∀ h' e,Zf it s.heap h'→(∃ o,h'.get? e=Ab o∧o.cls=.type "StopIteration")→E (.ref e) { s with heap:=h' }) : Ao (Au prog w) A (Ds (.ref it)) Q E s:=by
 cases tp with
 |false=>exact wpAny_nextOf_list_end hh hit hl hx hE
 |true=>exact sY hh hit hl hx hE
structure ZA (z I O i j:Af):Prop where
 Iz:I≠z
 Oz:O≠z
 iz:i≠z
 jz:j≠z
 IO:I≠O
 Ii:I≠i
 Ij:I≠j
 Oi:O≠i
 Oj:O≠j
 ij:i≠j
structure Off (z O i j a:Af):Prop where
 z:a≠z
 O:a≠O
 i:a≠i
 j:a≠j
abbrev XX (z O i j:Af)(h h':Bk):Prop:=∀ c o,c≠z→c≠O→c≠i→c≠j→h.get? c=Ab o→h'.get? c=Ab o
theorem U8 {tq:Ar}{z I O i j a b:Af}{k:Aj}{x y p q:Ac}(D:ZA z I O i j)(Da:Off z O i j a)(Db:Off z O i j b)
  (hz:Nt s.heap z I O .none) (hI:Hw s.heap I (.ref i) (.ref j)) (hO:Hw s.heap O p q) (h1:zB tp s.heap i a k) (h2:zB tq s.heap j b k) (ha:xO tp s.heap a xs) (hb:xO tq s.heap b ys) (hx:xs[k]? = Ab x) (hy:ys[k]? = Ab y)
  (hQ:∀ h',Nt h' z I O (Ft s.heap.objs.size)→Hw h' O x y→zB tp h' i a (k+1)→zB tq h' j b (k+1)→Hw h' s.heap.objs.size x y→h'.objs.size=s.heap.objs.size+1→XX z O i j s.heap h'→Q (.ref s.heap.objs.size) { s with heap:=h' }) :
  Ao (Au prog w) A (Hd.«zip.__next__» ⟨[.ref z],[]⟩) (fun fin s'=>∃ v,fin=.done (.ret v)∧Q v s') E s:=by
 show Ao _ _ (field (.ref z) 2 >>= _) _ _ _;refine Ad (Do hz rfl (x:=.bool false) rfl ?_);show Ao _ _ (field (.ref z) 3 >>= _) _ _ _;refine Ad (Do hz rfl (x:=.ref I) rfl (Ad (Gp hI rfl ?_)));show Ao _ _ (Ef (.ref z) >>= _) _ _ _;refine Ad ?_;unfold Ef;refine Ad (Do hz rfl (x:=.none) rfl (Ak ?_));simp only[Eb];refine Ad (Ju (Ad (Do hz rfl (x:=.ref O) rfl (Ad (Eo hz (by simp) fun g1 z1 s1=>?_)))))
 replace z1:Nt g1 z I O .ellipsis:=z1
 refine Ad ?_;simp only[We,Ww,Qp,Np];refine Ad (Ad (OE ?_));show Ao _ _ (Ds (.ref i) >>= _) _ _ _;refine Ad (kW (h1.keep fun o e=>s1.extBut _ _ D.iz e) (ha.keep fun o e=>s1.extBut _ _ Da.z e) hx fun g2 i2 s2=>Ak ?_);have O2:Hw g2 O p q:=s2.extBut _ _ D.Oi (s1.extBut _ _ D.Oz hO);refine Ad (Gp O2 rfl (Ad (Mi O2 fun g3 O3 s3=>Ad (Rj (Ak ?_)))))
 replace O3:Hw g3 O x q:=O3
 refine Ad (Ad (OE ?_));show Ao _ _ (Ds (.ref j) >>= _) _ _ _;refine Ad (kW (h2.keep fun o e=>s3.extBut _ _ D.Oj.symm (s2.extBut _ _ D.ij.symm (s1.extBut _ _ D.jz e))) (hb.keep fun o e=>s3.extBut _ _ Db.O (s2.extBut _ _ Db.i (s1.extBut _ _ Db.z e))) hy fun g4 j4 s4=>Ak ?_);have O4:Hw g4 O x q:=s4.extBut _ _ D.Oj O3;refine Ad (Gp O4 rfl (Ad (Mi O4 fun g5 O5 s5=>Ad (Rj (Ak (Ak ?_))))))
 replace O5:Hw g5 O x y:=O5
 refine Ad (Gp O5 rfl (Ad (Rz ?_)));have sz:g5.objs.size=s.heap.objs.size:=by rw[s5.1,s4.1,s3.1,s2.1,s1.1]
 have z5:Nt g5 z I O .ellipsis:=s5.extBut _ _ D.Oz.symm (s4.extBut _ _ D.jz.symm (s3.extBut _ _ D.Oz.symm (s2.extBut _ _ D.iz.symm z1)));have k5:XX z O i j s.heap g5:=fun c o c1 c2 c3 c4 e=>s5.extBut _ _ c2 (s4.extBut _ _ c4 (s3.extBut _ _ c2 (s2.extBut _ _ c3 (s1.extBut _ _ c1 e))));have i5:zB tp g5 i a (k+1):=i2.keep fun o e=>s5.extBut _ _ D.Oi.symm (s4.extBut _ _ D.ij (s3.extBut _ _ D.Oi.symm e));have j5:zB tq g5 j b (k+1):=j4.keep fun o e=>s5.extBut _ _ D.Oj.symm e;have zl:z<g5.objs.size:=Ax z5;show Ao _ _ (Ge (.ref z) (.ref g5.objs.size) >>= _) _ _ _;refine Ad ?_;unfold Ge;have z6:Nt (g5.push { cls:=.type "tuple",data:=.seq #[x,y] }) z I O .ellipsis:=Ah _ z5;refine Ad (Eo z6 (by simp) fun g7 z7 s7=>?_)
 replace z7:Nt g7 z I O (Ft g5.objs.size):=z7
 refine Eo z7 (by simp) fun g8 z8 s8=>?_
 replace z8:Nt g8 z I O (Ft g5.objs.size):=z8
 have up:∀ c o,c≠z→g5.get? c=Ab o→g8.get? c=Ab o:=fun c o c1 e=>s8.extBut _ _ c1 (s7.extBut _ _ c1 (Ah _ e));have T8:Hw g8 g5.objs.size x y:=s8.extBut _ _ (Fn zl) (s7.extBut _ _ (Fn zl) (Ba _ rfl));have sz8:g8.objs.size=g5.objs.size+1:=by rw[s8.1,s7.1,Dq]
 rw[sz] at z8 T8 sz8;refine Ak ⟨_,rfl,?_⟩;show Q (.ref g5.objs.size) _;rw[sz];exact hQ g8 z8 (up _ _ D.Oz O5) (i5.keep fun o e=>up _ o D.iz e) (j5.keep fun o e=>up _ o D.jz e) T8 sz8 fun c o c1 c2 c3 c4 e=>up c o c1 (k5 c o c1 c2 c3 c4 e)
end
section
variable {prog:Be}{w:Bt}{A:Bu}{E:Ac→Ag→Prop}{s:Ag}
theorem UA {tq:Ar}{z I O i j a b:Af}{k:Aj}{p q:Ac}{Q:Fin→Ag→Prop}(hh:A.handled=none)(D:ZA z I O i j)(Da:Off z O i j a)(Db:Off z O i j b)
  (hz:Nt s.heap z I O .none) (hI:Hw s.heap I (.ref i) (.ref j)) (hO:Hw s.heap O p q) (h1:zB tp s.heap i a k) (h2:zB tq s.heap j b k) (ha:xO tp s.heap a xs) (hb:xO tq s.heap b ys) (hend:xs[k]? = none∨ys[k]? = none)
  (hE:∀ h' e,XX z O i j s.heap h'→(∃ o,h'.get? e=Ab o∧o.cls=.type "StopIteration")→E (.ref e) { s with heap:=h' }) : Ao (Au prog w) A (Hd.«zip.__next__» ⟨[.ref z],[]⟩) Q E s:=by
 show Ao _ _ (field (.ref z) 2 >>= _) _ _ _;refine Ad (Do hz rfl (x:=.bool false) rfl ?_);show Ao _ _ (field (.ref z) 3 >>= _) _ _ _;refine Ad (Do hz rfl (x:=.ref I) rfl (Ad (Gp hI rfl ?_)));show Ao _ _ (Ef (.ref z) >>= _) _ _ _;refine Ad ?_;unfold Ef;refine Ad (Do hz rfl (x:=.none) rfl (Ak ?_));simp only[Eb];refine Ad (Ju (Ad (Do hz rfl (x:=.ref O) rfl (Ad (Eo hz (by simp) fun g1 z1 s1=>?_)))))
 replace z1:Nt g1 z I O .ellipsis:=z1
 refine Ad ?_;simp only[We,Ww,Qp,Np];refine Ad (Ad (OE ?_));show Ao _ _ (Ds (.ref i) >>= _) _ _ _;have it1:zB tp g1 i a k:=h1.keep fun o e=>s1.extBut _ _ D.iz e;have sq1:xO tp g1 a xs:=ha.keep fun o e=>s1.extBut _ _ Da.z e;cases hx:xs[k]? with
 |none =>
  refine Ad (uQ hh it1 sq1 hx fun g2 e x2 he=>?_);obtain⟨oe,h3,h4⟩:=he;have z2:Nt g2 z I O .ellipsis:=x2 _ _ D.iz.symm z1;have ne:e≠z:=fun y=>by subst y;rw[z2] at h3;cases h3;simp at h4
  exact Eo z2 (by simp) fun g3 _ s3=>hE g3 e (fun c o c1 _ c3 _ y=>s3.extBut _ _ c1 (x2 _ _ c3 (s1.extBut _ _ c1 y))) ⟨oe,s3.extBut _ _ ne h3,h4⟩
 |some x =>
  have hy:ys[k]? = none:=by
   rcases hend with y|y
   ·rw[hx] at y;cases y
   ·exact y
  refine Ad (kW it1 sq1 hx fun g2 i2 s2=>Ak ?_);have O2:Hw g2 O p q:=s2.extBut _ _ D.Oi (s1.extBut _ _ D.Oz hO);refine Ad (Gp O2 rfl (Ad (Mi O2 fun g3 O3 s3=>Ad (Rj (Ak ?_)))));refine Ad (Ad (OE ?_));show Ao _ _ (Ds (.ref j) >>= _) _ _ _;refine Ad (uQ hh (h2.keep fun o e=>s3.extBut _ _ D.Oj.symm (s2.extBut _ _ D.ij.symm (s1.extBut _ _ D.jz e))) (hb.keep fun o e=>s3.extBut _ _ Db.O (s2.extBut _ _ Db.i (s1.extBut _ _ Db.z e))) hy fun g4 e x4 he=>?_);obtain⟨oe,h3,h4⟩:=he;have z4:Nt g4 z I O .ellipsis:=x4 _ _ D.jz.symm (s3.extBut _ _ D.Oz.symm (s2.extBut _ _ D.iz.symm z1));have ne:e≠z:=fun y=>by subst y;rw[z4] at h3;cases h3;simp at h4
  exact Eo z4 (by simp) fun g5 _ s5=>hE g5 e (fun c o c1 c2 c3 c4 y=>s5.extBut _ _ c1 (x4 _ _ c4 (s3.extBut _ _ c2 (s2.extBut _ _ c3 (s1.extBut _ _ c1 y))))) ⟨oe,s5.extBut _ _ ne h3,h4⟩
abbrev vQ (tp:Ar)(l:Af):Cg:={ cls:=.type (if tp then "tuple_iterator" else "list_iterator"),data:=.fields #[.ref l,.int 0 0] }
abbrev zh1 (tp:Ar)(h:Bk)(a:Af):Bk:=h.push (vQ tp a)
abbrev zh2 (tp tq:Ar)(h:Bk)(a b:Af):Bk:=(zh1 tp h a).push (vQ tq b)
abbrev zh3 (tp tq:Ar)(h:Bk)(a b:Af):Bk:=(zh2 tp tq h a b).push { cls:=.type "tuple",data:=.seq #[.ref h.objs.size,.ref (zh1 tp h a).objs.size] }
abbrev zh4 (tp tq:Ar)(h:Bk)(a b:Af):Bk:=(zh3 tp tq h a b).push { cls:=.type "tuple",data:=.seq #[.none,.none] }
abbrev zh5 (tp tq:Ar)(h:Bk)(a b:Af):Bk:=(zh4 tp tq h a b).push { cls:=.type "zip",data:=.fields #[.none,.bool false,.bool false,.ref (zh2 tp tq h a b).objs.size,.ref (zh3 tp tq h a b).objs.size] }
set_option maxHeartbeats 4000000 in
theorem BS (tp:Ar)(a b:Af)(xs ys:Bl Ac) :
  Meets (Hd.«zip.__new__» ⟨[.type "zip",.ref a,.ref b],[]⟩) (fun _ R s=>xO tp s.heap a xs∧xO tp s.heap b ys∧R (.ok (.ret (.ref (zh4 tp tp s.heap a b).objs.size))) { s with heap:=zh5 tp tp s.heap a b }):=
 .of_wp fun prog w A R s h=>by
  obtain⟨hp,g,d,tk,os⟩:=s;obtain⟨q1,q2,h⟩:=h;have hsub:=sub_zip;have e2:∀ ob:Cg,xO tp (hp.push ob) b ys:=fun ob=>q2.keep fun o e=>Ah _ e;cases tp
  ·have l1:Wf (Ma ⟨hp,g,d,tk,os⟩) a xs:=q1
   have l2:Wf (Ma ⟨hp.push { cls:=.type "list_iterator",data:=.fields #[.ref a,.int 0 0] },g,d,tk,os⟩) b ys:=e2 _
   wp_walk using Ga l1,Ga l2
   exact⟨_,rfl,h⟩
  ·have l1:Uk (Ma ⟨hp,g,d,tk,os⟩) a xs:=q1
   have l2:Uk (Ma ⟨hp.push { cls:=.type "tuple_iterator",data:=.fields #[.ref a,.int 0 0] },g,d,tk,os⟩) b ys:=e2 _
   wp_walk using Gh l1,Gh l2
   exact⟨_,rfl,h⟩
theorem kT {h:Bk}{it l:Af}(e:h.get? it=Ab (vQ tp l)):zB tp h it l 0:=by
 cases tp
 ·exact⟨_,e,rfl,rfl⟩
 ·exact⟨_,e,rfl,rfl⟩
theorem W3 {a b:Af}(ha:xO tp s.heap a xs)(hb:xO tp s.heap b ys)
  (h:∀ h',Nt h' (s.heap.objs.size+4) (s.heap.objs.size+2) (s.heap.objs.size+3) .none→Hw h' (s.heap.objs.size+2) (.ref s.heap.objs.size) (.ref (s.heap.objs.size+1)) →
   Hw h' (s.heap.objs.size+3) .none .none→zB tp h' s.heap.objs.size a 0→zB tp h' (s.heap.objs.size+1) b 0→h'.objs.size=s.heap.objs.size+5→(∀ c o,s.heap.get? c=Ab o→h'.get? c=Ab o)→Q (.ref (s.heap.objs.size+4)) { s with heap:=h' }) :
  Ao (Au prog w) A (call (.type "zip") [.ref a,.ref b]) Q E s:=by
 refine callType_new F.called_zip (by decide) (F.typeCall_zip_2 _ _) (F.newCall_zip_2 _ _) (fun obj=>F.args_object_init_3 obj _ _) F.entry_zip_new (BS tp a b xs ys) ⟨ha,hb,?_⟩
 have y1:(zh1 tp s.heap a).objs.size=s.heap.objs.size+1:=Dq ..;have y2:(zh2 tp tp s.heap a b).objs.size=s.heap.objs.size+2:=by rw[Dq,y1]
 have y3:(zh3 tp tp s.heap a b).objs.size=s.heap.objs.size+3:=by rw[Dq,y2]
 have y4:(zh4 tp tp s.heap a b).objs.size=s.heap.objs.size+4:=by rw[Dq,y3]
 have y5:(zh5 tp tp s.heap a b).objs.size=s.heap.objs.size+5:=by rw[Dq,y4]
 have g5:(zh5 tp tp s.heap a b).get? (zh4 tp tp s.heap a b).objs.size=Ab _:=Ba _ rfl;have g4:(zh5 tp tp s.heap a b).get? (zh3 tp tp s.heap a b).objs.size=Ab _:=Ah _ (Ba _ rfl);have g3:(zh5 tp tp s.heap a b).get? (zh2 tp tp s.heap a b).objs.size=Ab _:=Ah _ (Ah _ (Ba _ rfl));have g2:(zh5 tp tp s.heap a b).get? (zh1 tp s.heap a).objs.size=Ab (vQ tp b):=Ah _ (Ah _ (Ah _ (Ba _ rfl)));have g1:(zh5 tp tp s.heap a b).get? s.heap.objs.size=Ab (vQ tp a):=Ah _ (Ah _ (Ah _ (Ah _ (Ba _ rfl))));have kp:∀ c o,s.heap.get? c=Ab o→(zh5 tp tp s.heap a b).get? c=Ab o:=fun c o e=>Ah _ (Ah _ (Ah _ (Ah _ (Ah _ e))));show _∧_;rw[y2,y3,y4] at g5;rw[y1,y2] at g3;rw[y3] at g4;rw[y1] at g2;rw[y4];exact⟨⟨_,g5,rfl⟩,h _ g5 g3 g4 (kT g1) (kT g2) y5 kp⟩
end
def Sq (tp:Ar)(K:Ai)(H:Hp)(a:Af)(xs:Aa V):Prop:=if tp then SqT K H a xs else SqL K H a xs
section
variable {X:Cx}{pins:Aa (Af × Cg)}{σ : _L.St}{H:Hp}{s:Ag}
theorem Sq.at {a:Af}{xs:Aa V}(I:Inv X pins σ H s)(q:Sq tp X.K H a xs):∃ its,qJ xs its∧xO tp s.heap a its.toArray:=by
 cases tp with
 |true =>
  obtain⟨its,rv,p,_⟩:=I.tuple q;exact⟨its,rv,p⟩
 |false =>
  obtain⟨its,rv,p,_⟩:=I.list q;exact⟨its,rv,p.isList⟩
theorem Sq.inj {a:Af}{xs ys:Aa V}(I:Inv X pins σ H s)(q:Sq tp X.K H a xs)(q':Sq tp X.K H a ys):xs=ys:=by
 cases tp with
 |true=>exact I.tuple_inj q q'
 |false=>exact I.list_inj q q'
theorem Sq.off {a b:Af}{xs:Aa V}(I:Inv X pins σ H s)(q:Sq tp X.K H a xs)(f:xH X pins H b):a≠b:=by
 have key:H a≠none∨∃ o,X.K.lookup a=Ab o:=by
  cases tp with
  |true =>
   rcases q with (q|⟨o,q⟩)|⟨o,_,_,q,_⟩
   ·exact .inl (by rw[q];intro z;cases z)
   ·exact .inl (by rw[q];intro z;cases z)
   ·exact .inr ⟨_,q⟩
  |false =>
   rcases q with (q|⟨o,q⟩)|⟨o,_,_,q,_⟩
   ·exact .inl (by rw[q];intro z;cases z)
   ·exact .inl (by rw[q];intro z;cases z)
   ·exact .inr ⟨_,q⟩
 rintro rfl;rcases key with k|⟨o,k⟩
 ·exact k f.1
 ·have e:=I.mod.kin a o k
  rcases f.2.2.2.1 with z|z
  ·exact I.ok.noex a o e z
  ·exact absurd (Ax (I.ok.bs a o e).1) (Lo.mpr z)
theorem Inv.turnLay {fp:Aa Af}{T:Af}{xs:Aa V}{its:Aa Ac}(I:Inv X pins σ H s)(hf:∀ b∈fp,xH X pins H b)(k:∀ b o,b ∉ fp→s.heap.get? b=Ab o→h'.get? b=Ab o)(th:∀ b∈fp,∃ o,h'.get? b=Ab o)
  (hT:s.heap.objs.size≤T) (rv:qJ xs its) (hx:Nm h' T its.toArray) (hz:xs.length≤sizeLine):Inv X pins σ (upd H T (.tup xs)) { s with heap:=h' }:=by
 have hn:H T=none:=I.hok.fresh hT;have ne:∀ b o,s.heap.get? b=Ab o→b≠T:=fun b o e=>Cd (Bf (Ax e) hT);refine I.step (g':=s.gens) (d':=s.drawn) (t':=s.toks) (ch:=fp) (fun b hb=>⟨(hf b hb).2.2.2.1,(hf b hb).2.1,(hf b hb).2.2.2.2.1,(hf b hb).2.2.2.2.2⟩) (fun b o _ _ hc e _=>k b o hc e) (fun b o _ _ hc e _=>⟨o.slots,k b o hc e⟩)
  (fun b o _ e n=>by rw[qF (ne b o e)];exact n) (fun b o hc e=>⟨o,k b o hc e⟩) (fun b ys e=>by rw[qF (qR e hn)];exact e) (fun b o u e=>by rw[qF (qR e hn)];exact e)
  (fun b ps e=>⟨#[],by rw[qF (qR e hn),e];simp⟩) (fun m hm=>?_) (fun b u e=>?_) I.bare
 ·obtain⟨o,es,ep,ho,r⟩:=hm
  exact⟨o,es,ep,k _ o (fun z=>(hf _ z).2.1 rfl) ho,r⟩
 ·by_cases hb:b=T
  ·subst hb
   rw[qQ] at e;cases e;exact⟨hz,its,rv,hx⟩
  ·rw[qF hb] at e
   refine(I.hok b u e).stay (fun c v hc q=>k c v (fun z=>?_) q) (fun c q=>by rw[qF (qR q hn)];exact q) fun c ys q=>by rw[qF (qR q hn)];exact q
   have hcn:=(hf c z).1;rcases hc with rfl|hc
   ·rw[hcn] at e;cases e
   ·rw[hcn] at hc;cases hc
theorem Inv.turnL {fp:Aa Af}(I:Inv X pins σ H s)(hf:∀ b∈fp,xH X pins H b)(k:∀ b o,b ∉ fp→s.heap.get? b=Ab o→h'.get? b=Ab o):Inv X pins σ H { s with heap:=h' }:=by
 refine I.step (g':=s.gens) (d':=s.drawn) (t':=s.toks) (ch:=fp) (fun b hb=>⟨(hf b hb).2.2.2.1,(hf b hb).2.1,(hf b hb).2.2.2.2.1,(hf b hb).2.2.2.2.2⟩) (fun b o _ _ hc e _=>k b o hc e) (fun b o _ _ hc e _=>⟨o.slots,k b o hc e⟩)
  (fun b o _ e n=>n) (fun b o hc e=>⟨o,k b o hc e⟩) (fun b ys e=>e) (fun b o u e=>e) (fun b ps e=>⟨#[],by rw[e];simp⟩) (fun m hm=>?_) (fun b u e=>?_) I.bare
 ·obtain⟨o,es,ep,ho,r⟩:=hm
  exact⟨o,es,ep,k _ o (fun z=>(hf _ z).2.1 rfl) ho,r⟩
 ·refine(I.hok b u e).stay (fun c v hc q=>k c v (fun z=>?_) q) (fun c q=>q) fun c ys q=>q
  have hcn:=(hf c z).1;rcases hc with rfl|hc
  ·rw[hcn] at e;cases e
  ·rw[hcn] at hc;cases hc
end
def Itz (tp:Ar)(K:Ai)(a b:Af):It:=
  ⟨fun i H=>∃ xs ys x y,Sq tp K H a xs∧Sq tp K H b ys∧xs[i]? = Ab x∧ys[i]? = Ab y,
   fun i H v H'=>∃ T x y,v=.ref T∧H T=none∧H'=upd H T (.tup [x,y])∧(∀ xs,Sq tp K H a xs→xs[i]? = Ab x)∧∀ ys,Sq tp K H b ys→ys[i]? = Ab y,
   fun i H=>∃ xs ys,Sq tp K H a xs∧Sq tp K H b ys∧(xs.length≤i∨ys.length≤i)⟩
def aU (tp:Ar)(z I O i j a b:Af)(k:Aj)(h:Bk):Prop:=∃ p q,Nt h z I O .none∧Hw h I (.ref i) (.ref j)∧Hw h O p q∧zB tp h i a k∧zB tp h j b k
theorem pB {z I O i j a b:Af}{k:Aj}{h:Bk}(st:aU tp z I O i j a b k h):∀ c∈[z,I,O,i,j],∃ o,h.get? c=Ab o∧∀ v,o.data≠.cell v:=fun c hc=>by
 obtain⟨p,q,s1,s2,s3,s4,s5⟩:=st;simp only[Ay,Cp,Fo] at hc;rcases hc with rfl|rfl|rfl|rfl|rfl
 ·exact⟨_,s1,fun v y=>by cases y⟩
 ·exact⟨_,s2,fun v y=>by cases y⟩
 ·exact⟨_,s3,fun v y=>by cases y⟩
 ·exact s4.there
 ·exact s5.there
theorem UU {c z I O i j:Af}(h:c ∉ [z,I,O,i,j]):c≠z∧c≠O∧c≠i∧c≠j:=by
 simp only[Ay,Cp,Fo,Rk] at h;exact⟨h.1,h.2.2.1,h.2.2.2.1,h.2.2.2.2⟩
theorem U1 {P:Be}{w:Bt}{K:Ai}{elts:Aa Bp}{x1:Aj}{tpos:Ek}{z I O i j a b:Af}(D:ZA z I O i j):Turn P w K (.Tuple elts x1 tpos) (Itz tp K a b) [z,I,O,i,j] z (aU tp z I O i j a b) where
 mem:=.head _
 obj:=fun k h st=>pB st
 keep:=fun k h h' st kp=>by
  obtain⟨p,q,s1,s2,s3,s4,s5⟩:=st;exact⟨p,q,kp z (.head _) _ s1,kp I (.tail _ (.head _)) _ s2,kp O (.tail _ (.tail _ (.head _))) _ s3,s4.keep fun o e=>kp i (.tail _ (.tail _ (.tail _ (.head _)))) o e,s5.keep fun o e=>kp j (.tail _ (.tail _ (.tail _ (.tail _ (.head _))))) o e⟩
 item:=by
  intro X hP hw hK hc k pins s σ H E Iv hf st hg;subst hP hw hK;obtain⟨p,q,s1,s2,s3,s4,s5⟩:=st;obtain⟨xs,ys,x,y,qa,qb,hx,hy⟩:=hg;obtain⟨ia,ra,ha⟩:=qa.at Iv;obtain⟨ib,rb,hb⟩:=qb.at Iv;obtain⟨u,hu,ru⟩:=ra.get hx;obtain⟨u',hu',ru'⟩:=rb.get hy;have off:∀ {c:Af} {zs:Aa V},Sq tp X.K H c zs→Off z O i j c:=fun {c zs} qc=>⟨qc.off Iv (hf z (.head _)),qc.off Iv (hf O (.tail _ (.tail _ (.head _)))),qc.off Iv (hf i (.tail _ (.tail _ (.tail _ (.head _))))),qc.off Iv (hf j (.tail _ (.tail _ (.tail _ (.tail _ (.head _))))))⟩;have hT:s.TypeIs (.ref z) "zip":=⟨_,s1,rfl⟩;unfold Ky;refine Ad (Ie (Dr (name:=Gv "__next__") hT Mq (Dw Mq hT Wg
   (U8 D (off qa) (off qb) s1 s2 s3 s4 s5 ha hb (by simpa using hu) (by simpa using hu') fun h' a1 a2 a3 a4 a5 a6 a7=>Ak ?_) (Vg _))))
  refine⟨_,rfl,wpAny_letOwnedTupleGo_zip (s:={ s with heap:=h' }) a1 fun h2 b1 b2=>?_⟩
  have up:∀ c o,c≠z→h'.get? c=Ab o→h2.get? c=Ab o:=fun c o n e=>(b2.2 c n).trans e;have zl:z<s.heap.objs.size:=Ax s1;have T2:Hw h2 s.heap.objs.size u u':=up _ _ (Fn zl) a5;have st2:aU tp z I O i j a b (k+1) h2:=⟨u,u',b1,up _ _ D.Iz (a7 I _ D.Iz D.IO D.Ii D.Ij s2),up _ _ D.Oz a2,a3.keep fun o e=>up _ o D.iz e,a4.keep fun o e=>up _ o D.jz e⟩;refine⟨.ref s.heap.objs.size,upd H s.heap.objs.size (.tup [x,y]),?_,rfl,⟨_,x,y,rfl,Iv.hok.fresh (Az _),rfl,fun zs qz=>by rw[qz.inj Iv qa];exact hx,fun zs qz=>by rw[qz.inj Iv qb];exact hy⟩,st2,fun c hc=>?_⟩
  ·show _L.Inv X pins σ (upd H s.heap.objs.size (.tup [x,y])) { s with heap:=h2 }
   refine Inv.turnLay (fp:=[z,I,O,i,j]) (its:=[u,u']) Iv hf (fun c o hc e=>?_) (fun c hc=>?_) (Az _) (.cons ru (.cons ru' .nil)) ⟨_,T2,rfl,_,rfl⟩ (by show 2≤sizeLine;decide)
   ·have hc:=UU hc
    exact up c o hc.1 (a7 c o hc.1 hc.2.1 hc.2.2.1 hc.2.2.2 e)
   ·obtain⟨o,e,_⟩:=pB st2 c hc
    exact⟨o,e⟩
  ·have hn:=(hf c hc).1
   rw[qF ?_]
   ·exact hn
   ·rintro rfl
    obtain⟨o,e,_⟩:=pB ⟨p,q,s1,s2,s3,s4,s5⟩ _ hc;exact absurd (Ax e) (Ea _)
 done:=by
  intro X hP hw hK hc k pins s σ H E Iv hf st hg;subst hP hw hK;obtain⟨p,q,s1,s2,s3,s4,s5⟩:=st;obtain⟨xs,ys,qa,qb,hend⟩:=hg;obtain⟨ia,ra,ha⟩:=qa.at Iv;obtain⟨ib,rb,hb⟩:=qb.at Iv;have off:∀ {c:Af} {zs:Aa V},Sq tp X.K H c zs→Off z O i j c:=fun {c zs} qc=>⟨qc.off Iv (hf z (.head _)),qc.off Iv (hf O (.tail _ (.tail _ (.head _)))),qc.off Iv (hf i (.tail _ (.tail _ (.tail _ (.head _))))),qc.off Iv (hf j (.tail _ (.tail _ (.tail _ (.tail _ (.head _))))))⟩;have hT:s.TypeIs (.ref z) "zip":=⟨_,s1,rfl⟩;have l1:=ra.length;have l2:=rb.length;unfold Ky;refine Ad (Ie (Dr (name:=Gv "__next__") hT Mq (Dw Mq hT Wg
   (UA (Iv.ok.hd hc) D (off qa) (off qb) s1 s2 s3 s4 s5 ha hb ?_ fun h' e kp he=>?_) (Vg _))))
  ·rcases hend with y|y
   ·exact .inl (by simp;omega)
   ·exact .inr (by simp;omega)
  ·obtain⟨o,ho,hcl⟩:=he
   refine Ad (Mb (T:="StopIteration") (b:=true) ⟨o,ho,hcl⟩ Sa (Ak ⟨rfl,Inv.turnL (fp:=[z,I,O,i,j]) Iv hf fun c o hc e=>?_⟩));have hc:=UU hc;exact kp c o hc.1 hc.2.1 hc.2.2.1 hc.2.2.2 e
 self:=fun _ _ _ _ _ st h=>by
  obtain⟨p,q,s1,_⟩:=st;exact Wh s1 h
def v8 (xs ys:Aa D):Aa D:=List.zipWith (fun x y=>D.tup [x,y]) xs ys
def DV (ds:Aa D):Am (Aa D):=match ds with
 |[.tup xs,.tup ys]=>Ab (v8 xs ys)
 |[.lst xs,.lst ys]=>Ab (v8 xs ys)
 |_=>none
def t7 (f:DA):DI:=fun env S=>(f env S).bind fun ds S1=>vG (DV ds) S1
theorem U7 {xs ys:Aa D}{i:Aj}:(v8 xs ys)[i]? = match xs[i]?,ys[i]? with|some x,Ab y=>Ab (D.tup [x,y])|_,_=>none:=by
 unfold v8;rw[List.getElem?_zipWith];cases xs[i]? <;> cases ys[i]? <;> rfl
theorem fN (xs ys:Aa D):(v8 xs ys).length=min xs.length ys.length:=by simp[v8]
section
variable {K:Ai}
theorem Sq.mono {P P':Hp}(e:qE P P'){a:Af}{xs:Aa V}(q:Sq tp K P a xs):Sq tp K P' a xs:=by
 cases tp with
 |true=>exact yN e q
 |false=>exact e.seq q
theorem KZ {P:Hp}{α:Aa Af}{a b:Af}{xs ys:Aa D}{ws:Aa V}(qa:Sq tp K P a vs)(qb:Sq tp K P b ws)(ta:qD K P α xs vs)(tb:qD K P α ys ws):ItD K (Itz tp K a b) P α (v8 xs ys) where
 go:=fun i H P1 α1 S hi r e _=>by
  rw[fN] at hi;have h1:i<vs.length:=by rw[← ta.length];omega
  have h2:i<ws.length:=by rw[← tb.length];omega
  exact⟨vs,ws,vs[i],ws[i],qa.mono (e.trans r.sub),qb.mono (e.trans r.sub),by simp,by simp⟩
 yld:=fun i H x H' P1 α1 S hi r e e2 y=>by
  obtain⟨T,u,w,rfl,hT,rfl,hu,hw⟩:=y;rw[fN] at hi;have h1:i<xs.length:=by omega
  have h2:i<ys.length:=by omega
  obtain⟨v1,z1,p1⟩:=ta.get (Ap h1);obtain⟨v2,z2,p2⟩:=tb.get (Ap h2);have eu:=hu vs (qa.mono (e.trans r.sub));have ew:=hw ws (qb.mono (e.trans r.sub));rw[z1] at eu;cases eu;rw[z2] at ew;cases ew;obtain⟨r1,s1⟩:=r.pure (o:=.tup [u,w]) hT;refine⟨_,.tup [xs[i],ys[i]],?_,r1,s1,?_⟩
  ·rw[U7,Ap h1,Ap h2]
  ·exact b0 (.of qQ) (.cons (Rep.mono (e.trans s1) e2 _ _ p1) (.cons (Rep.mono (e.trans s1) e2 _ _ p2) .nil))
 stop:=fun i H P1 α1 S hi r e _=>by
  rw[fN] at hi;have l1:=ta.length;have l2:=tb.length;exact⟨vs,ws,qa.mono (e.trans r.sub),qb.mono (e.trans r.sub),by omega⟩
end
section
variable {X:Cx}{e1 e2:Bp}{elts:Aa Bp}{x1:Aj}{tpos:Ek}{f:DA}{p pos:Ek}
theorem XU {pins:Aa (Af × Cg)}{σ:_L.St}{H P:Hp}{α:Aa Af}{S:Sto}{s:Ag}{a b:Af}{xs ys:Aa D}{ws:Aa V}(I:Inv X pins σ H s)(r:Rel X.K H P α S)(qa:Sq tp X.K P a vs)(qb:Sq tp X.K P b ws)(ta:qD X.K P α xs vs)(tb:qD X.K P α ys ws)
  (q:OkI X P α R (v8 xs ys) S):Ao (Au X.prog X.w) X.A (call (.type "zip") [.ref a,.ref b]) (fun v s1=>Ao (Au X.prog X.w) X.A (Mv v) (PIE X pins σ (.Tuple elts x1 tpos) R) X.xe s1) X.xe s:=by
 obtain⟨ia,ra,ha⟩:=(qa.mono r.sub).at I;obtain⟨ib,rb,hb⟩:=(qb.mono r.sub).at I;refine W3 ha hb fun h' z1 z2 z3 z4 z5 z6 z7=>?_;refine Wh (s:={ s with heap:=h' }) z1 ?_
 have D:ZA (s.heap.objs.size+4) (s.heap.objs.size+2) (s.heap.objs.size+3) s.heap.objs.size (s.heap.objs.size+1):=by constructor <;> (intro z;simp at z)
 refine⟨_,[s.heap.objs.size+4,s.heap.objs.size+2,s.heap.objs.size+3,s.heap.objs.size,s.heap.objs.size+1],_,_,H,rfl,I.kept (t':=s.toks) z7,U1 (a:=a) (b:=b) D,⟨_,_,z1,z2,z3,z4,z5⟩,fun c hc=>?_,q _ _ P α r (qE.refl _) (Bb _) (KZ qa qb ta tb)⟩;have hl:s.heap.objs.size≤c:=by
  simp only[Ay,Cp,Fo] at hc;rcases hc with rfl|rfl|rfl|rfl|rfl <;> simp
 exact I.fpOk hl (I.hok.fresh hl)
inductive ZipV (ds:Aa D)(its:Aa D):Prop
 |tup (xs ys:Aa D) (ed:ds=[.tup xs,.tup ys]) (e:its=v8 xs ys)
 |lst (xs ys:Aa D) (ed:ds=[.lst xs,.lst ys]) (e:its=v8 xs ys)
theorem BR (h:DV ds=Ab its):ZipV ds its:=by
 cases ds with
 |nil=>exact nn h
 |cons a ds =>
  cases a with
  |tup xs =>
   cases ds with
   |nil=>exact nn h
   |cons b ds =>
    cases b with
    |tup ys =>
     cases ds with
     |nil=>exact .tup xs ys rfl (Cm h).symm
     |cons _ _=>exact nn h
    |_=>exact nn h
  |lst xs =>
   cases ds with
   |nil=>exact nn h
   |cons b ds =>
    cases b with
    |lst ys =>
     cases ds with
     |nil=>exact .lst xs ys rfl (Cm h).symm
     |cons _ _=>exact nn h
    |_=>exact nn h
  |_=>exact nn h
theorem FZ (hg:Gl X "zip")(hm:X.mg "zip" = none)(ha:PA X [e1,e2] (tDA X f))(hs:Bi [e1,e2] X.env=(false,eval e1 X.env)::Bi [e2] X.env:=by rfl)(hpl:(Fq pos (Bi [e2] X.env)).any (·.1)=false:=by rfl) :
  PI X (.Tuple elts x1 tpos) (.Call (.Name "zip" p) [e1,e2] [] pos) (tDI X (t7 f)):=by
 intro pins s σ H R I h;obtain⟨P,α,env,S,r,re,af⟩:=h;refine Call_ (vT I hg hm boot_zip (Go (thn (wV ha I r re af pos) fun us s1 ⟨vs,H1,P1,α1,ds,S1,I1,rv,r1,re1,rp,e1,e2,af1⟩=>?_) hs hpl));obtain⟨its,hi,q⟩:=vH af1;cases BR hi with
 |tup xs ys ed e =>
  subst ed e;obtain⟨v,w,u,x,rfl,rfl,p1,p2,q1,q2⟩:=gA rp rv;simp only[Rep] at p1 p2;obtain⟨a,va,rfl,qa,ta⟩:=p1;obtain⟨b,vb,rfl,qb,tb⟩:=p2;cases (show u=Cb a from q1)
  cases (show x=Cb b from q2)
  exact XU (tp:=true) I1 r1 qa qb ta tb (q.base e1 e2)
 |lst xs ys ed e =>
  subst ed e;obtain⟨v,w,u,x,rfl,rfl,p1,p2,q1,q2⟩:=gA rp rv;simp only[Rep] at p1 p2;obtain⟨a,va,rfl,qa,ta⟩:=p1;obtain⟨b,vb,rfl,qb,tb⟩:=p2;cases (show u=Cb a from q1)
  cases (show x=Cb b from q2)
  exact XU (tp:=false) I1 r1 qa.l qb.l ta tb (q.base e1 e2)
end
def Src (K:Ai)(mg:As→Am Ac)(x:As)(st:El)(ps:Aa As):Prop:=∃ f fd,mg x=Ab (.ref f)∧Fun K x x st f fd∧vL K fd ps []
def Lk (K:Ai)(f:Af)(fd:Fb):Prop:=∃ oc od osl,K.lookup f=Ab ⟨oc,od,.func fd,osl⟩
theorem pO {K:Ai}{x q:As}{st:El}{f:Af}{fd:Fb}(F:Fun K x q st f fd):Lk K f fd:=by
 obtain⟨oc,od,kV,doc,pm,an,cdv,ct,osl,_,lk,_⟩:=F.ex;exact⟨oc,od,osl,lk⟩
theorem Lk.one {K:Ai}{f:Af}{fd fd':Fb}(h:Lk K f fd)(h':Lk K f fd'):fd=fd':=by
 obtain⟨oc,od,osl,e⟩:=h;obtain⟨oc',od',osl',e'⟩:=h';rw[e] at e';cases e';rfl
def Def (P:Be)(w:Bt)(K:Ai)(mg:As→Am Ac)(base:Bk)(cm:Ar)(k:Aj)(x:As)(n:Aj)(F:DF):Prop:=
 ∃ f fd ps,ps.length=n∧mg x=Ab (.ref f)∧Eu K (.ref f)=true∧vL K fd ps [] ∧ Lk K f fd∧FnX P w K mg base cm k f fd ps (spD K n F)
def dO (P:Be)(w:Bt)(K:Ai)(mg:As→Am Ac)(base:Bk)(cm:Ar)(k:Aj)(x:As)(ps:Aa As)(F:DF):Prop:=
 ∃ f fd,mg x=Ab (.ref f)∧Eu K (.ref f)=true∧vL K fd ps [] ∧ Lk K f fd∧FnX P w K mg base cm k f fd ps (spD K ps.length F)
section
variable {P:Be}{w:Bt}{K:Ai}{mg:As→Am Ac}{base:Bk}{cm:Ar}
theorem UF {x:As}{f:Af}{fd:Fb}{cdv:Ac}(hm:mg x=Ab (.ref f))(lk:Lk K f fd)(h:fd.code=cdv∧Mod K mg base):kE K x cdv:=fun c T e=>by
 obtain⟨oc,od,osl,lk⟩:=lk;rw[← h.1];exact PySem.W.law_code h.2.kin h.2.glob e hm (h.2.kin _ _ lk) rfl
theorem FV {x:As}{st:El}{ps:Aa As}{k:Aj}{g:DS}(h:Src K mg x st ps)(S:FnScope N ps (qH st))
  (hbody:∀ (f:Af) (cdv:Ac) (A:Bu) (outer:Aa Ht) (s:Ag) (H:Hp) (E:XK),kE K x cdv→RoomC cm k (A.deeper (Fv x (qH st) s.heap.objs.size f cdv)) →
   PSs (cxC cm P w K mg base N x (qH st) f cdv A outer s H E) (zH st) (tDS (cxC cm P w K mg base N x (qH st) f cdv A outer s H E) g)):Def P w K mg base cm (k+1) x ps.length (qT N.length g):=by
 obtain⟨f,fd,hm,F,hb⟩:=h;exact⟨f,fd,ps,rfl,hm,F.kp,hb,pO F,fnX F S fun cdv A outer s H E hc hr=>hbody f cdv A outer s H E (UF hm (pO F) hc) hr⟩
theorem K0 {x:As}{st:El}{ps:Aa As}{k:Aj}{g:DS}(h:Src K mg x st ps)(S:FnScope N ps (qH st))
  (hbody:∀ (f:Af) (cdv:Ac) (A:Bu) (outer:Aa Ht) (s:Ag) (H:Hp) (E:XK),kE K x cdv→RoomC cm k (A.deeper (Fv x (qH st) s.heap.objs.size f cdv)) →
   PSs (cxC cm P w K mg base N x (qH st) f cdv A outer s H E) (zH st) (tDS (cxC cm P w K mg base N x (qH st) f cdv A outer s H E) g)):dO P w K mg base cm (k+1) x ps (qT N.length g):=by
 obtain⟨f,fd,hm,F,hb⟩:=h;exact⟨f,fd,hm,F.kp,hb,pO F,fnX F S fun cdv A outer s H E hc hr=>hbody f cdv A outer s H E (UF hm (pO F) hc) hr⟩
theorem Def.any {x:As}{k n:Aj}{F:DF}(h:Def P w K mg base false k x n F):Def P w K mg base cm k x n F:=by
 obtain⟨f,fd,ps,hn,hm,kp,hb,hl,X⟩:=h;exact⟨f,fd,ps,hn,hm,kp,hb,hl,X.any⟩
end
section
variable {X:Cx}{cm:Ar}{k n:Aj}{F:DF}{x:As}{p pos:Ek}{e:Bp}{es:Aa Bp}{fa:DA}
theorem dcN (G:Def X.prog X.w X.K X.mg X.base cm k x n F)(hr:RoomC cm k X.A)(hF:Fn1 X)(hg:Gl X x)(ha:PA X (e::es) (tDA X fa))(hdb:(x == ("__debug__" : As))=false:=by decide)(he:Bi (e::es) X.env=(false,eval e X.env)::Bi es X.env:=by rfl)(hpl:(Fq pos (Bi es X.env)).any (·.1)=false:=by rfl) :
  PE X (.Call (.Name x p) (e::es) [] pos) (tD X (qO n F fa)):=by
 obtain⟨f,fd,ps,hn,hm,kp,hb,hl,G⟩:=G;exact JU G hr hF hg hm kp hb ha hdb he hpl
theorem FK (hg:Gl X x)(hm:X.mg x=Ab (.ref C))(hk:Eu X.K (.ref C)=true)(hd:(x == ("__debug__" : As))=false:=by decide):PE X (.Name x pos) (tD X (dC (.obj C))):=
 eY hg hm (v:=.ref C) rfl (fun P α => by simp only[Rep];exact⟨trivial,hk⟩) hd
end
def xP:DF:=fun ds S=>match ds with
 |[.dct0]=>.bad
 |_=>sL ds S
theorem JL {X:Cx}:wQ X (.builtin "len") xP:=F9 trivial
def gT:DE:=fun _ _=>.bad
theorem FJ {X:Cx}{e:Bp}:PE X e (tD X gT):=fun _ _ _ _ _ _ ⟨_,_,_,_,_,_,h⟩=>An h
theorem UE:∃ C:Al→Al→Ar,C=dW:=⟨_,rfl⟩
def UD:Al→Al→Ar:=Pi UE
theorem dX:UD=dW:=L2 UE
def zN:G2:=i2 UD fun i j=>.int (i*j)
theorem cR {X:Cx}:OpD X (Dz .Mult) zN:=by
 unfold zN;rw[dX];exact GP
theorem hu1 {cm:Ar}{k:Aj}{A:Bu}(hr:RoomC cm k A):A.units+1<Ex:=by have:=hr.units;omega
def okO (F:DF):DF:=fun ds S=>match F ds S with
 |.ok d S'=>.ok d S'
 |_=>.bad
theorem NB {F:DF}{S S':Sto}{d:D}(h:F ds S=.ok d S'):okO F ds S=.ok d S':=by unfold okO;rw[h]
section
variable {X:Cx}{cm:Ar}{k n:Aj}{F:DF}{x:As}{p pos:Ek}{e:Bp}{es:Aa Bp}{fa:DA}{f:Af}{fd:Fb}{ps:Aa As}
theorem B2 {pins:Aa (Af × Cg)}{σ:_L.St}{H:Hp}{s:Ag}{Q:VK}{us:Aa Ac}{P:Hp}{α:Aa Af}{S:Sto}(G:FnX X.prog X.w X.K X.mg X.base cm k f fd ps (spD X.K n F))(hr:RoomC cm k X.A)(hb:vL X.K fd ps [])
  (I:Inv X pins σ H s) (r:Rel X.K H P α S) (rv:qJ vs us) (rp:qD X.K P α ds vs) (hn:ds.length=n) (af:qV X P α (okO F ds S) Q):Ao (Au X.prog X.w) X.A (call (.ref f) us) (EP X pins σ Q) X.xe s:=by
 have hvn:vs.length=n:=by rw[← rp.length];exact hn
 have hsp:spD X.K n F vs H Q fun _ _ _=>Ev:=by
  refine⟨hvn,P,α,ds,S,r,rp,?_⟩;unfold okO at af;cases q:F ds S with
  |ok d S'=>rw[q] at af;exact af
  |ex c x S'=>rw[q] at af;exact An af
  |bad=>rw[q] at af;exact af
 have hl:us.length=ps.length:=by rw[← rv.length];exact G.len _ _ _ _ hsp
 have hb':=hb s us I.kIn (by rw[Gs];exact hl)
 rw[Gs] at hb';refine Mz (Iw (G.run X.A X.stack s H ⟨us,[]⟩ us vs Q _ hr I.env0 hb' rv hsp) fun r s' hq=>?_);cases r with
 |error u =>
  obtain⟨_,_,_,_,_,_,_,_,_,_,_,_,z⟩:=hq;exact An z
 |ok fl =>
  cases fl with
  |ret u=>exact I.after hq
  |next=>exact An hq
  |brk=>exact An hq
  |cont=>exact An hq
theorem dcO (G:Def X.prog X.w X.K X.mg X.base cm k x n F)(hr:RoomC cm k X.A)(hg:Gl X x)(ha:PA X (e::es) (tDA X fa))(hdb:(x == ("__debug__" : As))=false:=by decide)(he:Bi (e::es) X.env=(false,eval e X.env)::Bi es X.env:=by rfl)(hpl:(Fq pos (Bi es X.env)).any (·.1)=false:=by rfl) :
  PE X (.Call (.Name x p) (e::es) [] pos) (tD X (qO n (okO F) fa)):=by
 obtain⟨f,fd,ps,hn0,hm,hk,hb,hl,G⟩:=G;intro pins s σ H Q I h;obtain⟨P,α,env,S,r,re,af⟩:=h;refine Hb (uE I hg hm ?_ hdb);refine Oe (h₀:=X.base) I.ok.mod.kin hk (thn (wV ha I r re af pos) fun us s1 ⟨vs,H1,P1,α1,ds,S1,I1,rv,r1,re1,rp,e1,e2,af1⟩=>⟨I1.kIn,?_⟩) he hpl;obtain⟨hn,af2⟩:=nP (env:=env) (S:=S) af1;exact B2 G hr hb I1 r1 rv rp hn (qV.base e1 e2 af2)
end
structure QE (X:Cx)(e:Bp)(f:DE):Prop where
 get:PE X e (tD X f)
structure QT (X:Cx)(e:Bp)(t:DT):Prop where
 get:PT X e (tDT X t)
structure QW (X:Cx)(e:Bp)(t:DT):Prop where
 get:PWD X e t
structure QA (X:Cx)(es:Aa Bp)(f:DA):Prop where
 get:PA X es (tDA X f)
structure QO (X:Cx)(e:Am Bp)(f:DO):Prop where
 get:PO X e (tDO X f)
structure QG (X:Cx)(t:Bp)(g:DG):Prop where
 get:PG X t (tDG X g)
structure QGs (X:Cx)(ts:Aa Bp)(g:DGs):Prop where
 get:PGs X ts (rW X g)
structure QI (X:Cx)(tg it:Bp)(f:DI):Prop where
 get:PI X tg it (tDI X f)
structure QS (X:Cx)(s:El)(f:DS):Prop where
 get:PS X s (tDS X f)
structure QB (X:Cx)(ss:Aa El)(f:DS):Prop where
 get:PSs X ss (tDS X f)
structure ZOp (X:Cx)(f:Ac→Ac→Me Ac)(g:G2):Prop where
 get:OpD X f g
structure ZUn (X:Cx)(f:Ac→Me Ac)(g:D→Sto→Res D):Prop where
 get:UnD X f g
structure ZIx (X:Cx)(g:G2):Prop where
 get:IxD X g
structure ZCall (X:Cx)(f:Ac)(F:DF):Prop where
 get:wQ X f F
structure ZMt (X:Cx)(id:Ed)(g:D→Aa D→Sto→Res D):Prop where
 get:MtD X id g
structure ZSet (X:Cx)(g:G3):Prop where
 get:dP X (dJ X g)
structure ZPass (X:Cx):Prop where
 get:Ml (Au X.prog X.w) X.A X.env X.xe
section
variable {X:Cx}{a b c e e1 e2 o i:Bp}{es rest:Aa Bp}{fa fb fc fe fo fi:DE}{ta tb:DT}{fA:DA}{f g:DS}{st:El}{sts:Aa El}{x:As}{p pos:Ek}{n k:Aj}{cm:Ar}{F:DF}{G2':G2}
theorem ZW:QE X (.Constant .none j pos) (dC .non):=⟨FQ⟩
theorem UY:QE X (.Constant (.bool v) j pos) (dC (.bl v)):=⟨SC⟩
theorem L6:QE X (.Constant (.int v) j pos) (dC (.int v)):=⟨FN⟩
theorem LA:QE X (.Constant (.str v) j pos) (dC (.str v)):=⟨FT⟩
theorem LB (m:Aj)(hN:X.N[m]? = Ab x)(hv:Vis X.env.scope x)(hd:(x == ("__debug__" : As))=false)(hcd:(x == ("__classdict__" : As))=false):QE X (.Name x pos) (qC m):=⟨dv m hN hv hd hcd⟩
theorem PF {nm:Ed}(hg:Gl X x)(hm:X.mg x=none)(hv:Fl x=Ab (.type nm))(hn:x ≠ "__name__")(hd:(x == ("__debug__" : As))=false):QE X (.Name x pos) (dC (.ty nm)):=⟨JT hg hm hv hn hd⟩
theorem L4 (hg:Gl X x)(hm:X.mg x=Ab (.ref C))(hk:Eu X.K (.ref C)=true)(hd:(x == ("__debug__" : As))=false):QE X (.Name x pos) (dC (.obj C)):=⟨FK hg hm hk hd⟩
theorem PJ {v:Al}(hg:Gl X x)(hm:∃ t,X.mg x=Ab (.int v t))(hd:(x == ("__debug__" : As))=false):QE X (.Name x pos) (dC (.int v)):=⟨let ⟨_,h⟩:=hm;eY (v:=.int v) hg h ⟨_,rfl⟩ (fun _ _=>by simp only[Rep]) hd⟩
theorem L3:QE X e gT:=⟨FJ⟩
theorem E2 {op:UnaryOp}{h:D→Sto→Res D}(ho:ZUn X (Vu op) h)(ha:QE X a fa):QE X (.UnaryOp op a pos) (d1 h fa):=⟨SH ho.1 ha.1⟩
theorem L9 (ha:QE X a fa):QE X (.UnaryOp .Not a pos) (WC fa):=⟨FR ha.1⟩
theorem E1 {op:Operator}(ho:ZOp X (Dz op) G2')(ha:QE X a fa)(hb:QE X b fb):QE X (.BinOp a op b pos) (d2 G2' fa fb):=⟨SG ho.1 ha.1 hb.1⟩
theorem ZV {op:Ss}(ho:ZOp X (Dc op) G2')(ha:QE X a fa)(hb:QE X b fb)(hm:Jv op b=false:=by first|exact jT _|with_unfolding_all rfl):QE X (.Compare a [op] [b] pos) (d2 G2' fa fb):=⟨FL ho.1 ha.1 hb.1 hm⟩
theorem V9 {op op':Ss}{g':G2}(ho:ZOp X (Dc op) G2')(ho':ZOp X (Dc op') g')(ha:QE X a fa)(hb:QE X b fb)(hc:QE X c fc)(hm:Vb [op,op'] [b,c]=false:=by with_unfolding_all rfl):QE X (.Compare a [op,op'] [b,c] pos) (wU G2' g' fa fb fc):=⟨WG ho.1 ho'.1 ha.1 hb.1 hc.1 hm⟩
theorem ZX  (h:QE X a fa):QE X (.BoolOp op [a] pos) fa:=⟨FS h.1⟩
theorem ZT (ha:QE X a fa)(hb:QE X (.BoolOp .And (b::rest) pos) fb):QE X (.BoolOp .And (a::b::rest) pos) (kI fa fb):=⟨FI ha.1 hb.1⟩
theorem ZY  (h:QA X es fA):QE X (.Tuple es x1 pos) (qN fA):=⟨FU h.1⟩
theorem L8 (h:QA X es fA):QE X (.List es pos) (zG fA):=⟨FP h.1⟩
theorem PL (h:QA X es fA):QE X (.List es pos) (j6 fA):=⟨JX h.1⟩
theorem L5:QE X (.Dict [] [] pos) sF:=⟨FM⟩
theorem PH:QE X (.Dict [] [] pos) lZ:=⟨JW⟩
theorem E0 (ho:ZIx X G2')(ha:QE X a fa)(hb:QE X b fb)(hs:mV b:=by intro _ _;rfl):QE X (.Subscript a b pos) (d2 G2' fa fb):=⟨SE ho.1 ha.1 hb.1 hs⟩
theorem VB {lo hi:Am Bp}{fl fh:DO}{p2:Ek}(he:QE X e fe)(hl:QO X lo fl)(hu:QO X hi fh):QE X (.Subscript e (.Slice lo hi none p2) pos) (dSl fe fl fh):=⟨WJ he.1 hl.1 hu.1⟩
theorem PQ:QO X none xI:=⟨K6⟩
theorem PR (he:QE X e fe):QO X (Ab e) (zR fe):=⟨K7 he.1⟩
theorem ZR:QA X [] qB:=⟨FF⟩
theorem cT (ha:QE X e fa)(hr:QA X es fA)(hs:Bi (e::es) X.env=(false,eval e X.env)::Bi es X.env:=by rfl):QA X (e::es) (qA fa fA):=⟨JS ha.1 hr.1 hs⟩
theorem qcN (G:Def X.prog X.w X.K X.mg X.base cm k x n F)(hr:RoomC cm k X.A)(hF:Fn1 X)(hg:Gl X x)(ha:QA X (e::es) fA)(hdb:(x == ("__debug__" : As))=false)(he:Bi (e::es) X.env=(false,eval e X.env)::Bi es X.env:=by rfl)(hpl:(Fq pos (Bi es X.env)).any (·.1)=false:=by rfl):QE X (.Call (.Name x p) (e::es) [] pos) (qO n F fA):=⟨dcN G hr hF hg ha.1 hdb he hpl⟩
theorem V8 {id:Ed}(hc:ZCall X (.builtin id) F)(hg:Gl X x)(hm:X.mg x=none)(hv:Fl x=Ab (.builtin id))(ha:QA X (e::es) fA)(hn:x ≠ "__name__")(hdb:(x == ("__debug__" : As))=false)(he:Bi (e::es) X.env=(false,eval e X.env)::Bi es X.env:=by rfl)(hpl:(Fq pos (Bi es X.env)).any (·.1)=false:=by rfl):QE X (.Call (.Name x p) (e::es) [] pos) (qK F fA):=⟨WD hc.1 hg hm hv ha.1 hn hdb he hpl⟩
theorem ZU {T:Ed}(hc:ZCall X (.type T) F)(hg:Gl X x)(hm:X.mg x=none)(hv:Fl x=Ab (.type T))(ha:QA X (e::es) fA)(hn:x ≠ "__name__")(hdb:(x == ("__debug__" : As))=false)(he:Bi (e::es) X.env=(false,eval e X.env)::Bi es X.env:=by rfl)(hpl:(Fq pos (Bi es X.env)).any (·.1)=false:=by rfl):QE X (.Call (.Name x p) (e::es) [] pos) (qK F fA):=⟨oX hc.1 hg hm hv ha.1 hn hdb he hpl⟩
theorem mJ {T id:Ed}{name:As}{apos:Ek}{h:D→Aa D→Sto→Res D}(pa:PlainAttrs T)(slot:Slot T name id)(hty:typeOf (.builtin id)=pure (.type "method_descriptor"))(hT:T = "list" ∨ T = "dict" ∨ T = "int" ∨ T = "str")(hm:ZMt X id h)(ho:QE X o fo)(ha:QA X (e::es) fA)
  (hbase:OD o name X.env (eval o X.env)=eval o X.env:=by rfl)
  (hfew:((Fq pos (Bi (e::es) X.env)).all (fun x=>!x.1)&&(backToKw pos (keywordEach [] X.env)).all (fun x=>x.1.isSome)&&decide ((e::es).length+([]:Aa Ye).length+(if ([] : Aa Ye).isEmpty then 0 else 1)<30))=true:=by rfl)
  (hline:(apos.endLine == pos.line)=true:=by rfl) (hs:Bi (e::es) X.env=(false,eval e X.env)::Bi es X.env:=by rfl) (hplain:(Fq pos (Bi es X.env)).any (·.1)=false:=by rfl):QE X (.Call (.Attribute o name apos) (e::es) [] pos) (dBm T h fo fA):=⟨SD pa slot hty hT hm.1 ho.1 ha.1 hbase hfew hline hs hplain⟩
theorem J0 (h:QW X e ta):QT X e ta:=⟨PWD.pt h.1⟩
theorem cX (ha:QT X a ta):QW X (.BoolOp .And [a] pos) ta:=⟨KB ha.1⟩
theorem mK (ha:QT X a ta):QW X (.BoolOp .Or [a] pos) ta:=⟨MC ha.1⟩
theorem X6 (ha:QT X a ta)(hb:QW X (.BoolOp .And (b::rest) pos) tb):QW X (.BoolOp .And (a::b::rest) pos) (lY ta tb):=⟨MB ha.1 hb.1⟩
theorem dH (ha:QT X a ta)(hb:QW X (.BoolOp .Or (b::rest) pos) tb):QW X (.BoolOp .Or (a::b::rest) pos) (bQ ta tb):=⟨SM ha.1 hb.1⟩
theorem LO (ha:QT X a ta):QT X (.UnaryOp .Not a pos) (vN ta):=⟨M9 ha.1⟩
theorem X3 {op:Ss}(ho:ZOp X (Dc op) G2')(ha:QE X a fa)(hb:QE X b fb)(hm:Jv op b=false:=by first|exact jT _|with_unfolding_all rfl):QT X (.Compare a [op] [b] pos) (dTr (d2 G2' fa fb)):=⟨M8 ho.1 ha.1 hb.1 hm⟩
theorem VH {op op':Ss}{g':G2}(ho:ZOp X (Dc op) G2')(ho':ZOp X (Dc op') g')(ha:QE X a fa)(hb:QE X b fb)(hc:QE X c fc)(hm:Vb [op,op'] [b,c]=false:=by with_unfolding_all rfl):QT X (.Compare a [op,op'] [b,c] pos) (dTr (wU G2' g' fa fb fc)):=⟨WT ho.1 ho'.1 ha.1 hb.1 hc.1 hm⟩
theorem X4 (ha:QE X a fa)(he:∀ whole,isTrue a X.env whole=(do let v ← whole;Tf a.pos;holding [v] (truthy v)):=by intro _;rfl):QT X a (dTr fa):=⟨MA ha.1 he⟩
theorem PN (hN:X.N.Nodup)(hi:X.N[m]? = Ab x)(hx:Loc X.env.scope x)(hf:X.fn x=true∨X.env.scope.names.lookup x=Ab .local):QG X (.Name x pos) (gNm m):=⟨K1 hN hi hx hf⟩
theorem cU:QGs X [] uA:=⟨K2⟩
theorem rH {h:DG}{gs:DGs}(h1:QG X e h)(h2:QGs X es gs)(hs:(Gk (e::es) X.env).map (·.2)=assign e X.env::(Gk es X.env).map (·.2):=by rfl):QGs X (e::es) (xJ h gs):=⟨WK h1.1 h2.1 hs⟩
theorem ZZ {kk:Aj}{gs:DGs}(hc:X.calm=true)(h:QGs X es gs)(hn:(Gk es X.env).length=n:=by rfl)(hst:(Gk es X.env).findIdx? (·.1)=none:=by rfl):QG X (.Tuple es kk pos) (gTp n gs):=⟨FX hc h.1 hn hst⟩
theorem LC {h:G3}(ho:QE X o fo)(hi:QE X i fi)(hs:ZSet X h)
  (ha:∀ v,assign (.Subscript o i pos) X.env v=(do
   let ov ← holding [v] (eval o X.env)
   let iv ← holding [v,ov] (eval i X.env)
   Tf pos
   holding [v,ov,iv] (Yb ov iv v)
   release [v,ov,iv] []):=by intro _;rfl):QG X (.Subscript o i pos) (gSb fo fi h):=⟨FW ho.1 hi.1 hs.1 ha⟩
theorem LG {tg:Bp}(ha:QE X e fa):QI X tg e (vS fa):=⟨FY ha.1⟩
theorem VD {tg:Bp}(hg:Gl X "range")(hm:X.mg "range" = none)(ha:QA X (e::es) fA)(hs:Bi (e::es) X.env=(false,eval e X.env)::Bi es X.env:=by rfl)(hpl:(Fq pos (Bi es X.env)).any (·.1)=false:=by rfl):QI X tg (.Call (.Name "range" p) (e::es) [] pos) (yJ fA):=⟨WM hg hm ha.1 hs hpl⟩
theorem X1 {elts:Aa Bp}{x1:Aj}{tpos:Ek}(hg:Gl X "zip")(hm:X.mg "zip" = none)(ha:QA X [e1,e2] fA)(hs:Bi [e1,e2] X.env=(false,eval e1 X.env)::Bi [e2] X.env:=by rfl)(hpl:(Fq pos (Bi [e2] X.env)).any (·.1)=false:=by rfl):QI X (.Tuple elts x1 tpos) (.Call (.Name "zip" p) [e1,e2] [] pos) (t7 fA):=⟨FZ hg hm ha.1 hs hpl⟩
theorem ZS:QB X [] zO:=⟨M2⟩
theorem mI (h:QS X st f):QB X [st] f:=⟨M3 h.1⟩
theorem pZ (h1:QS X st f)(h2:QB X sts g):QB X (st::sts) (qM f g):=⟨K8 h1.1 h2.1⟩
theorem PU (he:QE X e fa)(hs:Lf e none pos.line X.env=pure false:=by rfl):QS X (.Expr e pos) (wD fa):=⟨K9 he.1 hs⟩
theorem X2 (he:QE X e fa):QS X (.Return (Ab e) pos) (z9 fa):=⟨M5 he.1⟩
theorem UZ {as bs:Aa El}(hc:QT X c ta)(ha:QB X as f)(hb:QB X bs g):QS X (.If c as bs pos) (sIf ta f g):=⟨SK hc.1 ha.1 hb.1⟩
theorem VG (hp:ZPass X)(hc:QT X c ta)(hb:QB X body f):QS X (.While c body [] pos) (mO ta f):=⟨WS hp.1 hc.1 hb.1⟩
theorem LI {tg iter:Bp}{fI:DI}{h:DG}(hp:ZPass X)(hc:X.calm=true)(hi:QI X tg iter fI)(hg:QG X tg h)(hb:QB X body f)(hs:∀ x,Fh iter X.env x=pure x:=by intro _;rfl):QS X (.For tg iter body [] pos) (u4 fI h f):=⟨M1 hp.1 hc hi.1 hg.1 hb.1 hs⟩
theorem LK {pos':Ek}(hN:X.N.Nodup)(he:QE X e fa)(hi:X.N[m]? = Ab x)(hx:Loc X.env.scope x)(hs:Lf e (Ab (.Name x pos')) pos.line X.env=pure false)(hf:X.fn x=true∨X.env.scope.names.lookup x=Ab .local):QS X (.Assign [.Name x pos'] e pos) (qS fa (gNm m)):=⟨M6 hN he.1 hi hx hs hf⟩
theorem LH {tg:Bp}{h:DG}(he:QE X e fa)(hg:QG X tg h)(hs:Jt [tg] e pos.line X.env=pure false:=by rfl)(hw:Js [tg] e X.env=pure none:=by rfl)(h1:(Gk [tg] X.env).map (·.2)=[assign tg X.env]:=by rfl):QS X (.Assign [tg] e pos) (qS fa h):=⟨M0 he.1 hg.1 hs hw h1⟩
theorem LJ {l:Aj}{y:As}{px pt:Ek} {kt k2 pt2} (hc:X.calm=true) (hN:X.N.Nodup) (ha:QA X [a,b] fA) (hi:X.N[m]? = Ab x) (hj:X.N[l]? = Ab y) (hij:m≠l) (hx:X.env.scope.names.lookup x=Ab .local) (hy:X.env.scope.names.lookup y=Ab .local)
  (hw:Js [.Tuple [.Name x px,.Name y py] kt pt] (.Tuple [a,b] k2 pt2) X.env=pure (Ab [x,y]):=by rfl) (hs:Jt [.Tuple [.Name x px,.Name y py] kt pt] (.Tuple [a,b] k2 pt2) pos.line X.env=pure false:=by rfl) :
  QS X (.Assign [.Tuple [.Name x px,.Name y py] kt pt] (.Tuple [a,b] k2 pt2) pos) (uU m l fA):=⟨M4 hc hN ha.1 hi hj hij hx hy hw hs⟩
theorem VF {Ae:Af}{np cpos:Ek}(hc:X.calm=true)(hF:Fn1 X)(hg:Gl X x)(hm:X.mg x=Ab (.ref C))(hx:bP X.K C Ae=true)(ha:QA X (e::rest) fA)(hdb:(x == ("__debug__" : As))=false)(he:Bi (e::rest) X.env=(false,eval e X.env)::Bi rest X.env:=by rfl)(hpl:(Fq cpos (Bi rest X.env)).any (·.1)=false:=by rfl) :
  QS X (.Raise (Ab (.Call (.Name x np) (e::rest) [] cpos)) none pos) (jY (.ref C) fA):=⟨WR hc hF hg hm hx ha.1 hdb he hpl⟩
theorem LN {nm:As}{C0:Af}{b₀:El}{suite:Aa El}{np hpos:Ek}{cs:Aa Ac}(hF:Fn1 X)(hb:∀ E pn,ZPass (Cx.tryIn X E pn)→QB (Cx.tryIn X E pn) body f)(hs:∀ e,QB (Cx.suite X e) (b₀::suite) g)(hg:Gl X x)(hm:X.mg x=Ab (.ref C0))(hcs:∀ c∈cs,Il X.K c (.ref C0)=Ab true)(hN:X.N.Nodup)(hi:X.N[m]? = Ab nm)(hlo:X.env.scope.names.lookup nm=Ab .local)(hdb:(x == ("__debug__" : As))=false)(hn:X.N.length=n) :
  QS X (.Try body [.ExceptHandler (Ab (.Name x np)) (Ab nm) (b₀::suite) hpos] [] [] pos) (fE n m cs f g):=⟨hn▸M7 hF (fun E pn hp=>(hb E pn ⟨hp⟩).1) (fun e=>(hs e).1) hg hm hcs hN hi hlo hdb⟩
theorem EL:ZOp X (Dz .Add) qU:=⟨N4⟩
theorem EZ:ZOp X (Dz .Sub) zW:=⟨NA⟩
theorem ET:ZOp X (Dz .Mult) zN:=⟨cR⟩
theorem EM:ZOp X (Dz .FloorDiv) bT:=⟨N5⟩
theorem ES:ZOp X (Dz .Mod) jH:=⟨N8⟩
theorem EW:ZOp X (Dz .Pow) Y3:=⟨N9⟩
theorem A6:ZOp X (Dc .Lt) gLt:=⟨UW⟩
theorem A5:ZOp X (Dc .LtE) gLe:=⟨RT⟩
theorem A3:ZOp X (Dc .GtE) gGe:=⟨RQ⟩
theorem DN:ZOp X (Dc .Is) gIs:=⟨RS⟩
theorem DM (hr:RoomC cm k X.A):ZOp X (Dc .Eq) gEq:=⟨RP hr.units⟩
theorem DU (hr:RoomC cm k X.A):ZOp X (Dc .NotEq) gNe:=⟨UX hr.units⟩
theorem EU (hr:RoomC cm k X.A):ZOp X (Dc .NotEq) (pP gNe):=⟨OpD.look (UX hr.units)⟩
theorem EV:ZUn X (Vu .USub) jI:=⟨D8⟩
theorem A4:ZIx X gIx:=⟨CA⟩
theorem JG:ZCall X (.builtin "isinstance") zY:=⟨oJ⟩
theorem DP {cl:Aa Af}(h:ClsK X.K cl):ZCall X (.builtin "isinstance") (zM cl):=⟨JJ h⟩
theorem JH:ZCall X (.builtin "len") xP:=⟨JL⟩
theorem JF (hc:X.calm=true):ZCall X (.builtin "all") (jG false):=⟨F7 false hc⟩
theorem EO:ZCall X (.type "int") iE:=⟨F8⟩
theorem BQ:ZCall X (.type "tuple") yD:=⟨W4⟩
theorem DQ:ZCall X (.type "list") fU:=⟨JM⟩
theorem U4:ZMt X "list.append" x9:=⟨Z5⟩
theorem BN:ZMt X "list.count" fV:=⟨YO⟩
theorem BO:ZMt X "list.index" fW:=⟨YQ⟩
theorem EY (hr:RoomC cm k X.A):ZSet X yG:=⟨LS (hu1 hr)⟩
end
section
variable {P:Be}{w:Bt}{K:Ai}{mg:As→Am Ac}{base:Bk}{cm:Ar}
theorem aK {qual:As}{scope:Ei}{f:Af}{cd:Ac}{A:Bu}{outer:Aa Ht}{s:Ag}{H:Hp}{E:XK}:ZPass (cxC cm P w K mg base N qual scope f cd A outer s H E):=⟨WA⟩
theorem HP {x:As}{st:El}{ps:Aa As}{k:Aj}{g:DS}(h:Src K mg x st ps)(S:FnScope N ps (qH st))(hbd:zH st=body)
  (hbody:∀ (f:Af) (cdv:Ac) (A:Bu) (outer:Aa Ht) (s:Ag) (H:Hp) (E:XK),kE K x cdv→RoomC cm k (A.deeper (Fv x (qH st) s.heap.objs.size f cdv)) →
   QB (cxC cm P w K mg base N x (qH st) f cdv A outer s H E) body g):Def P w K mg base cm (k+1) x ps.length (qT N.length g):=
 FV h S fun f cdv A outer s H E hc hr=>hbd▸(hbody f cdv A outer s H E hc hr).1
theorem SI {x:As}{st:El}{ps:Aa As}{k:Aj}{g:DS}(h:Src K mg x st ps)(S:FnScope N ps (qH st))(hbd:zH st=body)
  (hbody:∀ (f:Af) (cdv:Ac) (A:Bu) (outer:Aa Ht) (s:Ag) (H:Hp) (E:XK),kE K x cdv→RoomC cm k (A.deeper (Fv x (qH st) s.heap.objs.size f cdv)) →
   QB (cxC cm P w K mg base N x (qH st) f cdv A outer s H E) body g):dO P w K mg base cm (k+1) x ps (qT N.length g):=
 K0 h S fun f cdv A outer s H E hc hr=>hbd▸(hbody f cdv A outer s H E hc hr).1
theorem JZ {x:As}{st:El}{ps:Aa As}(h:Src K mg x st ps):Def P w K mg base cm 0 x ps.length fun _ _=>.bad:=by
 obtain⟨f,fd,hm,F,hb⟩:=h;exact⟨f,fd,ps,rfl,hm,F.kp,hb,pO F,⟨fun vs H Q E z=>z.1,fun A outer s H args us vs Q E _ _ _ _ z=>by obtain⟨_,_,_,_,_,_,_,z⟩:=z;exact An z⟩⟩
end
structure QTs (X:Cx)(ifs:Aa Bp)(t:DT):Prop where
 get:PTs X ifs t
section
variable {X:Cx}{elt tg iter e:Bp}{ifs es:Aa Bp}{scope:Ei}{pos p:Ek}{N':Aa As}{cap:Aa (Am Aj)}{fi:DI}{g:DG}{t u:DT}{fe:DE}{fa:DA}{x:As}{cm:Ar}{k n:Aj}{F:DF}
theorem cW:QTs X [] wM:=⟨KA⟩
theorem qcO (G:Def X.prog X.w X.K X.mg X.base cm k x n F)(hr:RoomC cm k X.A)(hg:Gl X x)(ha:QA X (e::es) fa)(hdb:(x == ("__debug__" : As))=false)(he:Bi (e::es) X.env=(false,eval e X.env)::Bi es X.env:=by rfl)(hpl:(Fq pos (Bi es X.env)).any (·.1)=false:=by rfl) :
  QE X (.Call (.Name x p) (e::es) [] pos) (qO n (okO F) fa):=⟨dcO G hr hg ha.1 hdb he hpl⟩
end
def stn (o:Am (Aj × MO))(S:Sto):Prop:=match o with
 |none=>Je
 |some p=>S[p.1]? = Ab p.2
open Classical in
def o2 (o:Am (Aj × MO))(S:Sto):Ar:=decide (stn o S)
theorem uX {o:Am (Aj × MO)}{S:Sto}:o2 o S=true↔stn o S:=by simp[o2]
structure ItD2 (K:Ai)(J:It)(P:Hp)(α : Aa Af)(o:Am (Aj × MO))(ds:Aa D):Prop where
 go:∀ i H P1 α1 S,i<ds.length→Rel K H P1 α1 S→stn o S→qE P P1→α<+:α1→J.go i H
 yld:∀ i H x H' P1 α1 S,i<ds.length→Rel K H P1 α1 S→stn o S→qE P P1→α<+:α1→J.yld i H x H'→∃ P2 d,ds[i]? = Ab d∧Rel K H' P2 α1 S∧qE P1 P2∧Rep K P2 α1 d x
 stop:∀ i H P1 α1 S,ds.length≤i→Rel K H P1 α1 S→stn o S→qE P P1→α<+:α1→J.stop i H
theorem ItD.two {K:Ai}{J:It}{P:Hp}{α:Aa Af}(h:ItD K J P α ds):ItD2 K J P α none ds:=
 ⟨fun i H P1 α1 S a b _ c d=>h.go i H P1 α1 S a b c d,fun i H x H' P1 α1 S a b _ c d e=>h.yld i H x H' P1 α1 S a b c d e,fun i H P1 α1 S a b _ c d=>h.stop i H P1 α1 S a b c d⟩
abbrev DI2:=qG→Sto→Res (Am (Aj × MO) × Aa D)
inductive tDI2 (X:Cx)(f:DI2)(σ : _L.St)(H:Hp)(R:It→Hp→Prop):Prop
 |mk (P:Hp) (α : Aa Af) (env:qG) (S:Sto) (r:Rel X.K H P α S) (re:qZ X.K P α σ env) (af:qI X P α (f env S) (fun p S'=>∀ J H' P' α',Rel X.K H' P' α' S'→qE P P'→α<+:α'→ItD2 X.K J P' α' p.1 p.2→R J H')):tDI2 X f σ H R
def xT (f:DI):DI2:=fun env S=>(f env S).bind fun ds S1=>.ok (none,ds) S1
section
variable {X:Cx}{K:Ai}{tg e:Bp}{fa:DE}{pos:Ek}
theorem K4 {f:DI}(h:PI X tg e (tDI X f)):PI X tg e (tDI2 X (xT f)):=PI.weak h fun σ H R ⟨P,α,env,S,r,re,af⟩=>by
 refine⟨P,α,env,S,r,re,?_⟩;unfold xT at af;cases q:f env S with
 |bad=>rw[q] at af;exact af
 |ex c x S'=>rw[q] at af;exact af
 |ok ds S1 =>
  rw[q] at af;exact fun J H' P' α' r' e1 e2 it=>af J H' P' α' r' e1 e2 it.two
theorem KW {P:Hp}{α:Aa Af}{a:Af}{n:Aj}(hα:α[n]? = Ab a):ItD2 K (Itl K a) P α (Ab (n,.lst ds)) ds where
 go:=fun i H P1 α1 S hi r st e e2=>by
  obtain⟨vs,z,t⟩:=r.at' n a _ (pX e2 hα) st;exact⟨vs,vs[i]'(by rw[← t.length];exact hi),.of z,by simp⟩
 yld:=fun i H x H' P1 α1 S hi r st e e2 y=>by
  obtain⟨rfl,y⟩:=y;obtain⟨vs,z,t⟩:=r.at' n a _ (pX e2 hα) st;have hx:=y vs (.of z);obtain⟨v,h1,h2⟩:=t.get (Ap hi);rw[hx] at h1;cases h1;exact⟨P1,_,Ap hi,r,qE.refl _,h2⟩
 stop:=fun i H P1 α1 S hi r st e e2=>by
  obtain⟨vs,z,t⟩:=r.at' n a _ (pX e2 hα) st;exact⟨vs,.of z,by rw[← t.length];exact hi⟩
def itD (d:D)(S:Sto):Res (Am (Aj × MO) × Aa D):=match d with
 |.tup xs=>.ok (none,xs) S
 |.lst xs=>.ok (none,xs) S
 |.loc n=>match S[n]? with
  |some (.lst xs)=>.ok (Ab (n,.lst xs),xs) S
  |_=>.bad
 |_=>.bad
def dIt (f:DE):DI2:=fun env S=>(f env S).bind fun d S1=>itD d S1
theorem SJ (ha:PE X e (tD X fa)):PI X tg e (tDI2 X (dIt fa)):=by
 intro pins s σ H R I h;obtain⟨P,α,env,S,r,re,af⟩:=h;refine thn (zL ha I r re af) fun vv s1 ⟨v,H1,P1,α1,d,S1,G1,af1⟩=>?_;have seq:∀ ds,zV d=Ab ds→(∀ J H' P' α',Rel X.K H' P' α' S1→qE P P'→α<+:α'→ItD2 X.K J P' α' none ds→R J H')→Ao (Au X.prog X.w) X.A (Mv vv) (PIE X pins σ tg R) X.xe s1:=fun ds e1 q =>
  sU G1.inv G1.rel G1.val G1.rep e1 fun J H' P' α' r' h1 h2 it=>q J H' P' α' r' (G1.same.trans h1) (G1.pre.trans h2) it.two
 cases d with
 |tup xs=>exact seq xs rfl af1
 |lst xs=>exact seq xs rfl af1
 |loc n =>
  obtain⟨xs,hS,af1⟩:=uS (X:=X) (f:=fun xs=>Res.ok (Ab (n,MO.lst xs),xs) S1) af1;have rp:=G1.rep;simp only[Rep] at rp;obtain⟨a,rfl,ha⟩:=rp;cases (show vv=Cb a from G1.val)
  obtain⟨vs,z,t⟩:=G1.rel.at' n a _ ha hS;obtain⟨its,rv,p,hz⟩:=G1.inv.list (SqL.of z);refine Ga p.isList ?_;refine⟨s1.heap.objs.size,[s1.heap.objs.size],_,_,H1,rfl,G1.inv.kept (t':=s1.toks) fun b o e=>Ah _ e,lS a _,⟨_,Ba _ rfl,rfl,rfl⟩,fun b hb=>?_,af1 _ _ P1 α1 G1.rel G1.same G1.pre (KW ha)⟩;have e:b=s1.heap.objs.size:=by simpa using hb
  subst e;exact G1.inv.fpOk (Az _) (G1.inv.hok.fresh (Az _))
 |_=>exact An af1
end
def xC (elt:Bp)(gens:Aa Fd)(scope:Ei)(pos:Ek)(k:Aj)(acc:Ac)(env:Ht):Me Ow:=
 match gens[k+1]? with
 |some g'=>do
  let x ← eval g'.iter env
  Tf g'.iter.pos
  let x ← Fh g'.iter env x
  let it ← holding [x] (Mv x)
  let _ ← runOwn (.compStart (.ListComp elt gens scope pos) (k+1) it acc env) env
 |none=>do let _ ← call (.builtin "list.append") [acc,← eval elt env]
theorem U0 (elt target iter:Bp)(ifs:Aa Bp)(gens:Aa Fd)(scope:Ei)(pos:Ek)(it acc:Ac)(env:Ht)(k:Aj)(hg:gens[k]? = Ab ⟨target,iter,ifs,0⟩)(ha:∀ g',gens[k+1]? = Ab g'→g'.is_async=0) :
  compTurn (.ListComp elt gens scope pos) k it acc env=(do
   Tf iter.pos
   match ← Ky it with
   |none=>pure (.done .next)
   |some v =>
    IN target it v
    assign target env v
    let mut ok:=true
    for c in ifs do
     if ok then ok ← isTrue c env (eval c env)
    if ok then xC elt gens scope pos k acc env
    again (.compLoop (.ListComp elt gens scope pos) k it acc env)):=by
 unfold compTurn xC;simp only[hg];cases q:gens[k+1]? with
 |none=>rfl
 |some g' =>
  have h0:=ha g' q;have e0:(g'.is_async != 0)=false:=by rw[h0];rfl
  simp only[e0,Br,DL,bind_assoc,pure_bind];rfl
abbrev DK:=qG→Sto→Aa D→Res (qG × Aa D)
def goL (o:Am (Aj × MO))(g:DG)(t:DT)(k:DK):Aa D→DK
 |[],env,S,acc=>if o2 o S then .ok (env,acc) S else .bad
 |d::ds,env,S,acc=>if o2 o S then (g d env S).bind fun env1 S1=>(t env1 S1).bind fun b S2 =>
   if b then (k env1 S2 acc).bind fun p S3=>goL o g t k ds p.1 S3 p.2 else goL o g t k ds env1 S2 acc
  else .bad
def zT (fe:DE):DK:=fun env S acc=>(fe env S).bind fun x S1=>if acc.length<lim then .ok (env,acc++[x]) S1 else .bad
def UB (Y:Cx)(pins:Aa (Af × Cg))(P1:Hp)(α1:Aa Af)(acc:Af)(env:qG)(S:Sto)(ds:Aa D)(s:Ag):Prop:=
 ∃ σ H P α o,TurnSt Y pins P1 α1 [] acc env S ds s σ H P α o
def PK (Y:Cx)(step:Ac→Me Ow)(k:DK):Prop:=
 ∀ (pins:Aa (Af × Cg)) (P1:Hp) (α1:Aa Af) (acc:Af) (env env':qG) (S S':Sto) (ds ds':Aa D) (s:Ag),(∀ H:Hp,H acc=none→xH Y pins H acc)→UB Y pins P1 α1 acc env S ds s→k env S ds=.ok (env',ds') S' →
  Ao (Au Y.prog Y.w) Y.A (step (.ref acc)) (fun _ s'=>UB Y pins P1 α1 acc env' S' ds' s') (fun _ _=>Ev) s
section
variable {Y:Cx}{elt tg iter:Bp}{ifs:Aa Bp}{gens:Aa Fd}{scope:Ei}{pos:Ek}{k:Aj}{g:DG}{t:DT}{fe:DE}{it acc:Af}{fp:Aa Af}{J:It}{tn:Aj→Bk→Prop}{items:Aa D}{P1:Hp}{α1:Aa Af}{pins:Aa (Af × Cg)}
theorem QC {X:Cx}{H:Hp}{b:Af}{h:Bk}(f:xH X pins H b)(hn:b ∉ fp):xH X (pins++yX fp h) H b:=by
 obtain⟨f0,f1,f2,f3,f4,f5⟩:=f;refine⟨f0,f1,f2,f3,f4,fun p hp=>?_⟩;rcases Co.mp hp with z|z
 ·exact f5 p (Dd _ z)
 ·rcases Co.mp z with z|z
  ·exact f5 p (Bv _ z)
  ·rintro rfl
   exact hn (lG z).1
theorem Res.bind_inv {β γ:Type}{r:Res β}{f:β→Sto→Res γ}{x:γ}{S:Sto}(h:r.bind f=.ok x S):∃ b S1,r=.ok b S1∧f b S1=.ok x S:=by
 cases r with
 |ok b S1=>exact⟨b,S1,rfl,h⟩
 |_=>cases h
inductive GoC (o:Am (Aj × MO))(g:DG)(t:DT)(k:DK)(d:D)(ds acc:Aa D)(env:qG)(S SF:Sto)(x:qG × Aa D):Prop
 |no (env1:qG) (S1 S2:Sto) (z:stn o S) (q1:g d env S=.ok env1 S1) (q2:t env1 S1=.ok false S2) (r:goL o g t k ds env1 S2 acc=.ok x SF):GoC o g t k d ds acc env S SF x
 |yes (env1:qG) (S1 S2:Sto) (env5:qG) (ds5:Aa D) (S5:Sto) (z:stn o S) (q1:g d env S=.ok env1 S1) (q2:t env1 S1=.ok true S2) (q3:k env1 S2 acc=.ok (env5,ds5) S5) (r:goL o g t k ds env5 S5 ds5=.ok x SF):GoC o g t k d ds acc env S SF x
set_option tactic.hygienic true in
theorem Y4 {o:Am (Aj × MO)}{k:DK}{d:D}{acc:Aa D}{S:Sto}{x:qG × Aa D}(h:goL o g t k (d::ds) env S acc=.ok x SF):GoC o g t k d ds acc env S SF x:=by
 simp only[goL] at h
 split at h
 ·rename_i z
  obtain⟨env1,S1,q1,h⟩:=Res.bind_inv h;obtain⟨b,S2,q2,h⟩:=Res.bind_inv h;cases b with
  |false=>exact .no env1 S1 S2 (uX.mp z) q1 q2 h
  |true =>
   obtain⟨⟨env5,ds5⟩,S5,q3,h⟩:=Res.bind_inv h;exact .yes env1 S1 S2 env5 ds5 S5 (uX.mp z) q1 q2 q3 h
 ·cases h
set_option tactic.hygienic true in
theorem KM {o:Am (Aj × MO)}{k:DK}{acc:Aa D}{S:Sto}(h:goL o g t k [] env S acc=.ok (envF,dsF) SF):stn o S∧env=envF∧acc=dsF∧S=SF:=by
 simp only[goL] at h
 split at h
 ·rename_i z
  cases h;exact⟨uX.mp z,rfl,rfl,rfl⟩
 ·cases h
inductive LpI (Y:Cx)(pins:Aa (Af × Cg))(P1:Hp)(α1:Aa Af)(fp:Aa Af)(acc:Af)(tn:Aj→Bk→Prop)(G:Aa D→DK)(items:Aa D)(x:qG × Aa D)(SF:Sto)(n:Aj)(s:Ag):Prop
 |mk (i:Aj) (σ : _L.St) (H P:Hp) (α : Aa Af) (o:Cg) (env:qG) (S:Sto) (ds:Aa D) (hn:n=items.length-i) (hi:i≤items.length) (st:TurnSt Y pins P1 α1 fp acc env S ds s σ H P α o) (st1:tn i s.heap) (run:G (items.drop i) env S ds=.ok x SF):LpI Y pins P1 α1 fp acc tn G items x SF n s
theorem BH {M:Ls}{A:Bu}{Q:Fin→Ag→Prop}{E:Ac→Ag→Prop}{s:Ag}{it acc:Ac}{en:Ht}(hgk:gens[k]? = Ab ⟨tg,iter,ifs,0⟩)(has:∀ g',gens[k+1]? = Ab g'→g'.is_async=0)
  (ha:∀ s,Qa s→Q (.again (.compLoop (.ListComp elt gens scope pos) k it acc en)) s) (hd:∀ s,Qd s→Q (.done .next) s)
  (h:Ao M A (Ky it) (fun r s1=>(r=none→Qd s1)∧∀ v,r=Ab v→Ao M A (IN tg it v) (fun _ s2=>Ao M A (assign tg en v) (fun _ s3=>Ao M A (kB ifs en) (fun b s4=>(b=false→Qa s4)∧(b=true→Ao M A (xC elt gens scope pos k acc en) (fun _ s5=>Qa s5) E s4)) E s3) E s2) E s1) E s) :
  Ao M A (compTurn (.ListComp elt gens scope pos) k it acc en) Q E s:=by
 rw[U0 elt tg iter ifs gens scope pos it acc en k hgk has];refine Ad (Ox (Ad (thn h fun r s1 ⟨h0,h1⟩=>?_)));cases r with
 |none=>exact Ak (hd _ (h0 rfl))
 |some v =>
  refine Ad (thn (h1 v rfl) fun _ s2 h2=>Ad (thn h2 fun _ s3 h3=>Ad (thn h3 fun b s4 h4=>?_)));cases b with
  |false=>exact Ak (ha _ (h4.1 rfl))
  |true=>exact Ad (thn (h4.2 rfl) fun _ s5 h5=>Ak (ha _ h5))
theorem KJ (hfp:∀ H:Hp,(∀ b∈fp,H b=none)→∀ b∈fp,xH Y pins H b)(hne:acc ∉ fp)(o:Cg)(H':Hp)(hn:∀ b∈fp,H' b=none):∀ b∈fp,xH Y (pins++[(acc,o)]) H' b:=fun b hb=>by
 obtain⟨f0,f1,f2,f3,f4,f5⟩:=hfp H' hn b hb;refine⟨f0,f1,f2,f3,f4,fun p hp=>?_⟩;rcases Co.mp hp with z|z
 ·exact f5 p (Dd _ z)
 ·rcases Co.mp z with z|z
  ·exact f5 p (Bv _ z)
  ·rw[Dh.mp z]
   rintro rfl;exact hne hb
theorem jC {i:Aj}{h:Bk}(T:Turn Y.prog Y.w Y.K tg J fp it tn)(st2:tn (i+1) h)(pl:∀ b∈fp,∃ o,h.get? b=Ab o∧∀ v,o.data≠.cell v){s5:Ag}{σ5:_L.St}{H5:Hp}(I5:Inv Y (pins++yX fp h) σ5 H5 s5):tn (i+1) s5.heap∧(∀ b∈fp,H5 b=none):=by
 refine⟨T.keep _ _ _ st2 fun b hb o' e=>(I5.pin (b,o') (Bv _ (Bv _ (uC hb e)))).1,fun b hb=>?_⟩;obtain⟨o',e,d'⟩:=pl b hb;exact(I5.pin (b,o') (Bv _ (Bv _ (uC hb e)))).2.1
theorem i8 {kk:DK}{E:Ac→Ag→Prop}{s:Ag}{σ:_L.St}{H P:Hp}{α:Aa Af}{S:Sto}{o:Cg}{i:Aj}(hc:Y.calm=true)(hx:Y.xe=fun _ _=>Ev)
  (T:Turn Y.prog Y.w Y.K tg J fp it tn) (hit:ItD2 Y.K J P1 α1 o' items) (hg:PG Y tg (tDG Y g)) (ht:PTs Y ifs t) (he:PK Y (fun acc=>xC elt gens scope pos k acc Y.env) kk) (hacc:∀ H:Hp,H acc=none→xH Y pins H acc) (hfp:∀ H:Hp,(∀ b∈fp,H b=none)→∀ b∈fp,xH Y pins H b) (hne:acc ∉ fp)
  (hi:i≤items.length) (st:TurnSt Y pins P1 α1 fp acc env S ds s σ H P α o) (st1:tn i s.heap) (run:goL o' g t kk (items.drop i) env S ds=.ok (envF,dsF) SF)
  (hA:∀ s' σ' H' P' α' o1 env1 S' ds',i<items.length→TurnSt Y pins P1 α1 fp acc env1 S' ds' s' σ' H' P' α' o1→tn (i+1) s'.heap→goL o' g t kk (items.drop (i+1)) env1 S' ds'=.ok (envF,dsF) SF→Qa s')
  (hD:∀ s' σ' H' P' α' o',TurnSt Y pins P1 α1 fp acc envF SF dsF s' σ' H' P' α' o'→Qd s') :
  Ao (Au Y.prog Y.w) Y.A (Ky (.ref it)) (fun r s1=>(r=none→Qd s1)∧∀ v,r=Ab v→Ao (Au Y.prog Y.w) Y.A (IN tg (.ref it) v) (fun _ s2=>Ao (Au Y.prog Y.w) Y.A (assign tg Y.env v) (fun _ s3=>Ao (Au Y.prog Y.w) Y.A (kB ifs Y.env) (fun b s4=>(b=false→Qa s4)∧(b=true→Ao (Au Y.prog Y.w) Y.A (xC elt gens scope pos k (.ref acc) Y.env) (fun _ s5=>Qa s5) E s4)) E s3) E s2) E s1) E s:=by
 have I1:=_D.Inv.pin1 st.inv (hacc H st.acn) st.at' st.acc.cell;have fp1:=KJ hfp hne o;by_cases hlt:i<items.length
 ·have hdr:items.drop i=items[i]::items.drop (i+1):=O9 hlt
  rw[hdr] at run;have run:=Y4 run;have hst:stn o' S:=by cases run with|no _ _ _ z=>exact z|yes _ _ _ _ _ _ z=>exact z
  refine fJ (T.item Y rfl rfl rfl hc i _ s σ H (fun _ _=>Ev) I1 (fp1 H st.fpn) st1 (hit.go i H P α S hlt st.rel hst st.same st.pre)) fun r s1 ⟨u,hr,h1⟩=>⟨fun z=>(by rw[hr] at z;cases z),fun v hv=>?_⟩
  obtain rfl:v=u:=Cm (hv.symm.trans hr);refine fJ h1 fun _ s2 ⟨x,H2,I2,rx,y,st2,fr2⟩=>?_;obtain⟨P2,d,hd,r2,e2,rp⟩:=hit.yld i H x H2 P α S hlt st.rel hst st.same st.pre y;cases (Ap hlt).symm.trans hd;have pl:=T.obj _ _ st2;have I2':=I2.pinned (fp1 _ fr2) pl;have two:∀ env1 S1 b S2,g items[i] env S=.ok env1 S1→t env1 S1=.ok b S2→(∀ s4 σ3 H4 P4 α4 (I4:Inv Y (pins++yX fp s2.heap) σ3 H4 s4),TurnSt Y pins P1 α1 fp acc env1 S2 ds s4 σ3 H4 P4 α4 o→tn (i+1) s4.heap→(b=false→Qa s4)∧(b=true→Ao (Au Y.prog Y.w) Y.A (xC elt gens scope pos k (.ref acc) Y.env) (fun _ s5=>Qa s5) E s4))→Ao (Au Y.prog Y.w) Y.A (assign tg Y.env v) (fun _ s3=>Ao (Au Y.prog Y.w) Y.A (kB ifs Y.env) (fun b s4=>(b=false→Qa s4)∧(b=true→Ao (Au Y.prog Y.w) Y.A (xC elt gens scope pos k (.ref acc) Y.env) (fun _ s5=>Qa s5) E s4)) E s3) E s2:=by
   intro env1 S1 b S2 q1 q2 next;refine fJ (hx▸CM hg I2' r2 (st.env.mono e2 (Bb _)) rx rp q1) fun _ s3 ⟨σ3,H3,P3,α3,I3,r3,re3,e3,e3'⟩=>?_;refine fJ (hx▸RZ ht I3 r3 re3 q2) fun b' s4 ⟨hb,H4,P4,α4,I4,r4,re4,e4,e4'⟩=>?_;have I4':Inv Y (pins++yX fp s2.heap) σ3 H4 s4:=I4.pins_of fun p hp=>I4.pin p (Bv _ ((Co.mp hp).elim (fun z=>Dd _ (Dd _ z)) fun z=>Bv _ z));have a4:=I4.pin (acc,o) (Bv _ (Dd _ (Bv _ (Dh.mpr rfl))));rw[hb];exact next s4 σ3 H4 P4 α4 I4' ⟨I4'.unpinned,r4,re4,((st.same.trans e2).trans e3).trans e4,(st.pre.trans e3').trans e4',(jC T st2 pl I4').2,a4.2.1,a4.1,st.acc.mono ((e2.trans e3).trans e4) (e3'.trans e4')⟩ (jC T st2 pl I4').1
  cases run with
  |no env1 S1 S2 _ q1 q2 run=>exact two env1 S1 false S2 q1 q2 fun s4 σ3 H4 P4 α4 I4 st4 tn4=>⟨fun _=>hA s4 σ3 H4 P4 α4 o env1 S2 ds hlt st4 tn4 run,fun z=>(by cases z)⟩
  |yes env1 S1 S2 env5 ds5 S5 _ q1 q2 q3 run =>
   refine two env1 S1 true S2 q1 q2 fun s4 σ3 H4 P4 α4 I4 st4 tn4=>⟨fun z=>(by cases z),fun _=>?_⟩
   refine fJ (he (pins++yX fp s2.heap) P1 α1 acc env1 env5 S2 S5 ds ds5 s4 (fun H hn=>QC (hacc H hn) hne) ⟨σ3,H4,P4,α4,o,I4,st4.rel,st4.env,st4.same,st4.pre,fun b hb=>(by cases hb),st4.acn,st4.at',st4.acc⟩ q3) fun _ s5 ⟨σ5,H5,P5,α5,o5,T5⟩=>?_
   exact hA s5 σ5 H5 P5 α5 o5 env5 S5 ds5 hlt ⟨T5.inv.unpinned,T5.rel,T5.env,T5.same,T5.pre,(jC T st2 pl T5.inv).2,T5.acn,T5.at',T5.acc⟩ (jC T st2 pl T5.inv).1 run
 ·rw[Ln om] at run
  obtain⟨z,rfl,rfl,rfl⟩:=KM run;refine fJ (T.done Y rfl rfl rfl hc i _ s σ H (fun _ _=>Ev) I1 (fp1 H st.fpn) st1 (hit.stop i H P α _ om st.rel z st.same st.pre)) fun r s1 ⟨hr,I2⟩=>⟨fun _=>?_,fun v hv=>(by rw[hr] at hv;cases hv)⟩
  have a:=_D.Inv.pinned1 I2;exact hD s1 σ H P α o ⟨I2.unpinned,st.rel,st.env,st.same,st.pre,st.fpn,a.2,a.1,st.acc⟩
theorem i7 {kk:DK}{R:Vy→Ag→Prop}{s:Ag}{σ:_L.St}{H P:Hp}{α:Aa Af}{S:Sto}{ds0:Aa D}{o:Cg}(hc:Y.calm=true)(hx:Y.xe=fun _ _=>Ev)(hgk:gens[k]? = Ab ⟨tg,iter,ifs,0⟩)(has:∀ g',gens[k+1]? = Ab g'→g'.is_async=0)
  (T:Turn Y.prog Y.w Y.K tg J fp it tn) (hit:ItD2 Y.K J P1 α1 o' items) (hg:PG Y tg (tDG Y g)) (ht:PTs Y ifs t) (he:PK Y (fun acc=>xC elt gens scope pos k acc Y.env) kk) (hacc:∀ H:Hp,H acc=none→xH Y pins H acc) (hfp:∀ H:Hp,(∀ b∈fp,H b=none)→∀ b∈fp,xH Y pins H b) (hne:acc ∉ fp)
  (st:TurnSt Y pins P1 α1 fp acc env S ds0 s σ H P α o) (st0:tn 0 s.heap) (run:goL o' g t kk items env S ds0=.ok (envF,dsF) SF)
  (hR:∀ s' σ' H' P' α' o',TurnSt Y pins P1 α1 fp acc envF SF dsF s' σ' H' P' α' o'→R (.ok .next) s') :
  Ic (Au Y.prog Y.w) Y.A (.compLoop (.ListComp elt gens scope pos) k (.ref it) (.ref acc) Y.env) R s:=by
 refine codeAny_loop rfl (LpI Y pins P1 α1 fp acc tn (goL o' g t kk) items (envF,dsF) SF) (fun n s hI=>?_) items.length ⟨0,σ,H,P,α,o,env,S,ds0,rfl,Gx _,st,st0,run⟩;obtain⟨i,σ,H,P,α,o,env,S,ds,hn,hi,st,st1,run⟩:=hI;subst hn;refine wpAny_noted (BH hgk has (Qa:=fun s'=>∃ m,m<items.length-i∧LpI Y pins P1 α1 fp acc tn (goL o' g t kk) items (envF,dsF) SF m s') (Qd:=R (.ok .next)) (fun _ h=>⟨rfl,h⟩) (fun _ h=>h) ?_);exact i8 hc hx T hit hg ht he hacc hfp hne hi st st1 run (fun s' σ' H' P' α' o1 env1 S' ds' hlt st' tn' run'=>⟨_,Nat.sub_succ_lt_self _ _ hlt,i+1,σ',H',P',α',o1,env1,S',ds',rfl,hlt,st',tn',run'⟩) hR
set_option tactic.hygienic true in
theorem GZ (hx:Y.xe=fun _ _=>Ev)(hlast:gens[k+1]? = none)(he:PE Y elt (tD Y fe)):PK Y (fun acc=>xC elt gens scope pos k acc Y.env) (zT fe):=by
 intro pins P1 α1 acc env env' S S' ds ds' s hacc ⟨σ,H,P,α,o,st⟩ run;show Ao _ _ (xC elt gens scope pos k (.ref acc) Y.env) _ _ s;unfold xC;rw[hlast];dsimp only;unfold zT at run;cases q3:fe env S with
 |bad=>rw[q3] at run;cases run
 |ex c z S'=>rw[q3] at run;cases run
 |ok d5 S5 =>
  rw[q3,Res.bind_ok] at run
  split at run
  ·rename_i hlen
   cases run;have fA:=hacc H st.acn;have I1:=_D.Inv.pin1 st.inv fA st.at' st.acc.cell;refine Ad (fJ (hx▸CL he I1 st.rel st.env q3) fun u5 s5 ⟨v5,H5,P5,α5,G5⟩=>?_);have J:=_D.Inv.pinned1 G5.inv;have J1:=G5.inv.unpinned;obtain⟨J4,J5⟩:=J;obtain⟨its,n5,vs,ho,rvs,rps,hz⟩:=st.acc;subst ho;have hlen':vs.length=ds.length:=rps.length.symm;have hl2:=rvs.length;refine Ad (Lm Tz ⟨_,J4,rfl⟩ Td (Sh _ _) (Va acc its.toArray n5 u5 (by rw[Aw];rw[← zJ];omega)) ⟨J4,?_⟩)
   have q:=Wc J4 (·.push u5)
   have fA5:=hacc H5 J5;have keep:∀ b o,b≠acc→s5.heap.get? b=Ab o→(s5.heap.update acc (Eg (·.push u5))).get? b=Ab o:=fun b o hb e=>(Cy s5.heap _ (Fx hb)).trans e
   have I6:=J1.turned (t':=s5.toks) keep J5 fA5.2.1 fA5.2.2.2.1 fA5.2.2.2.2.1 fA5.2.2.2.2.2;refine Ak ⟨σ,H5,P5,α5,_,I6,G5.rel,G5.env,st.same.trans G5.same,st.pre.trans G5.pre,fun b hb=>(by simp at hb),J5,q,?_⟩
   refine⟨its++[u5],_,vs++[v5],by simp <;> rfl,rvs.append (.cons G5.val .nil),?_,by simp;omega⟩
   exact(qD.mono G5.same G5.pre _ _ rps).append (.cons G5.rep .nil)
  ·cases run
end
def mkM (m:Ar)(r:Res (qG × Aa D)):Res D:=match r with
 |.ok p S2=>if m then .ok (.loc S2.length) (S2++[.lst p.2]) else .ok (.lst p.2) S2
 |_=>.bad
def zE (m:Ar)(cap:Aa (Am Aj))(fi:DI2)(g:DG)(t:DT)(k:DK):DE:=fun env S=>(fi env S).bind fun p S1=>mkM m (goL p.1 g t k p.2 (wH cap env) S1 [])
section
variable {X:Cx}{elt tg iter:Bp}{ifs:Aa Bp}{scope:Ei}{pos:Ek}{N':Aa As}{cap:Aa (Am Aj)}{fi:DI2}{g:DG}{t:DT}{kk:DK}{rest:Aa Fd}{mm:Ar}
theorem Z7 {P:Hp}{α:Aa Af}{r:Res (qG × Aa D)}{Ok:D→Sto→Prop}(h:qI X P α (mkM mm r) Ok):∃ envF ds SF,r=.ok (envF,ds) SF∧(if mm then Ok (.loc SF.length) (SF++[.lst ds]) else Ok (.lst ds) SF):=by
 cases r with
 |ok p S =>
  obtain⟨envF,ds⟩:=p;refine⟨envF,ds,S,rfl,?_⟩;cases mm <;> exact h
 |ex c x S=>exact An h
 |bad=>exact An h
theorem WU {pins:Aa (Af × Cg)}{σ:_L.St}{P1:Hp}{α1:Aa Af}{acc:Af}{s:Ag}{Q:VK}(c:pC X pins σ P1 α1 ds SF acc C s)(ok:if mm then OkV X P1 α1 Q (.loc SF.length) (SF++[.lst ds]) else OkV X P1 α1 Q (.lst ds) SF):EP X pins σ Q (.ref acc) s:=by
 cases mm with
 |false=>exact KC c ok
 |true =>
  obtain⟨H',P',α',vs,I,r,hn,e1,e2,rp,_⟩:=c;exact⟨.ref acc,_,I,rfl,pR r hn rp fun v H2 P2 α2 r2 q1 q2 q3=>ok v H2 P2 α2 r2 (e1.trans q1) (e2.trans q2) q3⟩
theorem Q1 {M:Ls}{A:Bu}{E:Ac→Ag→Prop}{s:Ag}{globals:Af}{closure:Aa (As × Af)}{qual:As}{env:Ht}{Q:Ht→Ag→Prop}
  (hQ:Q (newEnv scope s.heap.objs.size globals (Gw (s.heap.objs.size+1) scope.names closure) qual none .none (Ab env) Mx) { s with heap:=Vh (s.heap.push { cls:=.type "dict",data:=.dict #[] }) scope.names }) :
  Ao M A (Sb scope globals closure [] qual none .none (Ab env)) Q E s:=by
 simp only[Sb,T0,Eb];refine Ad (wpAny_alloc ?_);refine Ad (wpAny_layCells _ (fun name kind cells=>by cases hkc:kind == Lz <;> simp[hkc]) _ _ _ _ ?_)
 rw[show ({ s with heap:=s.heap.push { cls:=.type "dict",data:=.dict #[] } } : Ag).heap.objs.size=s.heap.objs.size+1 from Dq ..]
 refine Ad ?_;rw[Np];exact Ak (Ak hQ)
theorem bC {pins:Aa (Af × Cg)}{σ:_L.St}{H2 P1:Hp}{α1:Aa Af}{s2:Ag}{S1:Sto}{items:Aa D}{it:Af}{fp:Aa Af}{tn:Aj→Bk→Prop}{J:It}{E:Ac→Ag→Prop}{RR:Ac→Af→Vy→Ag→Prop}
  (hc:X.calm=true) (S:CompSc X.env.scope X.N scope N' cap) (has:∀ g',(⟨tg,iter,ifs,0⟩::rest:Aa Fd)[0+1]? = Ab g'→g'.is_async=0)
  (hg:∀ cl C ex s₀ H₀,PG (qY X N' scope cl C ex s₀ H₀) tg (tDG (qY X N' scope cl C ex s₀ H₀) g))
  (ht:∀ cl C ex s₀ H₀,PTs (qY X N' scope cl C ex s₀ H₀) ifs t) (he:∀ cl C ex s₀ H₀,PK (qY X N' scope cl C ex s₀ H₀) (fun acc=>xC elt (⟨tg,iter,ifs,0⟩::rest) scope pos 0 acc (qY X N' scope cl C ex s₀ H₀).env) kk)
  (I2:Inv X pins σ H2 s2) (r:Rel X.K H2 P1 α1 S1) (re:qZ X.K P1 α1 σ env) (T:Turn X.prog X.w X.K tg J fp it tn) (st0:tn 0 s2.heap) (hf:∀ b∈fp,xH X pins H2 b) (hit:ItD2 X.K J P1 α1 o' items) (run:goL o' g t kk items (wH cap env) S1 [] = .ok (envF,ds) SF)
  (hRR:∀ acc C s',s2.heap.objs.size≤acc→(∃ m,s'.heap.Ns C m)→s2.heap.objs.size≤C→acc≠C→(∀ h',En C s'.heap h'→pC X pins σ P1 α1 ds SF acc C { s' with heap:=h' }) → RR (.ref acc) C (.ok .next) s') :
  Ao (Au X.prog X.w) X.A (newList []) (fun acc s₃=>Ao (Au X.prog X.w) X.A (Sb scope X.env.globals (wR X.env.cells scope.names []) [] X.env.qual none .none (Ab X.env)) (fun cenv s₄ =>
   Ic (Au X.prog X.w) X.A (.compStart (.ListComp elt (⟨tg,iter,ifs,0⟩::rest) scope pos) 0 (.ref it) acc { cenv with scope:=relabel scope X.env }) (RR acc cenv.locals) s₄) E s₃) E s2:=by
 have hlt:∀ b∈fp,b<s2.heap.objs.size:=fun b hb=>by
  obtain⟨o,e,_⟩:=T.obj 0 _ st0 b hb;exact Ax e
 refine Dl (Q1 ?_);dsimp only;generalize hH2:s2.heap.push { cls:=.type "list",dict:=none,data:=.seq ([] : Aa Ac).toArray } = Hh;have hsz:Hh.objs.size=s2.heap.objs.size+1:=by rw[← hH2,Dq]
 have hC:s2.heap.objs.size≤Hh.objs.size:=by rw[hsz];exact Oo _
 have hne:s2.heap.objs.size≠Hh.objs.size:=by rw[hsz];exact Cd (Ho _)
 have kp:∀ b o,Hh.get? b=Ab o→(Vh (Hh.push { cls:=.type "dict",data:=.dict #[] }) scope.names).get? b=Ab o:=fun b o e=>Wx _ _ b o (Ah _ e);have hns₁:(Vh (Hh.push { cls:=.type "dict",data:=.dict #[] }) scope.names).Ns Hh.objs.size (fun _=>none):=(Heap.Ns.new Hh (.type "dict")).keeps (Wx _ _);have co:=cellsFrom_ok scope.names (Hh.push { cls:=.type "dict",data:=.dict #[] }) (Hh.objs.size+1) [] ⟨fun _ _ hm=>(nomatch hm),Le⟩ (by rw[Dq];exact Az _)
 rw[Dq] at co;generalize hh₁:Vh (Hh.push { cls:=.type "dict",data:=.dict #[] }) scope.names=h₁ at kp hns₁ co ⊢;have keep:∀ b o,s2.heap.get? b=Ab o→h₁.get? b=Ab o:=fun b o e=>kp b o (hH2▸Ah _ e);have hacc:h₁.get? s2.heap.objs.size=Ab { cls:=.type "list",data:=.seq ([] : Aa Ac).toArray }:=kp _ _ (hH2▸Ba _ rfl);have I4:∀ tk,Inv (qY X N' scope (kG X scope Hh.objs.size) Hh.objs.size fp s2 H2) [] (v3 cap σ) H2 { s2 with heap:=h₁,toks:=tk }:=fun tk =>
  W7 (s4:={ s2 with heap:=h₁,toks:=tk }) S I2 hf hlt hC hns₁ rfl rfl keep co
 have loop:∀ tk,Ic (Au X.prog X.w) X.A (.compLoop (.ListComp elt (⟨tg,iter,ifs,0⟩::rest) scope pos) 0 (.ref it) (.ref s2.heap.objs.size) (compEnvC scope (kG X scope Hh.objs.size) Hh.objs.size X.env)) (RR (.ref s2.heap.objs.size) Hh.objs.size) { s2 with heap:=h₁,toks:=tk }:=fun tk=>by
  refine i7 (kk:=kk) (o':=o') (Y:=qY X N' scope (kG X scope Hh.objs.size) Hh.objs.size fp s2 H2) (pins:=[]) (fp:=fp) (acc:=s2.heap.objs.size) (P1:=P1) (α1:=α1) (σ:=v3 cap σ) (H:=H2) (P:=P1) (α:=α1) (o:={ cls:=.type "list",data:=.seq ([] : Aa Ac).toArray }) hc rfl rfl has T hit
   (hg _ _ _ _ _) (ht _ _ _ _ _) (he _ _ _ _ _) (fun H hn=>?_) (fun H hn b hb=>?_) (fun hm=>Ea _ (hlt _ hm)) ⟨I4 tk,r,X8 re cap,qE.refl _,Bb _,fun b hb=>(hf b hb).1,I2.hok.fresh (Az _),hacc,⟨[],0,[],rfl,.nil,.nil,Gx _⟩⟩ (T.keep _ _ _ st0 fun b hb o e=>keep b o e) run fun s' σ' H' P' α' o' st=>?_
  ·refine⟨hn,hne,fun hm=>?_,.inr (Az _),fun x c h z=>?_,fun p hp=>absurd (show p∈([]:Aa (Af × Cg)) from hp) (by simp)⟩
   ·obtain⟨_,o,ho,_⟩:=I2.stack.mem hm
    exact Ea _ (Ax ho)
   ·rcases xB S I2.ok h with⟨m,_⟩|⟨m,_⟩
    ·exact Ea _ (Og hC (z▸(co.empty x c m).2))
    ·obtain⟨v,ob,hob,_⟩:=I2.cell x c m
     rw[z] at hob;exact Ea _ (Ax hob)
  ·obtain⟨_,h1,h2,h3,h4,h5⟩:=hf b hb
   refine⟨hn b hb,Cd (Bf (hlt b hb) hC),fun hm=>?_,.inl hb,fun x c h=>(by
    rcases xB S I2.ok h with⟨m,_⟩|⟨m,_⟩
    ·exact Fx (Cd (Ku (Bf (hlt b hb) hC) (co.empty x c m).2))
    ·exact h4 x c m),fun p hp=>absurd (show p∈([]:Aa (Af × Cg)) from hp) (by simp)⟩
   rcases Ay.mp (I2.stkSub b hm) with z|z
   ·exact h1 z
   ·exact h2 z
  ·obtain⟨m,hm,_⟩:=st.inv.loc
   exact hRR _ _ s' (Az _) ⟨m,hm⟩ hC hne fun h' sb=>W6 I2 hf rfl hC (Az _) hne st sb
 exact codeAny_compStart_list (loop _) (T.self X.A 0 _ _ _ (T.keep _ _ _ st0 fun b hb o e=>keep b o e) (loop _))
theorem WH (hc:X.calm=true)(S:CompSc X.env.scope X.N scope N' cap)(hi:PI X tg iter (tDI2 X fi))
  (hg:∀ cl C ex s₀ H₀,PG (qY X N' scope cl C ex s₀ H₀) tg (tDG (qY X N' scope cl C ex s₀ H₀) g))
  (ht:∀ cl C ex s₀ H₀,PTs (qY X N' scope cl C ex s₀ H₀) ifs t) (has:∀ g',(⟨tg,iter,ifs,0⟩::rest:Aa Fd)[0+1]? = Ab g'→g'.is_async=0) (he:∀ cl C ex s₀ H₀,PK (qY X N' scope cl C ex s₀ H₀) (fun acc=>xC elt (⟨tg,iter,ifs,0⟩::rest) scope pos 0 acc (qY X N' scope cl C ex s₀ H₀).env) kk)
  (hs:∀ x,Fh iter X.env x=pure x:=by intro _;rfl):PE X (.ListComp elt (⟨tg,iter,ifs,0⟩::rest) scope pos) (tD X (zE mm cap fi g t kk)):=by
 intro pins s σ H Q I h;obtain⟨P,α,env,S0,r,re,af⟩:=h;rw[eval_ListComp];have af':qI X P α ((fi env S0).bind fun p S1=>mkM mm (goL p.1 g t kk p.2 (wH cap env) S1 [])) (OkV X P α Q):=af;refine OT (use:=none) rfl hs (eW S I.ok) S.kind S.names ?_;refine thn (hi pins s σ H (fun J H1=>∃ (P1:Hp) (α1:Aa Af) (p:Am (Aj × MO) × Aa _D.D) (S1:Sto),Rel X.K H1 P1 α1 S1∧qE P P1∧α<+:α1∧ItD2 X.K J P1 α1 p.1 p.2∧qI X P α (mkM mm (goL p.1 g t kk p.2 (wH cap env) S1 [])) (OkV X P α Q)) I ⟨P,α,env,S0,r,re,?_⟩) fun xv s1 h1=>thn h1 fun itv s2 h2=>?_
 ·cases q:fi env S0 with
  |bad=>rw[q] at af';exact af'
  |ex c x S'=>rw[q] at af';exact af'
  |ok p S1=>rw[q] at af';exact fun J H1 P1 α1 r1 e1 e2 it=>⟨P1,α1,p,S1,r1,e1,e2,it,af'⟩
 obtain⟨it,fp,tn,J,H2,rfl,I2,T,st0,hf,P1,α1,p,S1,r1,e1,e2,hit,af1⟩:=h2;obtain⟨envF,ds,SF,run,ok⟩:=Z7 af1;refine bC (RR:=fun acc C=>compPost (Au X.prog X.w) X.A X.xe none (EP X pins σ Q) acc C) hc S has hg ht he I2 r1 (re.mono e1 e2) T st0 hf hit run ?_;intro acc C s' hA ⟨m,hm⟩ hC hne fin;refine⟨m,hm,fun h' sb=>WU (mm:=mm) (fin h' sb) ?_⟩;cases mm with
 |false=>exact fun v H3 P3 α3 r3 q1 q2 q3=>ok v H3 P3 α3 r3 (e1.trans q1) (e2.trans q2) q3
 |true=>exact fun v H3 P3 α3 r3 q1 q2 q3=>ok v H3 P3 α3 r3 (e1.trans q1) (e2.trans q2) q3
theorem WQ {i:Aj}{y:As}{py spos:Ek}(hc:X.calm=true)(hN:X.N.Nodup)(S:CompSc X.env.scope X.N scope N' cap)(hi:PI X tg iter (tDI2 X fi))
  (hg:∀ cl C ex s₀ H₀,PG (qY X N' scope cl C ex s₀ H₀) tg (tDG (qY X N' scope cl C ex s₀ H₀) g))
  (ht:∀ cl C ex s₀ H₀,PTs (qY X N' scope cl C ex s₀ H₀) ifs t) (has:∀ g',(⟨tg,iter,ifs,0⟩::rest:Aa Fd)[0+1]? = Ab g'→g'.is_async=0) (he:∀ cl C ex s₀ H₀,PK (qY X N' scope cl C ex s₀ H₀) (fun acc=>xC elt (⟨tg,iter,ifs,0⟩::rest) scope pos 0 acc (qY X N' scope cl C ex s₀ H₀).env) kk)
  (hy:X.N[i]? = Ab y:=by rfl) (hyl:Loc X.env.scope y:=by first|exact Xx rfl|exact Wd rfl) (hf:X.fn y=true∨X.env.scope.names.lookup y=Ab .local:=by first|exact .inl rfl|exact .inr rfl|assumption)
  (hsw:Lf (.ListComp elt (⟨tg,iter,ifs,0⟩::rest) scope pos) (Ab (.Name y py)) spos.line X.env=pure true:=by rfl)
  (hs:∀ x,Fh iter X.env x=pure x:=by intro _;rfl):PS X (.Assign [.Name y py] (.ListComp elt (⟨tg,iter,ifs,0⟩::rest) scope pos) spos) (tDS X (qS (zE mm cap fi g t kk) (gNm i))):=by
 intro pins s σ H D I h;obtain⟨P,α,env,S0,r,re,af⟩:=h;have af0:=w6 af;have af':qI X P α ((fi env S0).bind fun p S1=>mkM mm (goL p.1 g t kk p.2 (wH cap env) S1 [])) (fun d S=>qX X P α (.nx (env.set i (Ab d)) S) D):=af0;rw[exec_Assign_Name_used _ _ _ _ hsw];refine Ad (Ox (Ad ?_));show Ao _ X.A (do let _ ← comprehension (.ListComp elt (⟨tg,iter,ifs,0⟩::rest) scope pos) scope X.env _ (newList []) false (eval iter X.env) (Ab (assign (.Name y py) X.env))) _ _ s
 refine Ad (Gj (OT (use:=Ab (assign (.Name y py) X.env)) (Q:=fun _ s'=>SP X pins D .next s') rfl hs (eW S I.ok) S.kind S.names ?_) (fun _ s' hq=>Ak (Ak hq)) fun _ _ e=>e);refine thn (hi pins s σ H (fun J H1=>∃ (P1:Hp) (α1:Aa Af) (p:Am (Aj × MO) × Aa _D.D) (S1:Sto),Rel X.K H1 P1 α1 S1∧qE P P1∧α<+:α1∧ItD2 X.K J P1 α1 p.1 p.2∧qI X P α (mkM mm (goL p.1 g t kk p.2 (wH cap env) S1 [])) (fun d S=>qX X P α (.nx (env.set i (Ab d)) S) D)) I ⟨P,α,env,S0,r,re,?_⟩) fun xv s1 h1=>thn h1 fun itv s2 h2=>?_
 ·cases q:fi env S0 with
  |bad=>rw[q] at af';exact af'
  |ex c x S'=>rw[q] at af';exact af'
  |ok p S1=>rw[q] at af';exact fun J H1 P1 α1 r1 e1 e2 it=>⟨P1,α1,p,S1,r1,e1,e2,it,af'⟩
 obtain⟨it,fp,tn,J,H2,rfl,I2,T,st0,hfp,P1,α1,p,S1,r1,e1,e2,hit,af1⟩:=h2;obtain⟨envF,ds,SF,run,ok⟩:=Z7 af1;refine bC (RR:=fun acc C=>compPost (Au X.prog X.w) X.A X.xe (Ab (assign (.Name y py) X.env)) (fun _ s'=>SP X pins D .next s') acc C) hc S has hg ht he I2 r1 (re.mono e1 e2) T st0 hfp hit run ?_;intro acc C s' hA ⟨m,hm⟩ hC hne fin;show Ao _ X.A (assign (.Name y py) X.env (.ref acc)) _ _ s';obtain⟨H3,P3,α3,vs,I3,r3,hn3,q1,q2,rp,hCn⟩:=fin s'.heap (OF _ _);obtain⟨r4,e4⟩:=r3.pure (o:=.lst vs) hn3;have hCn':(upd H3 acc (.lst vs)) C=none:=by rw[qF (Fx hne)];exact hCn
 have fC:=I2.fpOk hC hCn';refine Ur (lP I3 hN hy hyl (show qL (V.ref acc) (Cb acc) from rfl) (fun s5 I5 ⟨a,sb,ha⟩=>?_) hf)
 have hCa:C≠a:=by
  rcases ha with rfl|ha
  ·exact fC.2.1
  ·exact fun z=>fC.2.2.2.2.1 _ _ ha z.symm
 refine⟨m,hm.sameBut sb hCa,fun h' sb'=>?_⟩;have I6:Inv X pins (σ.set i (Ab (V.ref acc))) (upd H3 acc (.lst vs)) { s5 with heap:=h' }:=I5.turned (t':=s5.toks) (fun b o hb e=>(sb'.2 b hb).trans e) hCn' fC.2.1 fC.2.2.2.1 fC.2.2.2.2.1 fC.2.2.2.2.2
 cases mm with
 |false =>
  refine⟨_,_,I6,ok _ _ (upd P3 acc (.lst vs)) α3 r4 ?_ ((e1.trans q1).trans e4) (e2.trans q2)⟩;exact((re.mono e1 e2).mono (q1.trans e4) q2).set i (tZ (.inl (.inl qQ)) (qD.mono e4 (Bb _) _ _ rp))
 |true =>
  have hpre:α3<+:α3++[acc]:=Fa _ _;have r5:=r3.new (o:=.lst vs) (m:=.lst ds) hn3 ⟨vs,qQ,qD.mono (qE.refl _) hpre _ _ rp⟩;refine⟨_,_,I6,ok _ _ P3 (α3++[acc]) r5 ?_ (e1.trans q1) ((e2.trans q2).trans hpre)⟩;refine((re.mono e1 e2).mono q1 (q2.trans hpre)).set i ?_;simp only[Rep];exact⟨acc,rfl,by rw[← r3.len];simp⟩
end
section
variable {prog:Be}{w:Bt}{A:Bu}{E:Ac→Ag→Prop}{s:Ag}
theorem Q0 {e it l:Af}{i:Aj}{x old:Ac}(he:Rl s.heap e it i old)(hit:zB tp s.heap it l i)(hl:xO tp s.heap l xs)(hx:xs[i]? = Ab x)(ne:e≠it)
  (hQ:∀ g,Yh g e it ((i:Al)+1) x s.heap.objs.size→zB tp g it l (i+1)→Hw g s.heap.objs.size (.int i s.toks) x→g.objs.size=s.heap.objs.size+1→(∀ b o,b≠e→b≠it→s.heap.get? b=Ab o→g.get? b=Ab o)→Q (.ref s.heap.objs.size) { s with heap:=g,toks:=s.toks+1 }) :
  Ao (Au prog w) A (Hd.«enumerate.__next__» ⟨[.ref e],[]⟩) (fun fin s'=>∃ v,fin=.done (.ret v)∧Q v s') E s:=by
 obtain⟨hp,gn,dr,tk,os⟩:=s;show Ao _ _ (field (.ref e) 2 >>= _) _ _ _;refine Ad (Do he rfl (x:=.ref it) rfl (Ad (kW hit hl hx fun g1 i1 s1=>?_)))
 replace s1:En it hp g1:=s1
 have e1:Rl g1 e it i old:=(s1.2 e ne).trans he;show Ao _ _ (field (.ref e) 3 >>= _) _ _ ⟨g1,gn,dr,tk,os⟩;refine Ad (Do e1 rfl (x:=Ft i) rfl ?_);show Ao _ _ (field (.ref e) 4 >>= _) _ _ ⟨g1,gn,dr,tk,os⟩;refine Ad (Do e1 rfl (x:=.none) rfl ?_);show Ao _ _ (mkInt i >>= _) _ _ ⟨g1,gn,dr,tk,os⟩;refine Ad (wpAny_mkInt ?_);show Ao _ _ (setField (.ref e) 3 (Ft ((i:Al)+1)) >>= _) _ _ ⟨g1,gn,dr,tk+1,os⟩;refine Ad (Eo e1 (by simp) fun g2 e2 s2=>?_)
 replace s2:En e g1 g2:=s2
 replace e2:Rl g2 e it ((i:Al)+1) old:=e2
 show Ao _ _ (setField (.ref e) 4 .none >>= _) _ _ ⟨g2,gn,dr,tk+1,os⟩;refine Ad (Eo e2 (by simp) fun g3 e3 s3=>?_)
 replace s3:En e g2 g3:=s3
 replace e3:Rl g3 e it ((i:Al)+1) old:=e3
 show Ao _ _ (newTuple [.int i tk,x] >>= _) _ _ ⟨g3,gn,dr,tk+1,os⟩;refine Ad (Rz ?_);have e4:Rl (g3.push { cls:=.type "tuple",data:=.seq #[.int i tk,x] }) e it ((i:Al)+1) old:=Ah _ e3;generalize q4:g3.push { cls:=.type "tuple",data:=.seq #[.int i tk,x] } = g4 at e4;have sz:g3.objs.size=hp.objs.size:=by rw[s3.1,s2.1,s1.1]
 have el:e<hp.objs.size:=Ax he;have t4:Hw g4 hp.objs.size (.int i tk) x:=by rw[← q4,← sz];exact Ba _ rfl
 have z4:g4.objs.size=hp.objs.size+1:=by rw[← q4,Dq,sz]
 have k4:∀ b o,b≠e→b≠it→hp.get? b=Ab o→g4.get? b=Ab o:=fun b o b1 b2 q=>by
  rw[← q4];exact Ah _ (s3.extBut b o b1 (s2.extBut b o b1 (s1.extBut b o b2 q)))
 have i4:zB tp g4 it l (i+1):=i1.keep fun o q=>by rw[← q4];exact Ah _ (s3.extBut _ o ne.symm (s2.extBut _ o ne.symm q))
 show Ao _ _ (Ef (.ref e) >>= _) _ _ ⟨g4,gn,dr,tk+1,os⟩;rw[sz];refine Ad ?_;unfold Ef;refine Ad (Do e4 rfl (x:=.none) rfl (Ak ?_));simp only[Eb];refine Ad (Ju (Ad (Do e4 rfl (x:=old) rfl (Ad (Eo e4 (by simp) fun g5 e5 s5=>?_)))))
 replace s5:En e g4 g5:=s5
 replace e5:Rl g5 e it ((i:Al)+1) x:=e5
 show Ao _ _ (Ge (.ref e) (.ref hp.objs.size) >>= _) _ _ ⟨g5,gn,dr,tk+1,os⟩;refine Ad ?_;unfold Ge;refine Ad (Eo e5 (by simp) fun g6 e6 s6=>?_)
 replace s6:En e g5 g6:=s6
 replace e6:Yh g6 e it ((i:Al)+1) x hp.objs.size:=e6
 refine Eo e6 (by simp) fun g7 e7 s7=>?_
 replace s7:En e g6 g7:=s7
 replace e7:Yh g7 e it ((i:Al)+1) x hp.objs.size:=e7
 have up:∀ b o,b≠e→g4.get? b=Ab o→g7.get? b=Ab o:=fun b o b1 q=>s7.extBut b o b1 (s6.extBut b o b1 (s5.extBut b o b1 q));exact Ad (Rj (Ak ⟨_,rfl,hQ g7 e7 (i4.keep fun o q=>up _ o ne.symm q) (up _ _ (Fn el) t4) (by rw[s7.1,s6.1,s5.1,z4]) fun b o b1 b2 q=>up b o b1 (k4 b o b1 b2 q)⟩))
set_option maxHeartbeats 4000000 in
set_option tactic.hygienic true in
theorem WX (tp:Ar)(l:Af)(xs:Bl Ac) :
  Meets (Hd.«enumerate.__new__» ⟨[.type "enumerate",.ref l],[]⟩) (fun _ R s=>(∃ n dct sl,s.heap.get? l=Ab { cls:=.type (if tp then "tuple" else "list"),dict:=dct,data:=.seq xs n,slots:=sl }) ∧ R (.ok (.ret (.ref (s.heap.push (vQ tp l)).objs.size))) { s with heap:=(s.heap.push (vQ tp l)).push { cls:=.type "enumerate",data:=.fields #[.none,.bool false,.ref s.heap.objs.size,Ft 0,.none,.none] } }):=
 .of_wp fun prog w A R s h=>by
  obtain⟨hp,gn,dr,tk,os⟩:=s;obtain⟨⟨n,dct,sl,hl⟩,h⟩:=h;have hsub:=sub_enumerate;cases tp
  ·have L1:Wf (Ma ⟨hp,gn,dr,tk,os⟩) l xs:=⟨_,hl,rfl,n,rfl⟩
   wp_walk using Gf hl
   refine Wy fun st=>Ak ?_
   split
   ·rename_i c _ _ _ _ _
    cases (c == Gi "enumerate") <;> (wp_walk using Gf hl,Ga L1;exact⟨_,rfl,h⟩)
   ·wp_walk using Gf hl,Ga L1;exact⟨_,rfl,h⟩
  ·have L1:Uk (Ma ⟨hp,gn,dr,tk,os⟩) l xs:=⟨_,hl,rfl,n,rfl⟩
   wp_walk using Gf hl
   refine Wy fun st=>Ak ?_
   split
   ·rename_i c _ _ _ _ _
    cases (c == Gi "enumerate") <;> (wp_walk using Gf hl,Gh L1;exact⟨_,rfl,h⟩)
   ·wp_walk using Gf hl,Gh L1;exact⟨_,rfl,h⟩
theorem oH {tp:Ar}{l:Af}{xs:Bl Ac}{Q:Ac→Ag→Prop}(hl:∃ n dct sl,s.heap.get? l=Ab { cls:=.type (if tp then "tuple" else "list"),dict:=dct,data:=.seq xs n,slots:=sl })
  (h:∀ g,Rl g (s.heap.objs.size+1) s.heap.objs.size 0 .none→zB tp g s.heap.objs.size l 0→(∀ b o,s.heap.get? b=Ab o→g.get? b=Ab o)→Q (.ref (s.heap.objs.size+1)) { s with heap:=g }) :
  Ao (Au prog w) A (call (.type "enumerate") [.ref l]) Q E s:=by
 refine callType_new F.called_enumerate (by decide) (F.typeCall_enumerate_1 _) (F.newCall_enumerate_1 _) (fun obj=>F.args_object_init_2 obj _) F.entry_enumerate_new (WX tp l xs) ⟨hl,?_⟩
 have hz:(s.heap.push (vQ tp l)).objs.size=s.heap.objs.size+1:=Dq ..;show _∧_;have he:((s.heap.push (vQ tp l)).push { cls:=.type "enumerate",data:=.fields #[.none,.bool false,.ref s.heap.objs.size,Ft 0,.none,.none] }).get? (s.heap.push (vQ tp l)).objs.size=Ab _:=Ba _ rfl;rw[hz] at he ⊢;exact⟨⟨_,he,rfl⟩,h _ he (kT (Ah _ (Ba _ rfl))) fun b o x=>Ah _ (Ah _ x)⟩
end
def Ite (tp:Ar)(K:Ai)(a:Af):It:=
  ⟨fun i H=>∃ xs x,Sq tp K H a xs∧xs[i]? = Ab x,
   fun i H v H'=>∃ T x,v=.ref T∧H T=none∧H'=upd H T (.tup [.int i,x])∧∀ xs,Sq tp K H a xs→xs[i]? = Ab x,
   fun i H=>∃ xs,Sq tp K H a xs∧xs.length≤i⟩
def o9 (tp:Ar)(e it l:Af)(k:Aj)(h:Bk):Prop:=∃ old,Rl h e it k old∧zB tp h it l k
theorem XI {P:Be}{w:Bt}{K:Ai}{elts:Aa Bp}{x1:Aj}{tpos:Ek}{e it a:Af}(ne:e≠it):Turn P w K (.Tuple elts x1 tpos) (Ite tp K a) [e,it] e (o9 tp e it a) where
 mem:=by simp
 obj:=fun k h st c hc=>by
  obtain⟨old,s1,s2⟩:=st;simp only[Ay,Cp,Fo] at hc;rcases hc with rfl|rfl
  ·exact⟨_,s1,fun v y=>by cases y⟩
  ·exact s2.there
 keep:=fun k h h' st kp=>by
  obtain⟨old,s1,s2⟩:=st;exact⟨old,kp e (by simp) _ s1,s2.keep fun o q=>kp it (by simp) o q⟩
 item:=by
  intro X hP hw hK hc k pins s σ H E Iv hf st hg;subst hP hw hK;obtain⟨old,s1,s2⟩:=st;obtain⟨xs,x,qa,hx⟩:=hg;obtain⟨ia,ra,ha⟩:=qa.at Iv;obtain⟨u,hu,ru⟩:=ra.get hx;have hT:s.TypeIs (.ref e) "enumerate":=⟨_,s1,rfl⟩;unfold Ky;refine Ad (Ie (Dr (name:=Gv "__next__") hT Ja (Dw Ja hT Qt
   (Q0 s1 s2 ha (by simpa using hu) ne fun h' a1 a2 a3 a4 a5=>Ak ?_) (Ps _))))
  refine⟨_,rfl,wpAny_letOwnedTupleGo_enum (s:={ s with heap:=h',toks:=s.toks+1 }) a1 fun h2 b1 b2=>?_⟩
  have up:∀ c o,c≠e→h'.get? c=Ab o→h2.get? c=Ab o:=fun c o n q=>(b2.2 c n).trans q;have el:e<s.heap.objs.size:=Ax s1;have T2:Hw h2 s.heap.objs.size (.int k s.toks) u:=up _ _ (Fn el) a3;have st2:o9 tp e it a (k+1) h2:=⟨u,b1,a2.keep fun o q=>up _ o ne.symm q⟩;refine⟨.ref s.heap.objs.size,upd H s.heap.objs.size (.tup [.int k,x]),?_,rfl,⟨_,x,rfl,Iv.hok.fresh (Az _),rfl,fun zs qz=>by rw[qz.inj Iv qa];exact hx⟩,st2,fun c hc=>?_⟩
  ·have:=Inv.turnLay (fp:=[e,it]) (its:=[.int k s.toks,u]) (h':=h2) (xs:=[.int k,x]) Iv hf (fun c o hc q=>by
    simp only[Ay,Cp,Fo,Rk] at hc;exact up c o hc.1 (a5 c o hc.1 hc.2 q)) (fun c hc=>by
    obtain⟨old',t1,t2⟩:=st2;simp only[Ay,Cp,Fo] at hc;rcases hc with rfl|rfl
    ·exact⟨_,t1⟩
    ·obtain⟨o,q,_⟩:=t2.there;exact⟨o,q⟩) (Az _) (.cons ⟨_,rfl⟩ (.cons ru .nil)) ⟨_,T2,rfl,_,rfl⟩ (by show 2≤sizeLine;decide)
   exact this.tok (s.toks+1)
  ·have hn:=(hf c hc).1
   rw[qF ?_]
   ·exact hn
   ·rintro rfl
    obtain⟨o,q,_⟩:∃ o,s.heap.get? s.heap.objs.size=Ab o∧Je:=by
     simp only[Ay,Cp,Fo] at hc;rcases hc with z|z
     ·exact⟨_,z▸s1,trivial⟩
     ·obtain⟨o,e',_⟩:=s2.there;exact⟨o,z▸e',trivial⟩
    exact absurd (Ax q) (Ea _)
 done:=by
  intro X hP hw hK hc k pins s σ H E Iv hf st hg;subst hP hw hK;obtain⟨old,s1,s2⟩:=st;obtain⟨xs,qa,hend⟩:=hg;obtain⟨ia,ra,ha⟩:=qa.at Iv;have hT:s.TypeIs (.ref e) "enumerate":=⟨_,s1,rfl⟩;have l1:=ra.length;unfold Ky;refine Ad (Ie (Dr (name:=Gv "__next__") hT Ja (Dw Ja hT Qt ?_ (Ps _))));show Ao _ _ (field (.ref e) 2 >>= _) _ _ _;refine Ad (Do s1 rfl (x:=.ref it) rfl (Ad (uQ (Iv.ok.hd hc) s2 ha (by simp;omega) fun h' x kp hx'=>?_)))
  obtain⟨o,ho,hcl⟩:=hx';refine Ad (Mb (T:="StopIteration") (b:=true) ⟨o,ho,hcl⟩ Sa (Ak ⟨rfl,Inv.turnL (fp:=[e,it]) Iv hf fun c o hc q=>?_⟩));simp only[Ay,Cp,Fo,Rk] at hc;exact kp c o hc.2 q
 self:=fun _ _ _ _ _ st h=>by
  obtain⟨old,s1,_⟩:=st;exact Vi s1 h
def yF (xs:Aa D):Aa D:=xs.mapIdx fun i x=>D.tup [.int i,x]
def UH (ds:Aa D):Am (Aa D):=match ds with
 |[.tup xs]=>Ab (yF xs)
 |[.lst xs]=>Ab (yF xs)
 |_=>none
def d0 (f:DA):DI:=fun env S=>(f env S).bind fun ds S1=>vG (UH ds) S1
theorem oZ (xs:Aa D)(i:Aj):(yF xs)[i]? = (xs[i]?).map fun x=>D.tup [.int i,x]:=by
 unfold yF;rw[List.getElem?_mapIdx]
theorem gV (xs:Aa D):(yF xs).length=xs.length:=by simp[yF]
theorem YA {K:Ai}{P:Hp}{α:Aa Af}{a:Af}{xs:Aa D}(qa:Sq tp K P a vs)(ta:qD K P α xs vs):ItD K (Ite tp K a) P α (yF xs) where
 go:=fun i H P1 α1 S hi r e _=>by
  rw[gV] at hi;have h1:i<vs.length:=by rw[← ta.length];omega
  exact⟨vs,vs[i],qa.mono (e.trans r.sub),by simp⟩
 yld:=fun i H x H' P1 α1 S hi r e e2 y=>by
  obtain⟨T,u,rfl,hT,rfl,hu⟩:=y;rw[gV] at hi;obtain⟨v1,z1,p1⟩:=ta.get (Ap hi);have eu:=hu vs (qa.mono (e.trans r.sub));rw[z1] at eu;cases eu;obtain⟨r1,s1⟩:=r.pure (o:=.tup [.int i,u]) hT;refine⟨_,.tup [.int i,xs[i]],?_,r1,s1,?_⟩
  ·rw[oZ,Ap hi];rfl
  ·exact b0 (.of qQ) (.cons (by simp only[Rep]) (.cons (Rep.mono (e.trans s1) e2 _ _ p1) .nil))
 stop:=fun i H P1 α1 S hi r e _=>by
  rw[gV] at hi;have l1:=ta.length;exact⟨vs,qa.mono (e.trans r.sub),by omega⟩
section
variable {X:Cx}{e1:Bp}{elts:Aa Bp}{x1:Aj}{tpos:Ek}{f:DA}{p pos:Ek}
theorem Sq.obj {pins:Aa (Af × Cg)}{σ:_L.St}{H:Hp}{s:Ag}{a:Af}{xs:Aa V}(I:Inv X pins σ H s)(q:Sq tp X.K H a xs):∃ its:Aa Ac,qJ xs its∧∃ n dct sl,s.heap.get? a=Ab { cls:=.type (if tp then "tuple" else "list"),dict:=dct,data:=.seq its.toArray n,slots:=sl }:=by
 obtain⟨its,rv,h⟩:=q.at I;refine⟨its,rv,?_⟩;cases tp with
 |true =>
  obtain⟨o,ho,hc,n,hd⟩:=h;obtain⟨c,d,dt,sl⟩:=o;dsimp only at hc hd;subst hc;subst hd;exact⟨n,_,_,ho⟩
 |false =>
  obtain⟨o,ho,hc,n,hd⟩:=h;obtain⟨c,d,dt,sl⟩:=o;dsimp only at hc hd;subst hc;subst hd;exact⟨n,_,_,ho⟩
theorem eZ {pins:Aa (Af × Cg)}{σ:_L.St}{H P:Hp}{α:Aa Af}{S:Sto}{s:Ag}{a:Af}{xs:Aa D}(I:Inv X pins σ H s)(r:Rel X.K H P α S)(qa:Sq tp X.K P a vs)(ta:qD X.K P α xs vs)
  (q:OkI X P α R (yF xs) S):Ao (Au X.prog X.w) X.A (call (.type "enumerate") [.ref a]) (fun v s1=>Ao (Au X.prog X.w) X.A (Mv v) (PIE X pins σ (.Tuple elts x1 tpos) R) X.xe s1) X.xe s:=by
 obtain⟨ia,ra,ha⟩:=Sq.obj I (qa.mono r.sub);refine oH (tp:=tp) ha fun h' z1 z2 z7=>?_;refine Vi (s:={ s with heap:=h' }) z1 ?_
 refine⟨_,[s.heap.objs.size+1,s.heap.objs.size],_,_,H,rfl,I.kept (t':=s.toks) z7,XI (tp:=tp) (a:=a) (by intro z;simp at z),⟨_,z1,z2⟩,fun c hc=>?_,q _ _ P α r (qE.refl _) (Bb _) (YA qa ta)⟩
 have hl:s.heap.objs.size≤c:=by
  simp only[Ay,Cp,Fo] at hc;rcases hc with rfl|rfl <;> simp
 exact I.fpOk hl (I.hok.fresh hl)
theorem mY:Fl "enumerate" = Ab (.type "enumerate"):=by decide +kernel
theorem WW (h:UH ds=Ab its):∃ d xs,ds=[d]∧ItV d xs∧its=yF xs:=by
 cases ds with
 |nil=>exact nn h
 |cons d ds =>
  cases ds with
  |cons _ _=>cases d <;> exact nn h
  |nil =>
   cases d with
   |tup xs=>exact⟨_,xs,rfl,.tup rfl,(Cm h).symm⟩
   |lst xs=>exact⟨_,xs,rfl,.lst rfl,(Cm h).symm⟩
   |_=>exact nn h
theorem K3 (hg:Gl X "enumerate")(hm:X.mg "enumerate" = none)(ha:PA X [e1] (tDA X f))(hs:Bi [e1] X.env=(false,eval e1 X.env)::Bi [] X.env:=by rfl)(hpl:(Fq pos (Bi [] X.env)).any (·.1)=false:=by rfl) :
  PI X (.Tuple elts x1 tpos) (.Call (.Name "enumerate" p) [e1] [] pos) (tDI X (d0 f)):=by
 intro pins s σ H R I h;obtain⟨P,α,env,S,r,re,af⟩:=h;refine Call_ (vT I hg hm mY (Go (thn (wV ha I r re af pos) fun us s1 ⟨vs,H1,P1,α1,ds,S1,I1,rv,r1,re1,rp,e1,e2,af1⟩=>?_) hs hpl));obtain⟨its,hi,q⟩:=vH af1;obtain⟨d,xs,rfl,hd,rfl⟩:=WW hi;obtain⟨v,u,rfl,rfl,p1,q1⟩:=yI rp rv;cases hd with
 |tup ed =>
  subst ed;simp only[Rep] at p1;obtain⟨a,va,rfl,qa,ta⟩:=p1;cases (show u=Cb a from q1)
  exact eZ (tp:=true) I1 r1 qa ta (q.base e1 e2)
 |lst ed =>
  subst ed;simp only[Rep] at p1;obtain⟨a,va,rfl,qa,ta⟩:=p1;cases (show u=Cb a from q1)
  exact eZ (tp:=false) I1 r1 qa.l ta (q.base e1 e2)
end
section
variable {X:Cx}
def wJ:D→Aa D→Sto→Res D:=fun a ds S=>match a,ds with
 |.loc n,[i,x]=>match S[n]? with
  |some (.dct kvs)=>match wX i with
   |some k=>match zP kvs k with
    |some d=>.ok d S
    |none=>if kvs.length<lim then .ok x (S.set n (.dct (wB kvs k x))) else .bad
   |none=>.bad
  |_=>.bad
 |_,_=>.bad
theorem b9 (a b c:Ac):Wi "dict.setdefault" ⟨[a,b,c],[]⟩:=by unfold Wi;kernel_rfl
inductive SdV (a:D)(ds:Aa D)(S:Sto):Prop
 |bad (e:wJ a ds S=.bad)
 |of (n:Aj) (i x:D) (kvs:Aa (Key × D)) (k:Key) (ea:a=.loc n) (ed:ds=[i,x]) (hS:S[n]? = Ab (.dct kvs)) (hk:wX i=Ab k) (e:wJ a ds S=(match zP kvs k with|some d=>.ok d S|none=>if kvs.length<lim then .ok x (S.set n (.dct (wB kvs k x))) else .bad))
theorem sdV (a:D)(ds:Aa D)(S:Sto):SdV a ds S:=by
 cases a with
 |loc n =>
  cases ds with
  |nil=>exact .bad rfl
  |cons i ds =>
   cases ds with
   |nil=>exact .bad rfl
   |cons x ds =>
    cases ds with
    |cons _ _=>exact .bad rfl
    |nil =>
     have z:wJ (.loc n) [i,x] S=(match S[n]? with|some (.dct kvs)=>(match wX i with|some k=>(match zP kvs k with|some d=>.ok d S|none=>if kvs.length<lim then .ok x (S.set n (.dct (wB kvs k x))) else .bad)|none=>.bad)|_=>.bad):=rfl
     cases hS:S[n]? with
     |none=>rw[hS] at z;exact .bad z
     |some m =>
      rw[hS] at z;cases m with
      |dct kvs =>
       cases hk:wX i with
       |none=>rw[hk] at z;exact .bad z
       |some k=>rw[hk] at z;exact .of n i x kvs k rfl rfl hS hk z
      |_=>exact .bad z
 |_=>exact .bad rfl
theorem Z6:MtD X "dict.setdefault" wJ:=by
 intro pins σ H s P α S v vv vs us a ds Q I r rv p rvs rps af;cases sdV a ds S with
 |bad e=>rw[e] at af;exact An af
 |of n i x kvs k ea ed hS hk e =>
  rw[e] at af;subst ea ed;clear e;obtain⟨vi,vx,ui,ux,rfl,rfl,pi,px,qi,qx⟩:=gA rps rvs;simp only[Rep] at p;obtain⟨b,rfl,q⟩:=p;obtain⟨ws,z,t⟩:=r.at' n b _ q hS;cases m8 hk pi;cases (show vv=Cb b from rv)
  obtain⟨hz,hd,us',rel,dd⟩:=iB I.hok z;have hz':us'.length≤sizeLine:=by rw[← rel.length];exact hz
  obtain⟨k1,k2⟩:=pL (k:=k) t;have er:=rel.val k;refine call_meetsIn Nc dd.typeIs PySem.F.entry_dict_setdefault (b9 _ _ _) (kt_meets_setdefault (zI X.prog X.w) b (m7 qi) hd ux) ⟨us',dd,hz',fun v' hv'=>?_,fun hn h' dd' hs=>?_⟩
  ·cases hv:zP kvs k with
   |none =>
    rw[k2 hv,hv'] at er;exact An er
   |some d =>
    obtain⟨w',e1,e2⟩:=k1 d hv;rw[hv] at af;rw[e1,hv'] at er;exact⟨w',H,I.tok _,er,xr af r e2⟩
  ·cases hv:zP kvs k with
   |some d =>
    obtain⟨w',e1,e2⟩:=k1 d hv;rw[e1,hn] at er;exact An er
   |none =>
    rw[hv] at af;obtain⟨hl,af⟩:=xS (X:=X) af;have hl':(yL ws k vx).length≤sizeLine:=by
     have:=jJ ws k vx;have e3:=cJ t;rw[← zJ];omega
    have he:∃ q,h'.get? b=Ab q:=let ⟨q,_,_,hq,_⟩:=dd';⟨q,hq⟩
    have I':=t8 (t':=s.toks+1) I (by rw[z];exact Gm) hs he (oY hl' hd (rel.put k qx) dd')
    exact⟨vx,_,I',qx,af _ _ P α (r.put (m':=.dct (wB kvs k x)) q hS (by intro z;cases z) ⟨_,qQ,cK px t⟩) (qE.refl _) (Bb _) px⟩
def xR:Aa D→Am (Aa Al)
 |[]=>Ab []
 |.int i::r=>(xR r).map (i::·)
 |_::_=>none
theorem nX (ns:Aa Al):xR (ns.map D.int)=Ab ns:=by
 induction ns with
 |nil=>rfl
 |cons n r ih=>exact congrArg (Option.map (n::·)) ih
theorem uN:∀ {ds:Aa D} {ns:Aa Al},xR ds=Ab ns→ds=ns.map D.int
 |[],ns,h=>by cases h;rfl
 |d::r,ns,h=>by
  cases d with
  |int i =>
   obtain⟨m,h1,rfl⟩:=Cs.mp (show (xR r).map (i::·)=Ab ns from h)
   rw[uN h1];rfl
  |_=>exact nn h
theorem yQ {K:Ai}{P:Hp}{α:Aa Af}:∀ {ns:Aa Al} {vs:Aa V},qD K P α (ns.map D.int) vs→vs=ns.map V.int
 |[],vs,r=>by rw[r.nil_inv];rfl
 |n::ns,vs,r=>by
  obtain⟨w,ws,rfl,p,t⟩:=r.cons_inv;simp only[Rep] at p;rw[p,yQ t];rfl
def tI:G2:=fun a b S=>match a,b with
 |.tup xs,.tup ys=>match xR xs,xR ys with
  |some ns,Ab ms=>.ok (.bl (_H.lexLt ns ms)) S
  |_,_=>.bad
 |_,_=>gLt a b S
end
section
variable {X:Cx}
theorem rX {pins:Aa (Af × Cg)}{σ:_L.St}{H P:Hp}{α:Aa Af}{S:Sto}{s:Ag}{xs:Aa D}{v:V}{vv:Ac}{ns:Aa Al}(I:Inv X pins σ H s)(r:Rel X.K H P α S)(rv:qL v vv)(p:Rep X.K P α (.tup xs) v)(h:xR xs=Ab ns) :
  ∃ a its,vv=.ref a∧Nm s.heap a (Kv its)∧Ip its ns:=by
 have:=uN h;subst this;obtain⟨a,vs,its,rfl,q1,t1,rv1,h1,l1,_⟩:=vY I r p;have:=yQ t1;subst this;exact⟨a,its,rv,h1,by simpa using kR rv1⟩
set_option tactic.hygienic true in
theorem N7 (hu:X.A.units<Ex):OpD X (Dc .Lt) tI:=by
 intro pins σ H s P α S v u vv uu a b Q I r rv ru pa pb af;unfold tI at af
 split at af
 ·rename_i xs ys
  split at af
  ·rename_i ns ms h1 h2
   obtain⟨a,its,rfl,t1,i1⟩:=rX I r rv pa h1;obtain⟨b,its2,rfl,t2,i2⟩:=rX I r ru pb h2;exact _H.lt_tupInts t1 t2 (by simpa using i1) (by simpa using i2) hu ⟨.bl _,H,I,rfl,xr af r (by simp only[Rep])⟩
  ·exact An af
 ·exact UW pins σ H s P α S v u vv uu a b Q I r rv ru pa pb af
end
section
variable {K:Ai}{H P:Hp}{α : Aa Af}{S:Sto}
theorem Rel.still {a:Af}{n:Aj}{m:MO}{o:HO}(r:Rel K H P α S)(ha:α[n]? = Ab a)(hs:S[n]? = Ab m)(hd:m≠.dead):Rel K (upd H a o) (upd P a o) α (S.set n .dead)∧qE P (upd P a o):=by
 have hP:=r.sep n a m ha hs hd;have sP:qE P (upd P a o):=gB hP;have r1:=r.put (o:=o) (m':=.dead) ha hs hd trivial;have hn:n<S.length:=(Av.mp hs).1;refine⟨⟨r1.tb.keep (fun _ _ q _=>q) fun b u q _ p n=>⟨(qF fun (z:b=a)=>n (by rw[z];exact Bm ha)).trans p,n⟩,fun b u e=>?_,r1.len,r1.nd,fun i b u q1 q2 q3=>?_,fun i b u q1 q2=>(r1.at' i b u q1 q2).mono sP (Bb _),r1.own⟩,sP⟩
 ·by_cases hb:b=a
  ·subst hb;rw[qQ] at e ⊢;exact e
  ·rw[qF hb] at e ⊢;exact r.sub _ _ e
 ·have hb:b≠a:=by
   rintro rfl;have:=lF r.nd q1 ha;subst this;rw[Cw hn] at q2;cases q2;exact q3 rfl
  rw[qF hb];exact r1.sep i b u q1 q2 q3
end
def AI (f:DE):DI:=fun env S=>(f env S).bind fun d S1=>match d with
 |.loc n=>match S1[n]? with
  |some (.dct kvs)=>.ok (kvs.map (·.2)) (S1.set n .dead)
  |_=>.bad
 |_=>.bad
theorem cL {K:Ai}{P:Hp}{α:Aa Af}:∀ {kvs:Aa (Key × D)} {vs:Aa (Key × V)},KVs K P α kvs vs→qD K P α (kvs.map (·.2)) (vs.map (·.2))
 |_,_,.nil=>.nil
 |_,_,.cons z t=>.cons z.2 (cL t)
section
variable {X:Cx}{tg o:Bp}{fo:DE}{apos cpos:Ek}
theorem XN {S:Sto}{n:Aj}{kvs:Aa (Key × D)}(h:S[n]? = Ab (.dct kvs)):tyD (.loc n) S=Ab "dict":=by
 show (match S[n]? with|some (.lst _)=>Ab "list" | some (.dct _)=>Ab "dict" | _=>none)=_
 rw[h]
end
section
variable {X:Cx}
def pH:G2:=fun a b S=>match a,b with
 |.lst xs,.int k=>if 0≤k∧k<2 ^ 62∧xs.length*k.toNat≤lim then .ok (.lst (Ct k.toNat xs).flatten) S else .bad
 |_,_=>zN a b S
theorem rN {K:Ai}{P:Hp}{α:Aa Af}(r:qD K P α ds vs):∀ k:Aj,qD K P α (Ct k ds).flatten (Ct k vs).flatten
 |0=>by simpa using qD.nil
 |k+1=>by
  rw[Fz,Fz,He,He];exact r.append (rN r k)
inductive MulV (a b:D)(S:Sto):Prop
 |old (e:pH a b S=zN a b S)
 |of (xs:Aa D) (k:Al) (ea:a=.lst xs) (eb:b=.int k)
theorem CH (a b:D)(S:Sto):MulV a b S:=by
 cases a with
 |lst xs=>cases b with
  |int k=>exact .of xs k rfl rfl
  |_=>exact .old rfl
 |_=>exact .old rfl
theorem GQ:OpD X (Dz .Mult) pH:=by
 intro pins σ H s P α S v u vv uu a b Q I r rv ru pa pb af;cases CH a b S with
 |old e =>
  rw[e] at af;exact cR pins σ H s P α S v u vv uu a b Q I r rv ru pa pb af
 |of xs k ea eb =>
  subst ea eb;obtain⟨hk,af⟩:=xS (X:=X) af;obtain⟨h1,h2,hz⟩:=hk;obtain⟨l,vs,its,n,rfl,q1,t1,rv1,e,l1,_⟩:=vU I r pa;cases (show vv=Cb l from rv)
  have:=xF pb;subst this;obtain⟨t,rfl⟩:=ru;have hl:its.length=vs.length:=rv1.length.symm;have hlen:its.toArray.size*k.toNat≤sizeLine:=by rw[Aw,← l1,← zJ];exact hz
  have hcap:¬ its.toArray.size*k.toNat>(2 ^ 63-1)/8:=by
   have:(sizeLine:Aj)≤(2 ^ 63-1)/8:=by decide
   omega
  have hfit:¬ (!Builtin.List.listFitsIndex k)=true:=by
   rw[fitsIndex_both om om];exact Fp
  have hlong:¬ Km (its.toArray.size*k.toNat)=true:=by
   rw[YU hlen];exact Fp
  have hnew:Xm (fun x1 x2=>x1++x2) #[] (Ct (if its.toArray.isEmpty=true then 0 else k.toNat) its.toArray)=(Ct k.toNat its).flatten.toArray:=by
   have f0:∀ m:Aj,Xm (fun x1 x2=>x1++x2) #[] (Ct m its.toArray)=(Ct m its).flatten.toArray:=fun m=>by
    have:=nU its m [];rw[Hi] at this;exact this
   rw[f0];cases its with
   |nil=>simp
   |cons a r'=>rw[Bn (by simp)]
  refine wpAny_binaryOp_repeat_ref (T:="list") (U:="int") (by decide) ⟨_,e,rfl⟩ (fun s'=>Xl s' k t) noFill_list_mul F.fills_int_mul Wz repeat_list F.slot_int_index.lookup
   (Lm Wz (Xl s k t) F.entry_int_rmul (F.args_int_rmul_2 _ _) (int___rmul___int_list k t l its.toArray n)
    ⟨e,rfl,⟨_,e,rfl⟩,Lm F.slot_list_mul ⟨_,e,rfl⟩ F.entry_list_mul (F.args_list_mul_2 _ _) (AutoListH.list___mul___list_int_3 l its.toArray n k t hfit hcap hlong) ⟨e,?_⟩⟩)
  rw[hnew];exact bY I r (rN t1 k.toNat) (rv1.rep k.toNat) (by rw[GB,Nat.mul_comm];exact hz) af
theorem W0:Fl "set" = Ab (.type "set"):=by decide +kernel
variable {e:Bp}{fa:DE}{p1 p2 pos1 pos2:Ek}
end
structure QI2 (X:Cx)(tg it:Bp)(f:DI2):Prop where
 get:PI X tg it (tDI2 X f)
structure QK (Y:Cx)(step:Ac→Me Ow)(k:DK):Prop where
 get:PK Y step k
section
variable {X Y:Cx}{tg it e o elt iter ie:Bp}{es ifs rest:Aa Bp}{fa fo fe fi:DE}{fA:DA}{fI:DI}{f2:DI2}{g:DG}{t:DT}{kk:DK}{p pos:Ek}{n k:Aj}{x:As}{cm:Ar}{F:DF}{f:DS}{gens grest:Aa Fd}{scope:Ei}{N':Aa As}{cap:Aa (Am Aj)}{mm:Ar}
theorem X0 (h:QI X tg it fI):QI2 X tg it (xT fI):=⟨K4 h.1⟩
theorem LD (h:QE X e fa):QI2 X tg e (dIt fa):=⟨SJ h.1⟩
theorem PP {e1:Bp}{elts:Aa Bp}{x1:Aj}{tpos:Ek}(hg:Gl X "enumerate")(hm:X.mg "enumerate" = none)(ha:QA X [e1] fA)(hs:Bi [e1] X.env=(false,eval e1 X.env)::Bi [] X.env:=by rfl)(hpl:(Fq pos (Bi [] X.env)).any (·.1)=false:=by rfl) :
  QI X (.Tuple elts x1 tpos) (.Call (.Name "enumerate" p) [e1] [] pos) (d0 fA):=⟨K3 hg hm ha.1 hs hpl⟩
theorem cV (hx:Y.xe=fun _ _=>Ev)(hlast:gens[k+1]? = none)(he:QE Y elt fe):QK Y (fun acc=>xC elt gens scope pos k acc Y.env) (zT fe):=⟨GZ hx hlast he.1⟩
theorem VA (hc:X.calm=true)(S:CompSc X.env.scope X.N scope N' cap)(hi:QI2 X tg iter f2)(hg:∀ cl C ex s₀ H₀,QG (qY X N' scope cl C ex s₀ H₀) tg g)(ht:∀ cl C ex s₀ H₀,QTs (qY X N' scope cl C ex s₀ H₀) ifs t)
  (has:∀ g',(⟨tg,iter,ifs,0⟩::grest:Aa Fd)[0+1]? = Ab g'→g'.is_async=0)
  (he:∀ cl C ex s₀ H₀,QK (qY X N' scope cl C ex s₀ H₀) (fun acc=>xC elt (⟨tg,iter,ifs,0⟩::grest) scope pos 0 acc (qY X N' scope cl C ex s₀ H₀).env) kk) (hs:∀ x,Fh iter X.env x=pure x) :
  QE X (.ListComp elt (⟨tg,iter,ifs,0⟩::grest) scope pos) (zE mm cap f2 g t kk):=
 ⟨WH hc S hi.1 (fun cl C ex s H=>(hg cl C ex s H).1) (fun cl C ex s H=>(ht cl C ex s H).1) has (fun cl C ex s H=>(he cl C ex s H).1) hs⟩
theorem VE {y:As}{spos:Ek}(hc:X.calm=true)(hN:X.N.Nodup)(S:CompSc X.env.scope X.N scope N' cap)(hi:QI2 X tg iter f2)(hg:∀ cl C ex s₀ H₀,QG (qY X N' scope cl C ex s₀ H₀) tg g)(ht:∀ cl C ex s₀ H₀,QTs (qY X N' scope cl C ex s₀ H₀) ifs t)
  (has:∀ g',(⟨tg,iter,ifs,0⟩::grest:Aa Fd)[0+1]? = Ab g'→g'.is_async=0)
  (he:∀ cl C ex s₀ H₀,QK (qY X N' scope cl C ex s₀ H₀) (fun acc=>xC elt (⟨tg,iter,ifs,0⟩::grest) scope pos 0 acc (qY X N' scope cl C ex s₀ H₀).env) kk) (hy:X.N[m]? = Ab y) (hyl:Loc X.env.scope y) (hf:X.fn y=true∨X.env.scope.names.lookup y=Ab .local)
  (hsw:Lf (.ListComp elt (⟨tg,iter,ifs,0⟩::grest) scope pos) (Ab (.Name y py)) spos.line X.env=pure true) (hs:∀ x,Fh iter X.env x=pure x):QS X (.Assign [.Name y py] (.ListComp elt (⟨tg,iter,ifs,0⟩::grest) scope pos) spos) (qS (zE mm cap f2 g t kk) (gNm m)):=
 ⟨WQ hc hN S hi.1 (fun cl C ex s H=>(hg cl C ex s H).1) (fun cl C ex s H=>(ht cl C ex s H).1) has (fun cl C ex s H=>(he cl C ex s H).1) hy hyl hf hsw hs⟩
theorem U5:ZMt X "dict.setdefault" wJ:=⟨Z6⟩
theorem ER (hr:RoomC cm k X.A):ZOp X (Dc .Lt) tI:=⟨N7 (by have:=hu1 hr;omega)⟩
theorem DR:ZOp X (Dz .Mult) pH:=⟨GQ⟩
end
def jM (H:Hp):Aa (Af × HO)→Hp
 |[]=>H
 |p::ps=>jM (upd H p.1 p.2) ps
theorem nE {b:Af}:∀ {L:Aa (Af × HO)} {H:Hp},b ∉ L.map (·.1)→jM H L b=H b
 |[],_,_=>rfl
 |p::ps,H,h=>by
  simp only[Dv,Ay,Rk] at h;show jM (upd H p.1 p.2) ps b=H b;rw[nE h.2,qF h.1]
theorem rZ {b:Af}{u:HO}:∀ {L:Aa (Af × HO)} {H:Hp},jM H L b=Ab u→(b,u)∈L∨H b=Ab u
 |[],_,h=>.inr h
 |p::ps,H,h=>by
  rcases rZ (L:=ps) (H:=upd H p.1 p.2) h with h|h
  ·exact .inl (By _ h)
  ·by_cases hb:b=p.1
   ·subst hb
    rw[qQ] at h;cases h;exact .inl (Cn ..)
   ·rw[qF hb] at h
    exact .inr h
section
variable {X:Cx}{pins:Aa (Af × Cg)}{σ : _L.St}{H:Hp}{s:Ag}
theorem Inv.laidL {L:Aa (Af × HO)}{t':Aj}(I:Inv X pins σ H s)(k:∀ b u,s.heap.get? b=Ab u→h'.get? b=Ab u)(hp:∀ p∈L,s.heap.objs.size≤p.1)(new:∀ p∈L,zA X.prog X.w (jM H L) h' p.1 p.2) :
  Inv X pins σ (jM H L) { s with heap:=h',toks:=t' }:=by
 have old:∀ b u,H b=Ab u→jM H L b=Ab u:=fun b u e=>by
  rw[nE (L:=L)]
  ·exact e
  ·intro hb
   obtain⟨p,hp',rfl⟩:=Ci.mp hb;rw[I.hok.fresh (hp p hp')] at e;cases e
 have low:∀ b,b<s.heap.objs.size→jM H L b=H b:=fun b hb=>nE fun hm=>by
  obtain⟨p,hp',rfl⟩:=Ci.mp hm;exact absurd (Bf hb (hp p hp')) (Ea _)
 refine I.un ⟨fun b u q _ _ _=>k b u q,fun b u q _ _ _=>⟨u.slots,k b u q⟩,fun b u q n _=>by rw[low b (Ax q)];exact n,fun b u q _=>⟨u,k b u q⟩,fun b xs q=>old b _ q,fun b o xs q=>old b _ q,fun b ps q=>⟨#[],by rw[old b _ q];simp⟩⟩ fun b u e=>?_
 rcases rZ e with hm|hb
 ·exact new (b,u) hm
 ·exact(I.hok b u hb).stay (fun c v _ q=>k c v q) (fun c q=>old c _ q) fun c xs q=>old c _ q
end
def kD:Key→D
 |.inl i=>.int i
 |.inr x=>.str x
theorem MX {K:Ai}{P:Hp}{α:Aa Af}(k:Key):Rep K P α (kD k) (kV k):=by
 cases k <;> simp only[kD,kV,Rep]
theorem SZ {k:Key}{u:Ac}(h:kU k u=true):qL (kV k) u:=by
 rcases zQ h with⟨i,t,rfl,rfl⟩|⟨x,t,rfl,rfl⟩
 ·exact⟨t,rfl⟩
 ·exact⟨t,rfl⟩
theorem QU {κ:Type}:∀ {vs:Aa (κ × V)} {us:Aa (κ × Ac)},KV vs us→∀ {j:Aj} {q:κ × V},vs[j]? = Ab q→∃ u,us[j]? = Ab (q.1,u)∧qL q.2 u
 |_,_,.nil,j,q,h=>by simp at h
 |_,_,.cons (a:=x) (b:=y) z t,j,q,h=>by
  cases j with
  |zero =>
   simp at h;subst h;exact⟨y.2,by simp;exact Kc z.1.symm rfl,z.2⟩
  |succ j =>
   obtain⟨u,e1,e2⟩:=QU t (j:=j) (q:=q) (by simpa using h)
   exact⟨u,by simpa using e1,e2⟩
end _D
namespace _S
open PySem
variable {mask:Aj}{xs:Bl Aj}
def Rs (xs:Bl Aj):Prop:=xs.toList.Pairwise (· < ·)
theorem Rs.lt (h:Rs xs){a b:Aj}{x y:Aj}(hab:a<b)(ha:xs[a]? = Ab x)(hb:xs[b]? = Ab y):x<y:=by
 obtain⟨h1,e1⟩:=Dp.mp ha;obtain⟨h2,e2⟩:=Dp.mp hb;have:=OG.mp h a b (by simpa using h1) (by simpa using h2) hab
 rw[← e1,← e2];simpa using this
theorem getD_some {i x d:Aj}(h:xs[i]? = Ab x):xs.getD i d=x:=by
 obtain⟨h1,e1⟩:=Dp.mp h;simp[Hy,h1,e1]
structure Bel (xs:Bl Aj)(j p:Aj):Prop where
 le:p≤xs.size
 lo:∀ i x,i<p→xs[i]? = Ab x→x<j
 hi:∀ i x,p≤i→xs[i]? = Ab x→j≤x
set_option tactic.hygienic true in
theorem bM (h:Rs xs)(j:Aj):∀ (fuel lo hi:Aj),hi-lo≤fuel→lo≤hi→hi≤xs.size →
  (∀ i x,i<lo→xs[i]? = Ab x→x<j)→(∀ i x,hi≤i→xs[i]? = Ab x→j≤x)→Bel xs j (Vj xs j fuel lo hi)
 |0,lo,hi,h1,h2,h3,h4,h5=>by
  have:lo=hi:=by omega
  subst this;exact⟨h3,h4,h5⟩
 |fuel+1,lo,hi,h1,h2,h3,h4,h5=>by
  unfold Vj;by_cases hlt:lo<hi
  ·rw[Bh hlt]
   have hm:(lo+hi)/2<xs.size:=by omega
   have e:xs[(lo+hi)/2]? = Ab xs[(lo+hi)/2]:=Dt hm;simp only[getD_some e]
   split
   ·rename_i hc
    refine bM h j fuel _ hi (by omega) (by omega) h3 (fun i x hi' ex=>?_) h5
    by_cases q:i=(lo+hi)/2
    ·subst q;rw[e] at ex;cases ex;exact hc
    ·exact Ku (h.lt (by omega) ex e) hc
   ·rename_i hc
    refine bM h j fuel lo _ (by omega) (by omega) (by omega) h4 (fun i x hi' ex=>?_)
    by_cases q:i=(lo+hi)/2
    ·subst q;rw[e] at ex;cases ex;omega
    ·have:=h.lt (show (lo+hi)/2<i by omega) e ex
     omega
  ·rw[Bn hlt]
   have:lo=hi:=by omega
   subst this;exact⟨h3,h4,h5⟩
theorem uJ (h:Rs xs)(j:Aj):Bel xs j (Cc xs j):=
 bM h j _ _ _ (by omega) (by omega) (Az _) (fun i x hi=>by omega) fun i x hi ex=>by
  have:=(Dp.mp ex).1;omega
theorem bL (h:Rs xs){i j:Aj}(e:xs[i]? = Ab j):Cc xs j=i:=by
 have b:=uJ h j;have hi:=(Dp.mp e).1;by_cases h1:Cc xs j<i
 ·have e2:xs[Cc xs j]? = Ab xs[Cc xs j]:=Dt (by omega)
  have:=h.lt h1 e2 e;have:=b.hi _ _ (Az _) e2;omega
 ·by_cases h2:i<Cc xs j
  ·have:=b.lo _ _ h2 e
   omega
  ·omega
theorem aY (h:Rs xs){i j:Aj}(e:xs[i]? = Ab j):Cc xs (j+1)=i+1:=by
 have b:=uJ h (j+1);have hi:=(Dp.mp e).1;have h1:i<Cc xs (j+1):=by
  apply Fe;intro q;have:=b.hi _ _ (by omega) e
  omega
 by_cases h2:i+1<Cc xs (j+1)
 ·have hz:i+1<xs.size:=by have:=b.le;omega
  have e2:xs[i+1]? = Ab xs[i+1]:=Dt hz;have:=b.lo _ _ h2 e2;have:=h.lt (Ho i) e e2;omega
 ·omega
theorem aZ (h:Rs xs):Cc xs 0=0:=by
 have b:=uJ h 0;apply Fe;intro q;have hz:0<xs.size:=by have:=b.le;omega
 have e2:xs[0]? = Ab xs[0]:=Dt hz;have:=b.lo _ _ (by omega) e2
 omega
structure Tb (t:Ff):Prop where
 rs:Rs t.place
 dm:t.dummies=#[]
theorem c7 (j:Aj):Ul #[] j=false:=by simp[Ul]
theorem lM {t:Ff}(T:Tb t){i j:Aj}(e:t.place[i]? = Ab j):t.slot j=.live i:=by
 unfold Yi;simp only[bL T.rs e,e];simp
theorem iW {t:Ff}(T:Tb t)(j:Aj):(∃ i,t.slot j=.live i∧t.place[i]? = Ab j)∨(t.slot j=.empty∧j ∉ t.place.toList):=by
 by_cases h:j∈t.place.toList
 ·obtain⟨i,hi,e⟩:=De.mp h
  have e':t.place[i]? = Ab j:=by rw[← Bx,Ap hi,e]
  exact .inl ⟨i,lM T e',e'⟩
 ·refine .inr ⟨?_,h⟩
  unfold Yi;simp only[T.dm,c7];rw[Bn,Bn (by simp)]
  intro q;apply h;have:t.place[Cc t.place j]? = Ab j:=by simpa using q
  obtain⟨h1,e1⟩:=Dp.mp this;rw[← e1];simp
theorem XC (h:Rs xs){j:Aj}(hj:j ∉ xs.toList):Rs (Bs xs (Cc xs j) j):=by
 have b:=uJ h j;unfold Rs;rw[OU];have key:∀ (i:Aj) (x:Aj),xs.toList[i]? = Ab x→(i<Cc xs j→x<j)∧(Cc xs j≤i→j<x):=fun i x e=>by
  have e':xs[i]? = Ab x:=by rw[← Bx];exact e
  refine⟨fun q=>b.lo _ _ q e',fun q=>?_⟩;have h1:=b.hi _ _ q e';have:x≠j:=by
   rintro rfl;exact hj (Bm e)
  omega
 have tk:∀ x∈xs.toList.take (Cc xs j),x<j:=fun x hx=>by
  obtain⟨i,hi,e⟩:=De.mp hx;rw[Hm] at hi;rw[List.getElem_take] at e;exact(key i x (by rw[Ap (by omega),e])).1 (by omega)
 have dr:∀ x∈xs.toList.drop (Cc xs j),j<x:=fun x hx=>by
  obtain⟨i,hi,e⟩:=De.mp hx;rw[Iq] at hi;rw[List.getElem_drop] at e;exact(key (Cc xs j+i) x (by rw[Ap (by omega),e])).2 (by omega)
 rw[Sj,Ep];refine⟨Zm h,⟨dr,Zn h⟩,fun x hx y hy=>?_⟩;rcases Ay.mp hy with rfl|hy
 ·exact tk x hx
 ·exact Ku (tk x hx) (dr y hy)
theorem fX {α:Type}(xs:Bl α){p:Aj}(hp:p≤xs.size)(x:α)(i:Aj):(Bs xs p x)[i]? = if i<p then xs[i]? else if i=p then Ab x else xs[i-1]?:=by
 rw[← Bx,OU];have hl:(xs.toList.take p).length=p:=by simp;omega
 by_cases h1:i<p
 ·rw[Bh h1,Bg (by omega),OR h1,Bx]
 ·rw[Bn h1,Df (by omega),hl]
  by_cases h2:i=p
  ·subst h2;simp
  ·rw[Bn h2]
   obtain⟨k,hk⟩:∃ k,i-p=k+1:=⟨i-p-1,by omega⟩
   rw[hk,List.getElem?_cons_succ,List.getElem?_drop,Bx]
   congr 1;omega
theorem vO {α:Type}(xs:Bl α)(p:Aj)(x:α):(Bs xs p x).size=xs.size+1:=by
 have:=(Hq xs p x).length_eq;simpa using this
theorem NZ {t:Ff}(T:Tb t){j:Aj}(hj:j ∉ t.place.toList):Tb (t.put j).1:=by
 refine⟨XC T.rs hj,?_⟩;show (if Ul t.dummies j then _ else t.dummies)=#[]
 rw[T.dm,c7];rfl
open PySem.SetTable (Probe leap runEnd turns bits)
def adv (mask:Aj)(p:Lg):Lg:=if p.more>0 then { p with j:=p.j+1,more:=p.more-1 } else { p with j:=(leap mask p.i p.perturb).1,more:=Gu mask (leap mask p.i p.perturb).1-(leap mask p.i p.perturb).1,i:=(leap mask p.i p.perturb).1,perturb:=(leap mask p.i p.perturb).2 }
theorem F3 (t:Ff)(p:Lg):t.advance p=adv t.mask p:=rfl
def it (mask:Aj):Aj→Lg→Lg
 |0,p=>p
 |n+1,p=>it mask n (adv mask p)
theorem pJ (mask:Aj):∀ (n:Aj) (p:Lg),it mask (n+1) p=adv mask (it mask n p)
 |0,p=>rfl
 |n+1,p=>pJ mask n (adv mask p)
theorem m5 (mask:Aj):∀ (m n:Aj) (p:Lg),it mask (m+n) p=it mask n (it mask m p)
 |0,n,p=>by rw[Um];rfl
 |m+1,n,p=>by rw[Oh];exact m5 mask m n (adv mask p)
def rs (mask i pert:Aj):Lg:={ j:=i,more:=Gu mask i-i,i,perturb:=pert,dummy:=none }
def st (mask:Aj)(h:Al):Lg:=rs mask (bits h % (mask+1)) (bits h)
theorem EE (t:Ff)(h:Al):t.probeStart h=st t.mask h:=rfl
theorem p5 (mask i pert:Aj):∀ k,k≤Gu mask i-i→it mask k (rs mask i pert)={ j:=i+k,more:=Gu mask i-i-k,i,perturb:=pert,dummy:=none }
 |0,_=>rfl
 |k+1,hk=>by
  rw[pJ,p5 mask i pert k (by omega)]
  unfold adv;rw[Bh (by show Gu mask i-i-k>0;omega)]
  simp only[Probe.mk.injEq,and_true,true_and];omega
theorem cF (mask i pert:Aj):it mask (Gu mask i-i+1) (rs mask i pert)=rs mask (leap mask i pert).1 (leap mask i pert).2:=by
 rw[pJ,p5 mask i pert _ (Az _)];unfold adv;rw[Bn (by show ¬ (Gu mask i-i-(Gu mask i-i)>0);omega)]
 rfl
theorem LQ (mask i:Aj):Gu mask i-i+1≤10:=by
 unfold Gu
 split <;> omega
def lp (mask:Aj):Aj→Aj × Aj→Aj × Aj
 |0,q=>q
 |n+1,q=>lp mask n (leap mask q.1 q.2)
theorem Z3 (mask:Aj):∀ (m n:Aj) (q:Aj × Aj),lp mask (m+n) q=lp mask n (lp mask m q)
 |0,n,p=>by rw[Um];rfl
 |m+1,n,p=>by rw[Oh];exact Z3 mask m n _
theorem UO (mask:Aj):∀ (n i pert:Aj),∃ k,k≤10*n∧it mask k (rs mask i pert)=rs mask (lp mask n (i,pert)).1 (lp mask n (i,pert)).2
 |0,i,pert=>⟨0,by omega,rfl⟩
 |n+1,i,pert=>by
  obtain⟨k,hk,e⟩:=UO mask n (leap mask i pert).1 (leap mask i pert).2;refine⟨(Gu mask i-i+1)+k,by have:=LQ mask i;omega,?_⟩
  rw[m5,cF,e];rfl
theorem cO (mask:Aj):∀ (n i pert:Aj),(lp mask n (i,pert)).2=pert/32 ^ n
 |0,i,pert=>by simp[lp]
 |n+1,i,pert=>by
  show (lp mask n ((leap mask i pert).1,pert/32)).2=_;rw[cO mask n _ (pert/32),Nat.div_div_eq_div_mul,← Nat.pow_succ']
theorem tP (mask i pert:Aj):(leap mask i pert).1≤mask:=Jb (Nd _ (Kw _))
theorem US (mask:Aj):∀ (n i pert:Aj),i≤mask→(lp mask n (i,pert)).1≤mask
 |0,i,pert,h=>h
 |n+1,i,pert,h=>US mask n _ _ (tP mask i pert)
theorem eS (h:Al):bits h<2 ^ 64:=by
 unfold bits;have h1:(0:Al)≤h % 2 ^ 64:=Kg _ (by decide)
 have h2:h % 2 ^ 64<(2 ^ 64:Al):=Iy _ (by decide)
 omega
def cyc (mask:Aj):Aj→Aj→Aj
 |0,i=>i
 |n+1,i=>cyc mask n ((i*5+1) % (mask+1))
theorem pF (mask:Aj):∀ (m n i:Aj),cyc mask (m+n) i=cyc mask n (cyc mask m i)
 |0,n,p=>by rw[Um];rfl
 |m+1,n,p=>by rw[Oh];exact pF mask m n _
theorem Z4 (mask:Aj):∀ (n i:Aj),(lp mask n (i,0)).1=cyc mask n i
 |0,i=>rfl
 |n+1,i=>by
  show (lp mask n (leap mask i 0)).1=_;have:leap mask i 0=((i*5+1) % (mask+1),0):=by simp[leap]
  rw[this,Z4 mask n];rfl
def Msk (mask:Aj):Prop:=mask=7∨mask=31∨mask=127∨mask=511∨mask=2047
def orb (mask:Aj):Aj→Aj→Aj→Aj
 |0,_,acc=>acc
 |n+1,i,acc=>orb mask n ((i*5+1) % (mask+1)) (acc ||| 1 <<< i)
def oQ (mask:Aj):Ar:=orb mask (mask+1) 0 0 == 2 ^ (mask+1)-1&&cyc mask (mask+1) 0 == 0
theorem oR (h:Msk mask):oQ mask=true:=by
 rcases h with rfl|rfl|rfl|rfl|rfl <;> decide +kernel
theorem cS (mask e:Aj):∀ (n i acc:Aj),(orb mask n i acc).testBit e=true→acc.testBit e=true∨∃ m,m<n∧cyc mask m i=e
 |0,i,acc,h=>.inl h
 |n+1,i,acc,h=>by
  rcases cS mask e n _ _ h with q|⟨m,hm,q⟩
  ·rw[Nat.testBit_or,Mp] at q
   rcases q with q|q
   ·exact .inl q
   ·rw[Nat.one_shiftLeft,Nat.testBit_two_pow,Ch] at q
    exact .inr ⟨0,by omega,q⟩
  ·exact .inr ⟨m+1,by omega,q⟩
theorem WB (h:Msk mask){i e:Aj}(hi:i≤mask)(he:e≤mask):∃ n,n≤mask∧cyc mask n i=e:=by
 have a:=oR h;unfold oQ at a;rw[AT] at a;obtain⟨a1,a2⟩:=a;have a1:orb mask (mask+1) 0 0=2 ^ (mask+1)-1:=by simpa using a1
 have g:∀ e,e≤mask→∃ n,n≤mask∧cyc mask n 0=e:=fun e he=>by
  have q:(orb mask (mask+1) 0 0).testBit e=true:=by rw[a1,Nat.testBit_two_pow_sub_one];simp;omega
  rcases cS mask e _ _ _ q with q|⟨n,hn,q⟩
  ·simp at q
  ·exact⟨n,by omega,q⟩
 have a3:cyc mask (mask+1) 0=0:=by simpa using a2
 obtain⟨m,hm,em⟩:=g i hi;obtain⟨n,hn,en⟩:=g e he;by_cases q:m≤n
 ·refine⟨n-m,by omega,?_⟩
  rw[← em,← pF,show m+(n-m)=n by omega]
  exact en
 ·refine⟨n+(mask+1)-m,by omega,?_⟩
  rw[← em,← pF,show m+(n+(mask+1)-m)=(mask+1)+n by omega,pF,a3]
  exact en
theorem sX (h:Msk mask){i pert e:Aj}(hi:i≤mask)(hp:pert<2 ^ 64)(he:e≤mask):∃ n,n≤mask+13∧(lp mask n (i,pert)).1=e:=by
 have h0:(lp mask 13 (i,pert)).2=0:=by
  rw[cO];apply Nat.div_eq_of_lt;exact Ku hp (by decide)
 obtain⟨n,hn,q⟩:=WB h (US mask 13 i pert hi) he;refine⟨13+n,by omega,?_⟩
 rw[Z3];have:lp mask 13 (i,pert)=((lp mask 13 (i,pert)).1,0):=by rw[← h0]
 rw[this,Z4];exact q
theorem sT (h:Msk mask)(hs:Al){e:Aj}(he:e≤mask):∃ n,n<10*turns mask∧(it mask n (st mask hs)).j=e:=by
 obtain⟨n,hn,q⟩:=sX h (i:=bits hs % (mask+1)) (Jb (Nd _ (Kw _))) (eS hs) he;obtain⟨k,hk,e1⟩:=UO mask n (bits hs % (mask+1)) (bits hs);refine⟨k,by unfold turns;omega,?_⟩
 show (it mask k (rs mask _ _)).j=e;rw[e1];exact q
theorem bX (mask:Aj):∀ (n:Aj) (p:Lg),(it mask n p).dummy=p.dummy
 |0,p=>rfl
 |n+1,p=>by
  show (it mask n (adv mask p)).dummy=_;rw[bX mask n];unfold adv
  split <;> rfl
def Way (t:Ff)(p:Lg)(n:Aj):Prop:=∀ m,m<n→(it t.mask m p).j∈t.place.toList
inductive Meets (t:Ff)(hashAt:Aj→Al)(h:Al)(p:Lg)(fuel:Aj):Am SetTable.Met→Prop
 |emp (n:Aj) (hn:n<fuel) (w:Way t p n) (e:(it t.mask n p).j ∉ t.place.toList) (q:∀ m i,m<n→t.place[i]? = Ab (it t.mask m p).j→hashAt i≠h):Meets t hashAt h p fuel (Ab (.empty (it t.mask n p).j none))
 |cand (n i:Aj) (hn:n<fuel) (w:Way t p n) (e:t.place[i]? = Ab (it t.mask n p).j) (hh:hashAt i=h) (q:∀ m i,m<n→t.place[i]? = Ab (it t.mask m p).j→hashAt i≠h):Meets t hashAt h p fuel (Ab (.candidate (it t.mask n p).j i (it t.mask (n+1) p)))
theorem XB (h:Rs xs){a b x:Aj}(ha:xs[a]? = Ab x)(hb:xs[b]? = Ab x):a=b:=by rw[← bL h ha,bL h hb]
set_option tactic.hygienic true in
theorem kN {t:Ff}(T:Tb t)(hashAt:Aj→Al)(h:Al):∀ (fuel:Aj) (p:Lg),p.dummy=none→(∃ n,n<fuel∧(it t.mask n p).j ∉ t.place.toList)→Meets t hashAt h p fuel (Jc t hashAt h fuel p)
 |0,p,_,⟨n,hn,_⟩=>by omega
 |fuel+1,p,hd,⟨n,hn,hne⟩=>by
  unfold Jc;rcases iW T p.j with⟨i,e,ei⟩|⟨e,q⟩
  ·rw[e]
   simp only
   split
   ·rename_i hh
    exact Meets.cand 0 i (by omega) (fun m hm=>by omega) ei (by simpa using hh) fun m i hm=>by omega
   ·rename_i hh
    have hh':hashAt i≠h:=by simpa using hh
    have hn0:n≠0:=by
     rintro rfl;exact hne (Bm (by rw[Bx];exact ei))
    obtain⟨n',rfl⟩:∃ n',n=n'+1:=⟨n-1,by omega⟩
    have ih:=kN T hashAt h fuel (adv t.mask p) (by rw[← hd];exact bX t.mask 1 p) ⟨n',by omega,hne⟩
    rw[F3];have mem0:p.j∈t.place.toList:=Bm (by rw[Bx];exact ei)
    have up:∀ {k:Aj},Way t (adv t.mask p) k→Way t p (k+1):=fun {k} w m hm=>by
     cases m with
     |zero=>exact mem0
     |succ m=>exact w m (by omega)
    have upq:∀ {k:Aj},(∀ m i,m<k→t.place[i]? = Ab (it t.mask m (adv t.mask p)).j→hashAt i≠h)→∀ m i,m<k+1→t.place[i]? = Ab (it t.mask m p).j→hashAt i≠h:=fun {k} q m i' hm e'=>by
     cases m with
     |zero=>rw[XB T.rs e' ei];exact hh'
     |succ m=>exact q m i' (by omega) e'
    generalize hg:Jc t hashAt h fuel (adv t.mask p)=r at ih;cases ih with
    |emp k hk w e1 q1=>exact Meets.emp (p:=p) (k+1) (by omega) (up w) e1 (upq q1)
    |cand k i' hk w e1 hh1 q1=>exact Meets.cand (p:=p) (k+1) i' (by omega) (up w) e1 hh1 (upq q1)
  ·rw[e]
   simp only[hd];exact Meets.emp (p:=p) 0 (by omega) (fun m hm=>by omega) q fun m i hm=>by omega
end _S
namespace _S
open PySem
open PySem.SetTable (Probe leap runEnd turns bits)
variable {us:Aa Aj}{mask:Aj}{owner:Bl (Am Aj)}
structure Own (mask:Aj)(owner:Bl (Am Aj))(us:Aa Aj):Prop where
 size:owner.size=mask+1
 nd:us.Nodup
 le:∀ u∈us,u≤mask
 at':∀ j k,j≤mask→(owner.getD j (Ab 0)=Ab k↔us[k]? = Ab j)
theorem n9 {i:Aj}(hi:i≤mask):Gu mask i≤mask:=by
 unfold Gu
 split <;> omega
theorem nB (mask i:Aj):i≤Gu mask i:=by
 unfold Gu
 split <;> omega
theorem Own.none (O:Own mask owner us){j:Aj}(hj:j≤mask):(owner.getD j (Ab 0)).isNone=true↔j ∉ us:=by
 constructor
 ·intro h hm
  obtain⟨k,hk,e⟩:=De.mp hm;have:=(O.at' j k hj).mpr (by rw[Ap hk,e])
  rw[this] at h;cases h
 ·intro h
  cases q:owner.getD j (Ab 0) with
  |none=>rfl
  |some k=>exact absurd (Bm ((O.at' j k hj).mp q)) h
theorem nV (O:Own mask owner us):∀ (fuel i pert:Aj),i≤mask→(∃ L,L<fuel∧(lp mask L (i,pert)).1 ∉ us) →
  ∃ n,Hr mask owner fuel i pert=Ab (it mask n (rs mask i pert)).j∧(it mask n (rs mask i pert)).j≤mask∧(it mask n (rs mask i pert)).j ∉ us∧∀ m,m<n→(it mask m (rs mask i pert)).j∈us
 |0,i,pert,hi,⟨L,hL,_⟩=>by omega
 |fuel+1,i,pert,hi,⟨L,hL,hne⟩=>by
  unfold Hr;have hmx:=n9 hi;have hmn:=nB mask i;cases hf:(Ce (Gu mask i+1-i)).find? fun k=>(owner.getD (i+k) (Ab 0)).isNone with
  |some k =>
   obtain⟨h1,h2,h3⟩:=List.find?_range_eq_some.mp hf;have hk:k<Gu mask i+1-i:=Ej.mp h2;have ej:(it mask k (rs mask i pert)).j=i+k:=by rw[p5 mask i pert k (by omega)]
   refine⟨k,?_,?_,?_,fun m hm=>?_⟩
   ·rw[ej]
   ·rw[ej];omega
   ·rw[ej];exact(O.none (by omega)).mp h1
   ·rw[p5 mask i pert m (by omega)]
    have:=h3 m hm;apply Fe;intro q;rw[(O.none (show i+m≤mask by omega)).mpr q] at this
    cases this
  |none =>
   have hall:∀ k,k<Gu mask i+1-i→i+k∈us:=fun k hk=>by
    have:=Ub.mp hf k (Ej.mpr hk);apply Fe;intro q;exact this ((O.none (show i+k≤mask by omega)).mpr q)
   have hL0:L≠0:=by
    rintro rfl;exact hne (hall 0 (by omega))
   obtain⟨L',rfl⟩:∃ L',L=L'+1:=⟨L-1,by omega⟩
   obtain⟨n,q1,q2,q3,q4⟩:=nV O fuel (leap mask i pert).1 (leap mask i pert).2 (tP mask i pert) ⟨L',by omega,hne⟩
   have e:∀ m,it mask (Gu mask i-i+1+m) (rs mask i pert)=it mask m (rs mask (leap mask i pert).1 (leap mask i pert).2):=fun m=>by rw[m5,cF]
   refine⟨Gu mask i-i+1+n,?_,?_,?_,fun m hm=>?_⟩
   ·rw[e];exact q1
   ·rw[e];exact q2
   ·rw[e];exact q3
   ·by_cases hlt:m<Gu mask i-i+1
    ·rw[p5 mask i pert m (by omega)]
     exact hall m (by omega)
    ·obtain⟨m',rfl⟩:∃ m',m=Gu mask i-i+1+m':=⟨m-(Gu mask i-i+1),by omega⟩
     rw[e];exact q4 m' (by omega)
theorem gap (h:us.length≤mask):∃ e,e≤mask∧e ∉ us:=by
 apply Fe;intro q;have:Ce (mask+1) ⊆ us:=fun e he=>by
  apply Fe;intro r;exact q ⟨e,by have:=Ej.mp he;omega,r⟩
 have:=List.Nodup.length_le_of_subset Wj this;rw[Hj] at this;omega
theorem GU (mask:Aj):Own mask (Array.replicate (mask+1) none) []:=by
 refine⟨by simp,Lb,fun u hu=>by simp at hu,fun j k hj=>?_⟩
 have:j<mask+1:=by omega
 simp[Hy,this]
theorem V2 (O:Own mask owner us){j:Aj}(hj:j≤mask)(hn:j ∉ us):Own mask (owner.setIfInBounds j (Ab us.length)) (us++[j]):=by
 refine⟨by simp[O.size],?_,fun u hu=>?_,fun i k hi=>?_⟩
 ·rw[Hf]
  refine⟨O.nd,by simp,fun a ha b hb=>?_⟩
  simp at hb;rintro rfl;subst hb;exact hn ha
 ·rcases Co.mp hu with h|h
  ·exact O.le u h
  ·simp at h;omega
 ·have hsz:=O.size
  have hi':i<owner.size:=by omega
  have hk:∀ {k},us[k]? = Ab i→k<us.length:=fun q=>(Av.mp q).1;by_cases hij:j=i
  ·subst hij
   have e1:(owner.setIfInBounds j (Ab us.length)).getD j (Ab 0)=Ab us.length:=by simp[Hy,hi']
   rw[e1];constructor
   ·intro q;cases q;simp
   ·intro q
    by_cases h1:k<us.length
    ·rw[Bg h1] at q
     exact absurd (Bm q) hn
    ·rw[Df (by omega)] at q
     have:k-us.length=0:=by
      cases hz:k-us.length with
      |zero=>rfl
      |succ z=>rw[hz] at q;simp at q
     congr 1;omega
  ·have e1:(owner.setIfInBounds j (Ab us.length)).getD i (Ab 0)=owner.getD i (Ab 0):=by
    simp[Hy,hi',Array.getElem_setIfInBounds,hij]
   rw[e1,O.at' i k hi];constructor
   ·intro q;rw[Bg (hk q)];exact q
   ·intro q
    by_cases h1:k<us.length
    ·rw[Bg h1] at q;exact q
    ·rw[Df (by omega)] at q
     cases hz:k-us.length with
     |zero=>rw[hz] at q;simp at q;exact absurd q hij
     |succ z=>rw[hz] at q;simp at q
def aP (mask:Aj)(us:Aa Aj)(hs:Aa Al):Prop:=∀ (k:Aj) (h:Al),hs[k]? = Ab h→∃ n,us[k]? = Ab (it mask n (st mask h)).j∧∀ m,m<n→(it mask m (st mask h)).j∈us
theorem nR (hM:Msk mask):∀ (hs done:Aa Al) (owner:Bl (Am Aj)) (us:Aa Aj),Own mask owner us→us.length=done.length→done.length+hs.length≤mask→aP mask us done →
  ∃ owner' us',hs.foldl (fun acc h=>do
   let (owner,k) ← acc
   let j ← Hr mask owner (turns mask) (bits h % (mask+1)) (bits h)
   pure (owner.setIfInBounds j (Ab k),k+1)) (Ab (owner,us.length))=Ab (owner',us'.length)∧Own mask owner' us'∧us'.length=done.length+hs.length∧aP mask us' (done++hs)
 |[],done,owner,us,O,hl,_,hL=>⟨owner,us,rfl,O,by simpa using hl,by simpa using hL⟩
 |h::hs,done,owner,us,O,hl,hlen,hL=>by
  rw[Cj] at hlen;obtain⟨e,he,hne⟩:=gap (mask:=mask) (us:=us) (by omega)
  obtain⟨L,hLn,hLe⟩:=sX hM (i:=bits h % (mask+1)) (Jb (Nd _ (Kw _))) (eS h) he;obtain⟨n,q1,q2,q3,q4⟩:=nV O (turns mask) (bits h % (mask+1)) (bits h) (Jb (Nd _ (Kw _))) ⟨L,by unfold turns;omega,by rw[hLe];exact hne⟩
  have O':=V2 O q2 q3;have hL':aP mask (us++[(it mask n (rs mask (bits h % (mask+1)) (bits h))).j]) (done++[h]):=fun k h' e'=>by
   by_cases hk:k<done.length
   ·rw[Bg hk] at e'
    obtain⟨n',w1,w2⟩:=hL k h' e';exact⟨n',by rw[Bg (by omega)];exact w1,fun m hm=>Dd _ (w2 m hm)⟩
   ·rw[Df (by omega)] at e'
    cases hz:k-done.length with
    |succ z=>rw[hz] at e';simp at e'
    |zero =>
     rw[hz] at e';simp at e';subst e';refine⟨n,?_,fun m hm=>Dd _ (q4 m hm)⟩;rw[Df (by omega),hl,hz]
     rfl
  obtain⟨owner',us',r1,r2,r3,r4⟩:=nR hM hs (done++[h]) _ _ O' (by simp[hl]) (by simp;omega) hL'
  refine⟨owner',us',?_,r2,by simpa [Nat.add_assoc,Ys 1] using r3,by simpa using r4⟩
  rw[Kf];rw[Ca] at r1;have e0:(do
   let (owner,k) ← Ab (owner,us.length)
   let j ← Hr mask owner (turns mask) (bits h % (mask+1)) (bits h)
   pure (owner.setIfInBounds j (Ab k),k+1))=Ab (owner.setIfInBounds (it mask n (rs mask (bits h % (mask+1)) (bits h))).j (Ab us.length),us.length+1):=by
   show (Hr mask owner (turns mask) (bits h % (mask+1)) (bits h)).bind _=_;rw[q1];rfl
  rw[e0];exact r1
theorem lT (hM:Msk mask)(hs:Bl Al)(hlen:hs.size≤mask):∃ owner us,Vk mask hs=Ab owner∧Own mask owner us∧us.length=hs.size∧aP mask us hs.toList:=by
 obtain⟨owner',us',r1,r2,r3,r4⟩:=nR hM hs.toList [] _ [] (GU mask) rfl (by simpa using hlen) (fun k h e=>by simp at e)
 refine⟨owner',us',?_,r2,by simpa using r3,by simpa using r4⟩
 unfold Vk;rw[← Array.foldl_toList];have:(([]:Aa Aj).length)=0:=rfl;rw[this] at r1
 erw [r1]
 rfl
structure Laid (mask:Aj)(hs:Bl Al)(t:Ff)(qP:Bl Aj):Prop where
 msk:t.mask=mask
 tb:Tb t
 size:t.place.size=hs.size
 le:∀ x∈t.place.toList,x≤mask
 perm:qP.toList.Perm (Ce hs.size)
 way:∀ (i k:Aj) (h:Al),qP[i]? = Ab k→hs[k]? = Ab h→∃ n,t.place[i]? = Ab (it mask n (st mask h)).j∧Way t (st mask h) n
theorem QX (hM:Msk mask)(hs:Bl Al)(hlen:hs.size≤mask)(finger moves:Aj)(led plain:Ar) :
  ∃ t qP,Th mask finger moves led plain hs=Ab (t,qP)∧t.led=led∧t.plain=plain∧Laid mask hs t qP:=by
 obtain⟨owner,us,e,O,hl,hL⟩:=lT hM hs hlen;have hg:∀ j,j≤mask→owner.getD j none=owner.getD j (Ab 0):=fun j hj=>by
  have:j<owner.size:=by rw[O.size];omega
  simp[Hy,this]
 generalize hlv:((Ce (mask+1)).filterMap fun j=>(owner.getD j none).map (j,·))=live
 have mem:∀ (j k:Aj),(j,k)∈live↔us[k]? = Ab j:=fun j k=>by
  rw[← hlv,Gg];constructor
  ·rintro⟨j',hj',q⟩
   have hj'':j'≤mask:=by have:=Ej.mp hj';omega
   rw[hg j' hj''] at q;cases hz:owner.getD j' (Ab 0) with
   |none=>rw[hz] at q;cases q
   |some k' =>
    rw[hz] at q;simp at q;obtain⟨rfl,rfl⟩:=q;exact(O.at' _ _ hj'').mp hz
  ·intro q
   have hj:j≤mask:=O.le j (Bm q);refine⟨j,Ej.mpr (by omega),?_⟩
   rw[hg j hj,(O.at' j k hj).mpr q];rfl
 have hfst:live.map (·.1)=(Ce (mask+1)).filter fun j=>(owner.getD j none).isSome:=by
  rw[← hlv,List.map_filterMap];generalize owner.getD=f
  induction Ce (mask+1) with
  |nil=>rfl
  |cons a l ih =>
   rw[Fw,List.filter_cons];cases hz:f a none with
   |none=>simpa using ih
   |some k=>simpa using ih
 have hR:(live.map (·.1)).Pairwise (· < ·):=by
  rw[hfst];exact Zh _ List.pairwise_lt_range
 have ndl:(live.map (·.2)).Nodup:=by
  unfold Pj;rw[Dx];have h1:=Dx.mp hR;refine OV (fun {a b} ha hb hab=>?_) h1;intro q;have ea:=(mem a.1 a.2).mp ha;have eb:=(mem b.1 b.2).mp hb;rw[← q,ea] at eb;simp at eb;omega
 have pm:(live.map (·.2)).Perm (Ce hs.size):=by
  rw[List.perm_ext_iff_of_nodup ndl Wj];intro k;rw[Ci,Ej,← hl];constructor
  ·rintro⟨⟨j,k'⟩,h1,rfl⟩
   exact(Av.mp ((mem j k').mp h1)).1
  ·intro hk
   exact⟨(us[k],k),(mem _ _).mpr (Ap hk),rfl⟩
 have hmem:∀ j,j∈live.map (·.1)↔j∈us:=fun j=>by
  rw[Ci];constructor
  ·rintro⟨⟨j',k⟩,h1,rfl⟩
   exact Bm ((mem _ _).mp h1)
  ·intro h1
   obtain⟨k,hk,e⟩:=De.mp h1;exact⟨(j,k),(mem _ _).mpr (by rw[Ap hk,e]),rfl⟩
 refine⟨{ mask,place:=(live.map (·.1)).toArray,dummies:=#[],finger,led,moves,plain },(live.map (·.2)).toArray,?_,rfl,rfl,rfl,⟨?_,rfl⟩,?_,fun x hx=>?_,?_,fun i k h e1 e2=>?_⟩
 ·unfold Th
  rw[e,← hlv];rfl
 ·exact hR
 ·have:=pm.length_eq
  simp at this ⊢;exact this
 ·exact O.le x ((hmem x).mp hx)
 ·exact pm
 ·have e1':(live.map (·.2))[i]? = Ab k:=by simpa using e1
  rw[Dg] at e1';cases hz:live[i]? with
  |none=>rw[hz] at e1';cases e1'
  |some jk =>
   rw[hz] at e1';simp at e1';have hin:=Bm hz;have hu:=(mem jk.1 jk.2).mp hin;obtain⟨n,w1,w2⟩:=hL k h (by rw[Bx];exact e2)
   rw[← e1'] at w1;rw[hu] at w1;refine⟨n,?_,fun m hm=>?_⟩
   ·rw[← w1]
    simp[hz]
   ·have:=(hmem _).mpr (w2 m hm)
    simpa using this
theorem B8 {t:Ff}{hs:Bl Al}{w:Aj}:SetTable.relaid t hs w=Th (Er w-1) t.finger (t.movedTo (Er w-1)) t.led t.plain hs:=rfl
end _S
namespace _S
open PySem
open PySem.SetTable (Probe leap runEnd turns bits)
structure Set0 {K:Type}(is:K→Ac→Prop)(hash:K→Al)(es:Bl (Al × Ac))(seen:Aa K):Prop where
 good:∀ e∈es.toList,∃ k,e.1=hash k∧is k e.2
 nd:es.toList.Pairwise fun a b=>∀ k,is k a.2→¬ is k b.2
 mem:∀ k,k∈seen↔∃ e∈es.toList,is k e.2
section
variable {K:Type}{is:K→Ac→Prop}{hash:K→Al}{es es':Bl (Al × Ac)}{seen seen':Aa K}
theorem Set0.perm (Z:Set0 is hash es seen)(p:es'.toList.Perm es.toList):Set0 is hash es' seen:=
 ⟨fun e he=>Z.good e (p.mem_iff.mp he),(p.pairwise_iff fun {x y} h k hy hx=>h k hx hy).mpr Z.nd,fun k=>(Z.mem k).trans ⟨fun ⟨e,he,q⟩=>⟨e,p.mem_iff.mpr he,q⟩,fun ⟨e,he,q⟩=>⟨e,p.mem_iff.mp he,q⟩⟩⟩
theorem Set0.nil:Set0 is hash #[] []:=⟨fun e he=>by simp at he,by simp,fun k=>by simp⟩
theorem Set0.push (Z:Set0 is hash es seen)(inj:∀ {k k':K} {v:Ac},is k v→is k' v→k=k'){k:K}{x:Ac}(hk:is k x)(hn:k ∉ seen)(p:es'.toList.Perm (es.toList++[(hash k,x)])):Set0 is hash es' (k::seen):=by
 refine Set0.perm (es:=es.push (hash k,x)) ⟨fun e he=>?_,?_,fun k'=>?_⟩ (by simpa using p)
 ·rw[Hk] at he
  rcases Co.mp he with he|he
  ·exact Z.good e he
  ·simp at he;subst he;exact⟨k,rfl,hk⟩
 ·rw[Hk,Sj]
  refine⟨Z.nd,by simp,fun a ha b hb k' h1 h2=>?_⟩
  simp at hb;subst hb;have:=inj hk h2;subst this;exact hn ((Z.mem k).mpr ⟨a,ha,h1⟩)
 ·rw[Ay,Z.mem,Hk]
  constructor
  ·rintro (rfl|⟨e,he,q⟩)
   ·exact⟨(hash k',x),by simp,hk⟩
   ·exact⟨e,Dd _ he,q⟩
  ·rintro⟨e,he,q⟩
   rcases Co.mp he with he|he
   ·exact .inr ⟨e,he,q⟩
   ·simp at he;subst he;exact .inl (inj q hk)
theorem Set0.again (Z:Set0 is hash es seen){k:K}(hk:k∈seen):Set0 is hash es (k::seen):=
 ⟨Z.good,Z.nd,fun k'=>by rw[Ay,Z.mem];exact⟨fun h=>h.elim (fun e=>by subst e;exact(Z.mem _).mp hk) id,.inr⟩⟩
end
section
open Classical in
theorem f7 {K:Type}{is:K→Ac→Prop}:∀ (L:Aa (Al × Ac)) (U:Aa K),L.Pairwise (fun a b=>∀ k,is k a.2→¬ is k b.2)→(∀ e∈L,∃ k∈U,is k e.2)→L.length≤U.length
 |[],U,_,_=>Gx _
 |e::L,U,nd,h=>by
  rw[Ep] at nd;obtain⟨k0,hk0,q0⟩:=h e (by simp)
  have ih:=f7 L (U.erase k0) nd.2 fun e' he'=>by
   obtain⟨k,hk,q⟩:=h e' (by simp[he'])
   have:k≠k0:=fun z=>nd.1 e' he' k0 q0 (z▸q);exact⟨k,(Sk this).mpr hk,q⟩
  rw[OW hk0] at ih;have:0<U.length:=Qu hk0;rw[Cj];omega
open Classical in
theorem Set0.few {K:Type}{is:K→Ac→Prop}{hash:K→Al}{es:Bl (Al × Ac)}{seen U:Aa K}{k:K}(Z:Set0 is hash es seen)(hU:∀ k'∈seen,k'∈U)(hk:k∈U)(hn:k ∉ seen):es.size<U.length:=by
 have:=f7 es.toList (U.erase k) Z.nd fun e he=>by
  obtain⟨k',_,q⟩:=Z.good e he;have hs:=(Z.mem k').mpr ⟨e,he,q⟩;have hne:k'≠k:=fun z=>hn (z▸hs);exact⟨k',(Sk hne).mpr (hU k' hs),q⟩
 rw[OW hk,Cz] at this;have:0<U.length:=Qu hk;omega
end
structure TabT (t:Ff)(es:Bl (Al × Ac)):Prop where
 tb:Tb t
 msk:Msk t.mask
 size:t.place.size=es.size
 le:∀ x∈t.place.toList,x≤t.mask
 few:es.size*5<t.mask*3
 way:∀ (i:Aj) (e:Al × Ac),es[i]? = Ab e→∃ n,t.place[i]? = Ab (it t.mask n (st t.mask e.1)).j∧Way t (st t.mask e.1) n
 plain:t.plain=true
theorem TabT.fits {t:Ff}{es:Bl (Al × Ac)}(T:TabT t es):t.fits es.size=true:=by
 have h1:=T.size;have h2:=T.few;have h3:t.fill=es.size:=by unfold Jx;rw[T.tb.dm,h1];rfl
 unfold Ti;rw[h3,h1];rcases T.msk with h|h|h|h|h <;> rw[h] at h2 ⊢ <;> simp <;> omega
theorem TabT.gap {t:Ff}{es:Bl (Al × Ac)}(T:TabT t es):∃ e,e≤t.mask∧e ∉ t.place.toList:=by
 apply _S.gap;rw[Cz,T.size];have h2:=T.few;rcases T.msk with h|h|h|h|h <;> rw[h] at h2 ⊢ <;> omega
theorem TabT.odd {t:Ff}{es:Bl (Al × Ac)}(T:TabT t es):t.gaveWay=false:=by
 unfold SetTable.gaveWay;rcases T.msk with h|h|h|h|h <;> rw[h] <;> rfl
theorem TabT.put {t:Ff}{es:Bl (Al × Ac)}(T:TabT t es){h:Al}{x:Ac}{n:Aj}(w:Way t (st t.mask h) n)(hn:(it t.mask n (st t.mask h)).j ∉ t.place.toList)(hle:(it t.mask n (st t.mask h)).j≤t.mask) :
  let es':=Bs es (t.put (it t.mask n (st t.mask h)).j).2 (h,x)
  Tb (t.put (it t.mask n (st t.mask h)).j).1∧(t.put (it t.mask n (st t.mask h)).j).1.place.size=es'.size∧(∀ y∈(t.put (it t.mask n (st t.mask h)).j).1.place.toList,y≤t.mask) ∧
  (∀ (i:Aj) (e:Al × Ac),es'[i]? = Ab e→∃ m,(t.put (it t.mask n (st t.mask h)).j).1.place[i]? = Ab (it t.mask m (st t.mask e.1)).j∧Way (t.put (it t.mask n (st t.mask h)).j).1 (st t.mask e.1) m):=by
 generalize hj:(it t.mask n (st t.mask h)).j=j at *;have pm:∀ y,y∈(t.put j).1.place.toList↔y=j∨y∈t.place.toList:=fun y=>by
  show y∈(Bs t.place (Cc t.place j) j).toList↔_;rw[(Hq _ _ _).mem_iff];simp[or_comm]
 have hb:Cc t.place j≤t.place.size:=(uJ T.tb.rs j).le;have wm:∀ {p:Lg} {m:Aj},Way t p m→Way (t.put j).1 p m:=fun {p m} w q hq=>(pm _).mpr (.inr (w q hq));refine⟨NZ T.tb hn,?_,fun y hy=>?_,fun i e he=>?_⟩
 ·show (Bs t.place _ j).size=(Bs es _ (h,x)).size
  rw[vO,vO,T.size]
 ·rcases (pm y).mp hy with rfl|hy
  ·exact hle
  ·exact T.le y hy
 ·have he':(if i<Cc t.place j then es[i]? else if i=Cc t.place j then Ab (h,x) else es[i-1]?)=Ab e:=by
   rw[← fX es (by rw[← T.size];exact hb)]
   exact he
  have pl:(t.put j).1.place[i]? = if i<Cc t.place j then t.place[i]? else if i=Cc t.place j then Ab j else t.place[i-1]?:=fX t.place hb j i
  rw[pl];by_cases h1:i<Cc t.place j
  ·rw[Bh h1] at he' ⊢
   obtain⟨m,q1,q2⟩:=T.way i e he';exact⟨m,q1,wm q2⟩
  ·rw[Bn h1] at he' ⊢
   by_cases h2:i=Cc t.place j
   ·rw[Bh h2] at he' ⊢
    cases he';exact⟨n,by rw[hj],wm w⟩
   ·rw[Bn h2] at he' ⊢
    obtain⟨m,q1,q2⟩:=T.way _ e he';exact⟨m,q1,wm q2⟩
theorem UN {mask:Aj}(p:Lg)(hp:p.j+p.more≤mask):∀ n,(it mask n p).j+(it mask n p).more≤mask
 |0=>hp
 |n+1=>by
  rw[pJ];have ih:=UN p hp n;unfold adv
  split
  ·show (it mask n p).j+1+((it mask n p).more-1)≤mask
   omega
  ·show (leap mask _ _).1+(Gu mask (leap mask _ _).1-(leap mask _ _).1)≤mask
   have h1:=n9 (tP mask (it mask n p).i (it mask n p).perturb);have h2:=nB mask (leap mask (it mask n p).i (it mask n p).perturb).1;omega
theorem JA (mask:Aj)(h:Al)(n:Aj):(it mask n (st mask h)).j≤mask:=by
 have h0:bits h % (mask+1)≤mask:=Jb (Nd _ (Kw _));have:=UN (mask:=mask) (st mask h) (by
  show bits h % (mask+1)+(Gu mask (bits h % (mask+1))-bits h % (mask+1))≤mask;have h1:=n9 h0;have h2:=nB mask (bits h % (mask+1));omega) n
 omega
theorem bF {t:Ff}{es:Bl (Al × Ac)}(hM:Msk t.mask)(hp:t.plain=true)(h1:t.place.size=es.size)(h2:es.size≤1001)(hf:t.tooFull=true)(hd:t.dummies=#[])(h3:(es.size-1)*5<t.mask*3)(h4:0<es.size) :
  Er (Gq es.size)≤2048∧∃ t' qP,t.relaid (es.map (·.1)) (Gq es.size)=Ab (t',qP)∧t'.led=t.led∧(qP.filterMap (es[·]?)).toList.Perm es.toList∧TabT t' (qP.filterMap (es[·]?))∧qP.toList.Perm (Ce es.size):=by
 have hfill:t.fill=es.size:=by unfold Jx;rw[hd,h1];rfl
 have hful:t.mask*3≤es.size*5:=by
  unfold Pk at hf;rw[hfill] at hf;simpa using hf
 have hcase:(es.size=5∧Er (Gq es.size)=32)∨(es.size=19∧Er (Gq es.size)=128)∨(es.size=77∧Er (Gq es.size)=512)∨(es.size=307∧Er (Gq es.size)=2048):=by
  rcases hM with h|h|h|h|h <;> rw[h] at hful h3
  ·have:es.size=5:=by omega
   exact .inl ⟨this,by rw[this];decide⟩
  ·have:es.size=19:=by omega
   exact .inr (.inl ⟨this,by rw[this];decide⟩)
  ·have:es.size=77:=by omega
   exact .inr (.inr (.inl ⟨this,by rw[this];decide⟩))
  ·have:es.size=307:=by omega
   exact .inr (.inr (.inr ⟨this,by rw[this];decide⟩))
  ·omega
 have hM':Msk (Er (Gq es.size)-1):=by
  rcases hcase with⟨_,h⟩|⟨_,h⟩|⟨_,h⟩|⟨_,h⟩ <;> rw[h]
  ·exact .inr (.inl rfl)
  ·exact .inr (.inr (.inl rfl))
  ·exact .inr (.inr (.inr (.inl rfl)))
  ·exact .inr (.inr (.inr (.inr rfl)))
 have hle:(es.map (·.1)).size≤Er (Gq es.size)-1:=by
  rw[Sc];rcases hcase with⟨h5,h⟩|⟨h5,h⟩|⟨h5,h⟩|⟨h5,h⟩ <;> rw[h,h5] <;> omega
 obtain⟨t',qP,e,l1,l2,L⟩:=QX hM' (es.map (·.1)) hle t.finger (t.movedTo (Er (Gq es.size)-1)) t.led t.plain
 have hosz:qP.size=es.size:=by
  have:=L.perm.length_eq;simpa using this
 have hord:∀ i k,qP[i]? = Ab k→k<es.size:=fun i k q=>by
  have:k∈Ce (es.map (·.1)).size:=L.perm.mem_iff.mp (Bm (by rw[Bx];exact q))
  simpa using this
 have hfm:(qP.filterMap (es[·]?)).toList=qP.toList.map fun k=>es.toList.getD k (0,.none):=by
  rw[Array.toList_filterMap];have:∀ l:Aa Aj,(∀ k∈l,k<es.size)→l.filterMap (es[·]?)=l.map fun k=>es.toList.getD k (0,.none):=by
   intro l
   induction l with
   |nil=>intro _;rfl
   |cons a l ih =>
    intro hl;have ha:=hl a (by simp)
    rw[Fw,Dv,ih fun k hk=>hl k (by simp[hk])]
    rw[Dt ha];simp[ha]
  refine this _ fun k hk=>?_;obtain⟨i,hi,q⟩:=De.mp hk;exact hord i k (by rw[← Bx,Ap hi,q])
 have hperm:(qP.filterMap (es[·]?)).toList.Perm es.toList:=by
  rw[hfm];have p1:=L.perm.map fun k=>es.toList.getD k (0,Ez);refine p1.trans ?_;have e2:(Ce (es.map (·.1)).size).map (fun k=>es.toList.getD k (0,Ez))=es.toList:=by
   apply Wk
   ·simp
   ·intro i a1 a2
    have a3:i<es.size:=by simpa using a2
    simp[a3]
  rw[e2]
 have hsz:(qP.filterMap (es[·]?)).size=es.size:=by rw[← Cz,hperm.length_eq,Cz]
 have hentry:∀ i,(qP.filterMap (es[·]?))[i]? = (qP[i]?).map fun k=>es.toList.getD k (0,.none):=fun i=>by
  rw[← Bx,hfm,Dg,Bx]
 refine⟨by rcases hcase with⟨_,h⟩|⟨_,h⟩|⟨_,h⟩|⟨_,h⟩ <;> rw[h] <;> decide,t',qP,by rw[B8];exact e,l1,hperm,⟨L.tb,by rw[L.msk];exact hM',by rw[L.size,hsz,Sc],by rw[L.msk];exact L.le,?_,fun i en q=>?_,by rw[l2];exact hp⟩,by have:=L.perm;rwa [Sc] at this⟩
 ·rw[hsz,L.msk]
  rcases hcase with⟨h5,h⟩|⟨h5,h⟩|⟨h5,h⟩|⟨h5,h⟩ <;> rw[h,h5] <;> omega
 ·rw[hentry] at q
  cases hz:qP[i]? with
  |none=>rw[hz] at q;cases q
  |some k =>
   rw[hz] at q;simp only[Mr,Option.some.injEq] at q;have hk:=hord i k hz;have:(es.map (·.1))[k]? = Ab en.1:=by
    rw[Array.getElem?_map,Dt hk];rw[← q];simp[hk]
   rw[L.msk];exact L.way i k en.1 hz this
end _S
namespace _S
open PySem
open PySem.SetTable (Probe leap runEnd turns bits)
variable {Q:Ar→Ag→Prop}
def Sup (h0 h:Bk):Prop:=∀ b o,h0.get? b=Ab o→h.get? b=Ab o
def isT (prog:Be)(w:Bt)(h0:Bk)(ks:Aa Al)(v:Ac):Prop:=∃ a,v=.ref a∧Ng (Bd prog w) h0 ks a
section
variable {prog:Be}{w:Bt}{h0:Bk}
theorem isT.inj {x y:Aa Al}{v:Ac}(hx:isT prog w h0 x v)(hy:isT prog w h0 y v):x=y:=by
 obtain⟨a,rfl,h1⟩:=hx;obtain⟨b,e,h2⟩:=hy;cases e;exact h1.inj h2
theorem vX {h:Bk}{ks:Aa Al}{a:Af}(hS:Sup h0 h)(hx:Ng (Bd prog w) h0 ks a):Ng (Bd prog w) h ks a:=by
 obtain⟨o,items,n,ho,r⟩:=hx;exact⟨o,items,n,hS _ _ ho,r⟩
variable {A:Bu}{E:Ac→Ag→Prop}{s:Ag}
theorem SU {k:Aa Al}{v:Ac}{Q:Al→Ag→Prop}(hu:A.units<Ex)(hS:Sup h0 s.heap)(hx:isT prog w h0 k v)(h:Q (Bo (Bd prog w) k) { s with toks:=s.toks+(k.length+1) }) : Ao (Au prog w) A (pyHash v) Q E s:=by
 obtain⟨a,rfl,hx⟩:=hx;exact wpAny_pyHash_tuple hu (vX hS hx) h
theorem eqT {k k':Aa Al}{v v':Ac}(hu:A.units<Ex)(hS:Sup h0 s.heap)(hx:isT prog w h0 k v)(hy:isT prog w h0 k' v')(h:Q (decide (k=k')) s):Ao (Au prog w) A (eqBool v v') Q E s:=by
 obtain⟨a,rfl,hx⟩:=hx;obtain⟨b,rfl,hy⟩:=hy;exact wpAny_eqBool_tuple hu (vX hS hx) (vX hS hy) h
theorem m6:∀ {ks:Aa Al} {vs:Aa Ac},ItemsAre (Bd prog w) ks vs→∀ v∈vs,∃ i t,v=.int i t:=by
 intro ks vs h
 induction h with
 |nil=>intro v hv;simp at hv
 |@cons k v' ks vs h1 _ ih =>
  intro v hv;rcases Ay.mp hv with rfl|hv
  ·cases v <;> first|exact⟨_,_,rfl⟩|exact absurd h1 (by rintro⟨⟩)
  ·exact ih v hv
theorem HH {k:Aa Al}{v:Ac}(hS:Sup h0 s.heap)(hx:isT prog w h0 k v)(h:Q true s):Ao (Au prog w) A (Os 8 v) Q E s:=by
 obtain⟨a,rfl,hx⟩:=hx;have hx:=vX hS hx;have hT:=hx.typeIs;obtain⟨o,items,n,ho,_,hd,hi⟩:=hx;unfold Os;refine Ad (Qn hT F.slot_tuple_hash.lookup ?_);show Ao _ _ (Yg (.ref a) >>= _) Q E s;refine Ad (Gp ho hd ?_);refine Ad ?_;show Ao _ _ (forIn items _ _) _ _ s;rw[← Uc];refine Lv _ (fun rest r s'=>r.1=none∧s'=s∧∀ v∈rest,∃ i t,v=.int i t) _ ?_ ?_ _ _ ⟨rfl,rfl,m6 hi⟩
 ·rintro v rest r s' ⟨hr,rfl,hall⟩
  obtain⟨i,t,rfl⟩:=hall v Cn;show Ao _ _ (Os 7 (.int i t) >>= _) _ _ _;rw[show Os 7 (.int i t)=pure true from rfl]
  refine Ad (Ak ?_);simp only[Jy,Br,DL];exact Ak ⟨rfl,rfl,fun u hu'=>hall u (By _ hu')⟩
 ·rintro⟨r1,r2⟩ s' ⟨hr,rfl,_⟩
  simp only at hr;subst hr;exact Ak h
theorem oM {k:Aa Al}{v:Ac}(hS:Sup h0 s.heap)(hx:isT prog w h0 k v)(h:Q false s):Ao (Au prog w) A (Lh 8 v) Q E s:=by
 obtain⟨a,rfl,hx⟩:=hx;have hx:=vX hS hx;have hT:=hx.typeIs;obtain⟨o,items,n,ho,_,hd,hi⟩:=hx;unfold Lh;refine Ad (Jl hT ?_);dsimp only;refine Ad (Ak ?_);simp only[Jy,Br,DL];refine Ad (Gp ho hd ?_);refine Ad ?_;show Ao _ _ (forIn items _ _) _ _ s;rw[← Uc];refine Lv _ (fun rest r s'=>r.1=none∧s'=s∧∀ v∈rest,∃ i t,v=.int i t) _ ?_ ?_ _ _ ⟨rfl,rfl,m6 hi⟩
 ·rintro v rest r s' ⟨hr,rfl,hall⟩
  obtain⟨i,t,rfl⟩:=hall v Cn;show Ao _ _ (Lh 7 (.int i t) >>= _) _ _ _;rw[show Lh 7 (.int i t)=pure false from rfl]
  refine Ad (Ak ?_);simp only[Br,DL];exact Ak ⟨rfl,rfl,fun u hu'=>hall u (By _ hu')⟩
 ·rintro⟨r1,r2⟩ s' ⟨hr,rfl,_⟩
  simp only at hr;subst hr;exact Ak h
theorem X5 {k:Aa Al}{v:Ac}(hS:Sup h0 s.heap)(hx:isT prog w h0 k v)(h:Q true s):Ao (Au prog w) A (eqIsQuiet 8 v) Q E s:=by
 obtain⟨a,rfl,hx⟩:=hx;exact wpAny_eqIsQuiet_tuple (vX hS hx) h
theorem iI {α:Type}{c:Prop}[Lc c]{M:Ls}{t u:Me α}{Q:α→Ag→Prop}(h1:c→Ao M A t Q E s)(h2:¬ c→Ao M A u Q E s):Ao M A (if c then t else u) Q E s:=by
 by_cases h:c
 ·rw[Bh h];exact h1 h
 ·rw[Bn h];exact h2 h
theorem E8 {k:Aa Al}{x:Ac}{ys:Aa Ac}(hS:Sup h0 s.heap)(hx:isT prog w h0 k x)(hy:∀ y∈ys,∃ k',isT prog w h0 k' y)(h:Q false s):Ao (Au prog w) A (Vl x ys) Q E s:=by
 unfold Vl;refine Ad ?_;refine Lv _ (fun rest r s'=>r.1=none∧s'=s∧∀ v∈rest,∃ k',isT prog w h0 k' v) _ ?_ ?_ _ _ ⟨rfl,rfl,hy⟩
 ·rintro v rest r s' ⟨hr,rfl,hall⟩
  obtain⟨k',hv⟩:=hall v Cn;have hrest:∀ u∈rest,∃ k',isT prog w h0 k' u:=fun u hu'=>hall u (By _ hu');dsimp only;refine iI (fun _=>Ak ⟨rfl,rfl,hrest⟩) fun _=>?_
  ·refine Ad (X5 hS hx ?_)
   simp only[Jy,Br,DL];refine Ad (X5 hS hv ?_);simp only[Jy,Br,DL];refine Ad (oM hS hx ?_);simp only[Br,DL];refine Ad (oM hS hv ?_);simp only[Br,DL];exact Ak ⟨rfl,rfl,hrest⟩
 ·rintro⟨r1,r2⟩ s' ⟨hr,rfl,_⟩
  simp only at hr;subst hr;exact Ak h
theorem E7 {k:Aa Al}{v:Ac}(hx:isT prog w h0 k v)(h:Q true s):Ao (Au prog w) A (isSame v v) Q E s:=by
 obtain⟨a,rfl,hx⟩:=hx;unfold isSame;simp only[Fu,Eb];exact Ak h
theorem UJ {k:Aa Al}{x:Ac}{S:Af}{o:Cg}{es:Bl (Al × Ac)}{ep:Aj}{t:Ff}{seen:Aa (Aa Al)}(hu:A.units<Ex)(hS:Sup h0 s.heap)(ho:s.heap.get? S=Ab o)(hd:o.data=.set es ep t)
  (T:TabT t es) (Z:Set0 (isT prog w h0) (Bo (Bd prog w)) es seen) (hx:isT prog w h0 k x) (N:Aj) (hNw:Way t (st t.mask (Bo (Bd prog w) k)) N)
  (hNe:(it t.mask N (st t.mask (Bo (Bd prog w) k))).j ∉ t.place.toList) (hNf:N<10*turns t.mask) {Q:SetFound→Ag→Prop}
  (h1:k∈seen→Q (.there none) s) (h2:k ∉ seen→Q (.free (it t.mask N (st t.mask (Bo (Bd prog w) k))).j false) s) :
  ∀ (fuel n:Aj) (stand:Am Lg),stand.getD (t.probeStart (Bo (Bd prog w) k))=it t.mask n (st t.mask (Bo (Bd prog w) k))→n≤N→N-n<fuel →
   (∀ (m i:Aj) (e:Al × Ac),m<n→t.place[i]? = Ab (it t.mask m (st t.mask (Bo (Bd prog w) k))).j→es[i]? = Ab e→¬ isT prog w h0 k e.2) →
   Ao (Au prog w) A (OH S x (Bo (Bd prog w) k) true fuel stand) Q E s
 |0,n,stand,_,_,hf,_=>by omega
 |fuel+1,n,stand,hst,hn,hf,hq=>by
  unfold OH;refine Ad (Fk ho hd T.fits ?_);dsimp only;rw[T.odd];simp only[Br,DL];rw[hst];generalize hg:t.probe _ (Bo (Bd prog w) k) (it t.mask n (st t.mask (Bo (Bd prog w) k)))=r;obtain⟨H,hH,hg⟩:∃ H:Aj→Al,(∀ i,H i=(es[i]?.map (·.1)).getD 0)∧t.probe H (Bo (Bd prog w) k) (it t.mask n (st t.mask (Bo (Bd prog w) k)))=r:=⟨_,fun i=>rfl,hg⟩
  have itn:∀ m,it t.mask m (it t.mask n (st t.mask (Bo (Bd prog w) k)))=it t.mask (n+m) (st t.mask (Bo (Bd prog w) k)):=fun m=>(m5 _ _ _ _).symm;have gm:Meets t H (Bo (Bd prog w) k) (it t.mask n (st t.mask (Bo (Bd prog w) k))) (10*turns t.mask) r:=by
   rw[← hg];refine kN T.tb H _ _ _ (by rw[bX];rfl) ⟨N-n,by omega,?_⟩
   rw[itn,show n+(N-n)=N by omega]
   exact hNe
  have miss:∀ j:Aj,(∀ m i:Aj,m<j→t.place[i]? = Ab (it t.mask m (it t.mask n (st t.mask (Bo (Bd prog w) k)))).j→H i≠Bo (Bd prog w) k) →
    ∀ (m i:Aj) (e:Al × Ac),m<n+j→t.place[i]? = Ab (it t.mask m (st t.mask (Bo (Bd prog w) k))).j→es[i]? = Ab e→¬ isT prog w h0 k e.2:=fun j qj m i e hm ei ee hk=>by
   by_cases hmn:m<n
   ·exact hq m i e hmn ei ee hk
   ·refine qj (m-n) i (by omega) (by rw[itn,show n+(m-n)=m by omega];exact ei) ?_
    rw[hH,ee];obtain⟨k',e1,e2⟩:=Z.good e (Bm (by rw[Bx];exact ee))
    rw[isT.inj hk e2];simpa using e1
  cases gm with
  |emp j hj w' e' q =>
   rw[itn] at e';have hjN:n+j=N:=by
    rcases OI (n+j) N with h|h|h
    ·exact absurd (hNw _ h) e'
    ·exact h
    ·have:=w' (N-n) (by omega)
     rw[itn,show n+(N-n)=N by omega] at this
     exact absurd this hNe
   dsimp only;rw[itn,hjN];refine Ak (h2 fun hk=>?_);obtain⟨e,he,hke⟩:=(Z.mem k).mp hk;obtain⟨i,hi,ei⟩:=De.mp he;have ei':es[i]? = Ab e:=by rw[← Bx,Ap hi,ei]
   obtain⟨m,w1,w2⟩:=T.way i e ei';obtain⟨k',g1,g2⟩:=Z.good e he;have:=isT.inj hke g2;subst this;rw[g1] at w1 w2;have hmN:m<N:=by
    apply Fe;intro hc;by_cases hmN:m=N
    ·subst hmN
     exact hNe (Bm (by rw[Bx];exact w1))
    ·exact hNe (w2 N (by omega))
   exact miss j q m i e (by omega) w1 ei' hke
  |cand j i hj w' e' hh q =>
   rw[itn] at e';have hi:i<es.size:=by
    rw[← T.size];exact(Dp.mp e').1
   have ei:es[i]? = Ab es[i]:=Dt hi;have hjN:n+j<N:=by
    rcases OI (n+j) N with h|h|h
    ·exact h
    ·rw[h] at e'
     exact absurd (Bm (by rw[Bx];exact e')) hNe
    ·have:=w' (N-n) (by omega)
     rw[itn,show n+(N-n)=N by omega] at this
     exact absurd this hNe
   obtain⟨k',g1,g2⟩:=Z.good es[i] (by simp)
   dsimp only;have main:Ao (Au prog w) A (do
     let Ab (_,y):=es[i]?|unsupported "internal:set-entry"
     let equal ← holding [y] (eqBool y x)
     let (es',_,t') ← Tu S
     if true&&equal then return .there none
     let Ab same:=t'.sameMemory t.moves t.mask|unsupported "set.changed-during-lookup:is-the-new-block-at-the-old-address"
     let still ← match (if same then t'.slot (it t.mask j (it t.mask n (st t.mask (Bo (Bd prog w) k)))).j else .empty) with
      |.live i'=>match es'[i']? with
       |some (_,y')=>do pure (if ← isSame y' y then Ab i' else none)
       |none=>pure none
      |_=>pure none
     match still with
     |none=>rule "set.search.anew";OH S x (Bo (Bd prog w) k) true fuel none
     |some i'=>if equal then return .there (Ab i') else OH S x (Bo (Bd prog w) k) true fuel (Ab (it t.mask (j+1) (it t.mask n (st t.mask (Bo (Bd prog w) k)))))) Q E s:=by
    rw[ei];dsimp only;refine Ad (Du (eqT hu hS g2 hx ?_));refine Ad (Fk ho hd T.fits ?_);by_cases hkk:k'=k
    ·subst hkk
     simp only[decide_true,Bool.and_self,Eb];exact Ak (h1 ((Z.mem k').mpr ⟨es[i],by simp,g2⟩))
    ·simp only[hkk,decide_false,Ji,Br,DL]
     have hm:t.sameMemory t.moves t.mask=Ab true:=by simp[SetTable.sameMemory]
     rw[hm];dsimp only;rw[itn,lM T.tb e'];simp only[Eb,ei];refine Ad (E7 g2 ?_);simp only[Eb];refine Ad (Ak ?_);dsimp only;refine UJ hu hS ho hd T Z hx N hNw hNe hNf h1 h2 fuel (n+j+1) _ ?_ (by omega) (by omega) fun m i' e hm ei' ee hk=>?_
     ·rw[Ly,itn]
      rfl
     ·by_cases hmj:m<n+j
      ·exact miss j q m i' e hmj ei' ee hk
      ·have:m=n+j:=by omega
       subst this;have:=XB T.tb.rs ei' e';subst this;rw[ei] at ee;cases ee;exact hkk (isT.inj g2 hk)
   refine iI (fun _=>?_) fun _=>?_
   ·refine Ad (E8 hS hx (fun y hy=>?_) ?_)
    ·obtain⟨e,he,rfl⟩:=Ci.mp hy
     have:e∈es.toList:=by
      have:=(Mg.mp he);exact Mg.mpr (Array.mem_filter.mp this).1
     obtain⟨k2,_,g⟩:=Z.good e this;exact⟨k2,g⟩
    ·simp only[Br,DL]
     exact main
   ·exact main
end
end _S
namespace _S
open PySem
open PySem.SetTable (Probe leap runEnd turns bits)
@[reducible] def setO (es:Bl (Al × Ac))(ep:Aj)(t:Ff):Cg:={ cls:=.type "set",dict:=none,data:=.set es ep t }
theorem pY {h:Bk}{S:Af}{es es':Bl (Al × Ac)}{ep:Aj}{t t':Ff}(ho:h.get? S=Ab (setO es ep t)):(h.update S (Xo es' t')).get? S=Ab (setO es' (ep+1) t'):=Fi _ ho rfl
structure SetK {K:Type}(is:K→Ac→Prop)(hash:K→Al)(S:Af)(led:Ar)(V:Aa Ac)(seen:Aa K)(h:Bk):Prop where
 ex:∃ es ep t,h.get? S=Ab (setO es ep t)∧Set0 is hash es seen∧TabT t es∧t.led=led∧∀ e∈es.toList,e.2∈V
section
variable {prog:Be}{w:Bt}{h0:Bk}{A:Bu}{E:Ac→Ag→Prop}{s:Ag}{S:Af}{led:Ar}{V:Aa Ac}
theorem VN (a:Af)(wanted:Aj):setRelay a wanted=(do
  let (es,_,t) ← Tu a
  if Er wanted>sizeLine then unsupported "set:memory"
  let (es,t) ← (do
   let Ab (t,qP):=t.relaid (es.map (·.1)) wanted|unsupported "internal:set-table-without-room"
   let es':=qP.filterMap (es[·]?)
   if es'.size != es.size then unsupported "internal:set-table-lost-an-element"
   pure (es',t))
  storeSet a es t):=rfl
theorem HE {seen:Aa (Aa Al)}{k:Aa Al}{x:Ac}{Q:Ar→Ag→Prop}(hu:A.units<Ex)(hS:Sup h0 s.heap)(Z:SetK (isT prog w h0) (Bo (Bd prog w)) S led V seen s.heap)(hx:isT prog w h0 k x)(hV:x∈V){U:Aa (Aa Al)}(hU:U.length≤1000)(hU1:∀ k'∈seen,k'∈U)(hU2:k∈U)
  (h:∀ (b:Ar) (h':Bk) (tk:Aj),s.toks≤tk→En S s.heap h'→SetK (isT prog w h0) (Bo (Bd prog w)) S led V (k::seen) h'→Q b { s with heap:=h',toks:=tk }) : Ao (Au prog w) A (Wl S x) Q E s:=by
 obtain⟨es,ep,t,ho,Z,T,hl,hm⟩:=Z;unfold Wl;refine Du (Ad (SU hu hS hx ?_));unfold setAddHashed setAddHashedIn;refine Du (Ad (Fk (s:={ s with toks:=s.toks+(k.length+1) }) ho rfl T.fits ?_))
 dsimp only;have hsc:byScan x es=false:=by
  obtain⟨a,rfl,_⟩:=hx;rfl
 rw[hsc];simp only[Br,DL];obtain⟨e,he,hne⟩:=T.gap;have first:∃ N,Way t (st t.mask (Bo (Bd prog w) k)) N∧(it t.mask N (st t.mask (Bo (Bd prog w) k))).j ∉ t.place.toList∧N<10*turns t.mask:=by
  obtain⟨N,hN,eN⟩:=sT T.msk (Bo (Bd prog w) k) he;have gm:=kN T.tb (fun _=>Bo (Bd prog w) k+1) (Bo (Bd prog w) k) (10*turns t.mask) (st t.mask (Bo (Bd prog w) k)) rfl ⟨N,hN,by rw[eN];exact hne⟩
  generalize Jc t _ _ _ _=r at gm;cases gm with
  |emp j hj w' e' q=>exact⟨j,w',e',hj⟩
  |cand j i hj w' e' hh q=>exact absurd hh (by omega)
 obtain⟨N,hNw,hNe,hNf⟩:=first
 have hNt:N<100000:=by
  have:turns t.mask≤2200:=by
   unfold turns;rcases T.msk with h|h|h|h|h <;> rw[h] <;> omega
  omega
 refine Ad (UJ (s:={ s with toks:=s.toks+(k.length+1) }) hu hS ho rfl T Z hx N hNw hNe hNf (fun hk=>?_) (fun hk=>?_) 100000 0 none rfl (by omega) (by omega) fun m i e hm=>by omega)
 ·exact Ak (h _ s.heap _ (by omega) (OF _ _) ⟨es,ep,t,ho,Z.again hk,T,hl,hm⟩)
 ·have hle:es.size<1000:=Bf (Z.few hU1 hU2 hk) hU
  dsimp only;refine Ad (Fk (s:={ s with toks:=s.toks+(k.length+1) }) ho rfl T.fits ?_)
  obtain⟨p1,p2,p3,p4⟩:=T.put (h:=Bo (Bd prog w) k) (x:=x) hNw hNe (JA _ _ _);generalize hj:(it t.mask N (st t.mask (Bo (Bd prog w) k))).j=j at *;have m1:(t.put j).1.mask=t.mask:=rfl;have m2:(t.put j).1.plain=true:=T.plain;have m3:(t.put j).1.led=led:=hl;generalize hp:t.put j=tp at *;obtain⟨t1,p⟩:=tp;dsimp only at p1 p2 p3 p4 m1 m2 m3 ⊢;rw[m2];simp only[Eb];refine Ad (HH (s:={ s with toks:=s.toks+(k.length+1) }) hS hx ?_)
  simp only[Eb,Xt,Tj];have hsz:(Bs es p (Bo (Bd prog w) k,x)).size=es.size+1:=vO _ _ _;have hline:es.size+1≤sizeLine:=by rw[Ew];omega
  refine Ad (Li (s:={ s with toks:=s.toks+(k.length+1) }) ho rfl ?_ (by rw[hsz];exact hline))
  have Z1:Set0 (isT prog w h0) (Bo (Bd prog w)) (Bs es p (Bo (Bd prog w) k,x)) (k::seen):=by
   refine Z.push (fun a b=>isT.inj a b) hx hk ?_;have:=Hq es p (Bo (Bd prog w) k,x);rw[Hk] at this;exact this
  have hm1:∀ e∈(Bs es p (Bo (Bd prog w) k,x)).toList,e.2∈V:=fun e he=>by
   have:=(Hq es p (Bo (Bd prog w) k,x)).mem_iff.mp he;rw[Hk] at this;rcases Co.mp this with h1|h1
   ·exact hm e h1
   ·simp at h1;subst h1;exact hV
  have ho1:=pY (es':=Bs es p (Bo (Bd prog w) k,x)) (t':=t1) ho;have sb1:=Gt s.heap S (Xo (Bs es p (Bo (Bd prog w) k,x)) t1);have hfit:t1.fits (Bs es p (Bo (Bd prog w) k,x)).size=true:=by
   have h3:t1.fill=es.size+1:=by unfold Jx;rw[p1.dm,p2,hsz];rfl
   have h2:=T.few;unfold Ti;rw[h3,p2,hsz,m1];rcases T.msk with h|h|h|h|h <;> rw[h] at h2 ⊢ <;> simp <;> omega
  refine iI (fun hf=>?_) fun hf=>?_
  ·have hM1:Msk t1.mask:=by rw[m1];exact T.msk
   have h3:((Bs es p (Bo (Bd prog w) k,x)).size-1)*5<t1.mask*3:=by rw[hsz,m1];exact T.few
   obtain⟨q1,t2,qP,q2,q3,q4,q5,_⟩:=bF hM1 m2 p2 (by rw[hsz];omega) (by simpa using hf) p1.dm h3 (by rw[hsz];omega)
   rw[hsz] at q1 q2;rw[VN];refine Ad ?_;refine Ad (Fk (s:={ s with heap:=_,toks:=s.toks+(k.length+1) }) ho1 rfl hfit ?_)
   dsimp only;rw[Bn (by rw[Ew];omega)]
   refine Ad ?_;rw[q2];dsimp only;have hs2:(qP.filterMap fun x_1=>(Bs es p (Bo (Bd prog w) k,x))[x_1]?).size=es.size+1:=by rw[← Cz,q4.length_eq,Cz,hsz]
   rw[Bn (by rw[hs2,hsz];simp)]
   refine Ak ?_;refine Li (s:={ s with heap:=_,toks:=s.toks+(k.length+1) }) ho1 rfl ?_ (by rw[hs2];exact hline)
   refine Ak (h _ _ _ (Iu _ _) (sb1.trans (Gt _ S _)) ⟨_,_,t2,pY ho1,Z1.perm q4,q5,by rw[q3];exact m3,fun e he=>hm1 e (q4.mem_iff.mp he)⟩)
  ·refine Ak (h _ _ _ (Iu _ _) sb1 ⟨_,_,t1,ho1,Z1,⟨p1,by rw[m1];exact T.msk,p2,by rw[m1];exact p3,?_,by rw[m1];exact p4,m2⟩,m3,hm1⟩)
   have h3:t1.fill=es.size+1:=by unfold Jx;rw[p1.dm,p2,hsz];rfl
   unfold Pk at hf;rw[h3] at hf;rw[hsz];simpa using hf
end
end _S
namespace _S
open PySem
open PySem.SetTable (Probe leap runEnd turns bits)
variable {seen:Aa Al}
def isI (prog:Be)(w:Bt)(k:Al)(v:Ac):Prop:=(Bd prog w).is k v=true
section
variable {prog:Be}{w:Bt}{A:Bu}{E:Ac→Ag→Prop}{s:Ag}{S:Af}{led:Ar}{V:Aa Ac}
set_option tactic.hygienic true in
theorem wK {k:Al}{v:Ac}(h:isI prog w k v):∃ t,v=.int k t:=by
 cases v <;> first|(exact absurd h (by rintro⟨⟩)) | skip
 rename_i i t;refine⟨t,?_⟩;have:i=k:=(Bd prog w).inj (.int i t) i k (Tk _ _ _ _) h;rw[this]
theorem sG {es:Bl (Al × Ac)}(Z:Set0 (isI prog w) (Bd prog w).hash es seen):ElemsOf (Bd prog w) es.toList:=fun e he=>by
 obtain⟨k,h1,h2⟩:=Z.good e he;refine⟨⟨k,h2,h1⟩,?_⟩;obtain⟨t,q⟩:=wK h2;rw[q];rfl
theorem HD {k:Al}{x:Ac}{Q:Ar→Ag→Prop}(Z:SetK (isI prog w) (Bd prog w).hash S led V seen s.heap)(hx:isI prog w k x)(hV:x∈V){U:Aa Al}(hU:U.length≤1000)(hU1:∀ k'∈seen,k'∈U)(hU2:k∈U)
  (h:∀ (b:Ar) (h':Bk) (tk:Aj),s.toks≤tk→En S s.heap h'→SetK (isI prog w) (Bd prog w).hash S led V (k::seen) h'→Q b { s with heap:=h',toks:=tk }) : Ao (Au prog w) A (Wl S x) Q E s:=by
 obtain⟨es,ep,t,ho,Z,T,hl,hm⟩:=Z;have hsc:x.scannable=true:=by
  obtain⟨tk,q⟩:=wK hx;rw[q];rfl
 have hf:=T.fits;have hb:es.size<scanBound:=by
  have h1:=T.few;have:scanBound=4096:=rfl;rcases T.msk with h|h|h|h|h <;> rw[h] at h1 <;> omega
 unfold Wl;refine Du (Ad ((Bd prog w).pyHash (k:=k) hx ?_));unfold setAddHashed setAddHashedIn;refine Du (Ad (Fk (s:={ s with toks:=s.toks+1 }) ho rfl hf ?_))
 dsimp only;rw[byScan_of hsc hb (sG Z)];simp only[Eb];unfold setAddByScan;refine Ad (Ad (Ju (Ad (wpAny_setScan_of (s:={ s with toks:=s.toks+1 }) hx ho rfl hf (sG Z) ?_))))
 cases hr:es.toList.findIdx? (fun e=>(Bd prog w).is k e.2) with
 |some j =>
  dsimp only;obtain⟨hj,hpj,_⟩:=List.findIdx?_eq_some_iff_getElem.mp hr;have hk:k∈seen:=(Z.mem k).mpr ⟨es.toList[j],Jq hj,hpj⟩;exact Ak (Ak (h _ s.heap _ (Iu _ _) (OF _ _) ⟨es,ep,t,ho,Z.again hk,T,hl,hm⟩))
 |none =>
  dsimp only;have hk:k ∉ seen:=fun hk=>by
   obtain⟨e,he,q⟩:=(Z.mem k).mp hk;have:=List.findIdx?_eq_none_iff.mp hr e he;rw[show (Bd prog w).is k e.2=true from q] at this
   cases this
  have hle:es.size<1000:=Bf (Z.few hU1 hU2 hk) hU;obtain⟨e,he,hne⟩:=T.gap;have first:∃ N,Way t (st t.mask ((Bd prog w).hash k)) N∧(it t.mask N (st t.mask ((Bd prog w).hash k))).j ∉ t.place.toList∧t.freeSlot ((Bd prog w).hash k)=Ab ((it t.mask N (st t.mask ((Bd prog w).hash k))).j,false):=by
   obtain⟨N,hN,eN⟩:=sT T.msk ((Bd prog w).hash k) he;have gm:=kN T.tb (fun _=>(Bd prog w).hash k+1) ((Bd prog w).hash k) (10*turns t.mask) (st t.mask ((Bd prog w).hash k)) rfl ⟨N,hN,by rw[eN];exact hne⟩
   unfold SetTable.freeSlot SetTable.probe;rw[EE];generalize Jc t _ _ _ _=r at gm;cases gm with
   |emp j hj w' e' q=>exact⟨j,w',e',rfl⟩
   |cand j i hj w' e' hh q=>exact absurd hh (by omega)
  obtain⟨N,hNw,hNe,hfs⟩:=first
  obtain⟨p1,p2,p3,p4⟩:=T.put (h:=(Bd prog w).hash k) (x:=x) hNw hNe (JA _ _ _);generalize hj:(it t.mask N (st t.mask ((Bd prog w).hash k))).j=j at *;have m1:(t.put j).1.mask=t.mask:=rfl;have m2:(t.put j).1.plain=true:=T.plain;have m3:(t.put j).1.led=led:=hl;generalize hp:t.put j=tp at *;obtain⟨t1,p⟩:=tp;dsimp only at p1 p2 p3 p4 m1 m2 m3 ⊢;have hsz:(Bs es p ((Bd prog w).hash k,x)).size=es.size+1:=vO _ _ _;have hfit:t1.fits (Bs es p ((Bd prog w).hash k,x)).size=true:=by
   have h3:t1.fill=es.size+1:=by unfold Jx;rw[p1.dm,p2,hsz];rfl
   have h2:=T.few;unfold Ti;rw[h3,p2,hsz,m1];rcases T.msk with h|h|h|h|h <;> rw[h] at h2 ⊢ <;> simp <;> omega
  have lay:layNew t es ((Bd prog w).hash k) x=(Bs es p ((Bd prog w).hash k,x),t1,false,false):=by
   unfold layNew;rw[hfs];dsimp only;rw[hp];dsimp only;unfold SetTable.orStandIn;rw[hfit];rfl
  rw[lay];dsimp only;refine Ad (Ak (a:=()) ?_);have hbv:Os 8 x=pure true:=by
   rw[hashByValue_scannable 8 hsc];obtain⟨tk,q⟩:=wK hx;subst q;rfl
  rw[hbv,ite_self];refine Ad (Ak ?_);simp only[Eb];have hline:es.size+1≤sizeLine:=by rw[Ew];omega
  refine Ad (Li (s:={ s with toks:=s.toks+1 }) ho rfl ?_ (by rw[hsz];exact hline))
  have pm:(Bs es p ((Bd prog w).hash k,x)).toList.Perm (es.toList++[((Bd prog w).hash k,x)]):=by
   have:=Hq es p ((Bd prog w).hash k,x);rw[Hk] at this;exact this
  have Z1:Set0 (isI prog w) (Bd prog w).hash (Bs es p ((Bd prog w).hash k,x)) (k::seen):=Z.push (fun a b=>(Bd prog w).inj _ _ _ a b) hx hk pm;have hm1:∀ e∈(Bs es p ((Bd prog w).hash k,x)).toList,e.2∈V:=fun e he=>by
   rcases Co.mp (pm.mem_iff.mp he) with h1|h1
   ·exact hm e h1
   ·simp at h1;subst h1;exact hV
  have ho1:=pY (es':=Bs es p ((Bd prog w).hash k,x)) (t':=t1) ho;have sb1:=Gt s.heap S (Xo (Bs es p ((Bd prog w).hash k,x)) t1);refine iI (fun hf=>?_) fun hf=>?_
  ·have hM1:Msk t1.mask:=by rw[m1];exact T.msk
   have h3:((Bs es p ((Bd prog w).hash k,x)).size-1)*5<t1.mask*3:=by rw[hsz,m1];exact T.few
   obtain⟨q1,t2,qP,q2,q3,q4,q5,q6⟩:=bF hM1 m2 p2 (by rw[hsz];omega) (by simpa using hf) p1.dm h3 (by rw[hsz];omega)
   have hs2:(qP.filterMap fun x_1=>(Bs es p ((Bd prog w).hash k,x))[x_1]?).size=es.size+1:=by rw[← Cz,q4.length_eq,Cz,hsz]
   have rl:relayAll t1 (Bs es p ((Bd prog w).hash k,x)) (Gq (Bs es p ((Bd prog w).hash k,x)).size)=(qP.filterMap fun x_1=>(Bs es p ((Bd prog w).hash k,x))[x_1]?,t2,false):=by
    unfold relayAll;rw[q2];dsimp only;have c1:coversAll qP (Bs es p ((Bd prog w).hash k,x)).size=true:=by
     unfold coversAll;exact List.isPerm_iff.mpr q6
    rw[c1,q5.fits];rfl
   rw[rl];dsimp only;refine Ad (Ak (a:=()) ?_);refine Ad (Li (s:={ s with heap:=_,toks:=s.toks+1 }) ho1 rfl ?_ (by rw[hs2];exact hline))
   exact Ak (Ak (h _ _ _ (Iu _ _) (sb1.trans (Gt _ S _)) ⟨_,_,t2,pY ho1,Z1.perm q4,q5,by rw[q3];exact m3,fun e he=>hm1 e (q4.mem_iff.mp he)⟩))
  ·refine Ak (Ak (h _ _ _ (Iu _ _) sb1 ⟨_,_,t1,ho1,Z1,⟨p1,by rw[m1];exact T.msk,p2,by rw[m1];exact p3,?_,by rw[m1];exact p4,m2⟩,m3,hm1⟩))
   have h3:t1.fill=es.size+1:=by unfold Jx;rw[p1.dm,p2,hsz];rfl
   unfold Pk at hf;rw[h3] at hf;rw[hsz];simpa using hf
end
end _S
namespace _S
open PySem
variable {Q:Ac→Ag→Prop}{i:Aj}
structure AddS (prog:Be)(w:Bt){K:Type}(is:K→Ac→Prop)(hash:K→Al)(h0:Bk):Prop where
 add:∀ {A:Bu} {E:Ac→Ag→Prop} {s:Ag} {S:Af} {led:Ar} {V:Aa Ac} {seen U:Aa K} {k:K} {x:Ac} {Q:Ar→Ag→Prop},A.units<Ex→Sup h0 s.heap→SetK is hash S led V seen s.heap→is k x→x∈V→U.length≤1000→(∀ k'∈seen,k'∈U)→k∈U →
  (∀ (b:Ar) (h':Bk) (tk:Aj),s.toks≤tk→En S s.heap h'→SetK is hash S led V (k::seen) h'→Q b { s with heap:=h',toks:=tk }) → Ao (Au prog w) A (Wl S x) Q E s
theorem F0 {prog:Be}{w:Bt}(h0:Bk):AddS prog w (isT prog w h0) (Bo (Bd prog w)) h0:=⟨fun hu hS Z hx hV h1 h2 h3 h=>HE hu hS Z hx hV h1 h2 h3 h⟩
theorem BZ {prog:Be}{w:Bt}(h0:Bk):AddS prog w (isI prog w) (Bd prog w).hash h0:=⟨fun _ _ Z hx hV h1 h2 h3 h=>HD Z hx hV h1 h2 h3 h⟩
def y8 {K:Type}(key:Aj→K):Aj→Aa K
 |0=>[]
 |i+1=>key i::y8 key i
theorem j9 {K:Type}{key:Aj→K}{k:K}:∀ {n:Aj},k∈y8 key n↔∃ i,i<n∧key i=k
 |0=>by simp[y8]
 |n+1=>by
  rw[y8,Ay,j9];constructor
  ·rintro (rfl|⟨i,h,e⟩)
   ·exact⟨n,by omega,rfl⟩
   ·exact⟨i,by omega,e⟩
  ·rintro⟨i,h,e⟩
   by_cases hi:i=n
   ·subst hi;exact .inl e.symm
   ·exact .inr ⟨i,by omega,e⟩
section
variable {prog:Be}{w:Bt}{A:Bu}{R:Vy→Ag→Prop}{I:Af}{fp wr:Aa Af}{G:Bl Wt→Bl Wt→Prop}{n:Aj}{P:Aj→Ac→Prop}{St:Aj→Ag→Prop}
variable {K:Type}{is:K→Ac→Prop}{hash:K→Al}{h0:Bk}{led:Ar}{V:Aa Ac}{U:Aa K}
theorem SetK.sup {S:Af}{seen:Aa K}{h h':Bk}(Z:SetK is hash S led V seen h)(e:∀ o,h.get? S=Ab o→h'.get? S=Ab o):SetK is hash S led V seen h':=by
 obtain⟨es,ep,t,ho,r⟩:=Z;exact⟨es,ep,t,e _ ho,r⟩
theorem aA (a:AddS prog w is hash h0)(W:WalksS prog w A.in1 I fp wr G n P St)(S:Af)(hSf:S ∉ fp)(hu:A.in1.units<Ex)(key:Aj→K)(hkey:∀ i v,P i v→is (key i) v∧v∈V)(hU:U.length≤1000)(hUk:∀ i,i<n→key i∈U)
  (hS0:h0.get? S=none) (hw0:∀ b∈wr,h0.get? b=none):∀ (k i:Aj) (s:Ag),n-i=k→i≤n→St i s→Sup h0 s.heap→SetK is hash S led V (y8 key i) s.heap →
   (∀ s',Moved (S::wr) G s s'→SetK is hash S led V (y8 key n) s'.heap→R (.ok (.ret .none)) s')→Ic (Au prog w) A (.builtin "set.update.loop" ⟨[.ref S,.ref I],[]⟩) R s:=by
 have hSw:S ∉ wr:=fun h=>hSf (W.sub _ h);have hsub:∀ b∈wr,b∈S::wr:=fun b hb=>By _ hb;intro k
 induction k with
 |zero =>
  intro i s hk hi hst hS Z hR;have hin:i=n:=by omega
  subst hin;refine Hg Kh ?_;rw[Ih Hs _];show Ao _ A.in1 (Ky (.ref I) >>= _) _ _ s;refine Ad (W.done s _ _ hst fun s' hm=>?_);exact Ak (hR s' (hm.mono hsub) (Z.sup fun o e=>hm.heap S _ hSw e))
 |succ k ih =>
  intro i s hk hi hst hS Z hR;have hlt:i<n:=by omega
  refine Hg Kh ?_;rw[Ih Hs _];show Ao _ A.in1 (Ky (.ref I) >>= _) _ _ s;refine Ad (W.item i s _ _ hlt hst fun v s' hP hst' hm=>?_);obtain⟨q1,q2⟩:=hkey i v hP;have hS':Sup h0 s'.heap:=fun b o e=>hm.heap b o (fun hb=>by rw[hw0 b hb] at e;cases e) (hS b o e)
  show Ao _ A.in1 (holding [v] (Wl S v) >>= _) _ _ s';refine Ad (Du (a.add hu hS' (Z.sup fun o e=>hm.heap S _ hSw e) q1 q2 hU (fun k' hk'=>?_) (hUk i hlt) fun b h' tk htk hsb Z'=>?_))
  ·obtain⟨j,hj,e⟩:=j9.mp hk'
   exact e▸hUk j (by omega)
  ·refine Ak ⟨OJ Hs _,ih (i+1) _ (by omega) hlt (W.frame _ s' _ _ hst' htk fun b hb o e=>?_) (fun b o e=>?_) Z' fun s'' hm'' Z''=>?_⟩
   ·rw[hsb.2 b (fun h:b=S=>hSf (by rw[← h];exact hb))];exact e
   ·rw[hsb.2 b (fun h:b=S=>by rw[h,hS0] at e;cases e)];exact hS' b o e
   ·refine hR s'' (Moved.trans W.gtrans ((hm.mono hsub).then_heap htk fun b o hb e=>?_) hm'') Z''
    rw[hsb.2 b (fun h:b=S=>hb (by rw[h];exact Cn))];exact e
end
section
variable {prog:Be}{w:Bt}{A:Bu}{E:Ac→Ag→Prop}{s:Ag}
def wF (w:Bt):Ar:=!w.params.followText "set-order"
@[reducible] def set0 (w:Bt):Cg:=setO #[] 0 (.fresh 0 0 (wF w))
theorem bE (a:Ac){Q₁:Ac→Ag→Prop}(h:Q₁ (.ref s.heap.objs.size) { s with heap:=s.heap.push (set0 w) }) : Ic (Au prog w) A (.call (.builtin "set.__new__") ⟨[.type "set",a],[]⟩) (wants Q₁ E) s:=by
 refine Qv ?_;show Ao _ A.in1 (do Pe "set.__new__" ⟨[.type "set",a],[]⟩;again (.builtin "set.__new__" ⟨[.type "set",a],[]⟩)) _ _ s
 refine Ad (Oq (PySem.F.newCall_set_1 a) (Ak ⟨OJ Rm _,Hg PySem.F.entry_set_new ?_⟩));rw[Ih Rm _];unfold Hd.«set.__new__» XV;have hsub:=PySem.sub_set_self;obtain⟨hp,g,d,tk,os⟩:=s;dsimp only
 wp_walk
 refine Jr (Ak ?_);dsimp only;simp only[newObj];exact Ad (wpAny_alloc (Ak (Ak h)))
theorem lQ (w:Bt):TabT (.fresh 0 0 (wF w)) #[]:=⟨⟨by unfold Rs;exact Le,rfl⟩,.inl rfl,rfl,fun x hx=>(by cases hx),(show 0*5<7*3 by decide),fun i e h=>(by simp at h),rfl⟩
variable {K:Type}{is:K→Ac→Prop}{hash:K→Al}{U:Aa K}
theorem W2 (a:AddS prog w is hash s.heap){l:Af}{items:Bl Ac}{Q:Ac→Ag→Prop}(hh:A.handled=none)(hu:A.units+8<Ex)(hl:s.heap.IsList l items)(key:Aj→K)(hkey:∀ i v,items[i]? = Ab v→is (key i) v)(hU:U.length≤1000)(hUk:∀ i,i<items.size→key i∈U)
  (h:∀ (h':Bk) (tk:Aj),SetK is hash s.heap.objs.size (wF w) items.toList (y8 key items.size) h'→(∀ b o,s.heap.get? b=Ab o→h'.get? b=Ab o)→Q (.ref s.heap.objs.size) { s with heap:=h',toks:=tk }) :
  Ao (Au prog w) A (call (.type "set") [.ref l]) Q E s:=by
 obtain⟨c,tl,hmro⟩:=Di.mro;have hmade:=Di.made;have hsub:=Di.sub;refine Mz (Qv ?_);show Ao _ _ (callAny (.type "set") _) _ _ _;refine Ak ⟨Of _ (by decide +kernel),Hg Pu ?_⟩
 rw[Ud (Rn "set" [.ref l] []) rfl];have h1:=Di.notType;have h2:=Di.canCreate;have hct:=Qw (.ref l)
 repeat (any_goals (first|assumption|wp_step))
 refine Iw (bE (.ref l) (E:=E) (Q₁:=fun obj s₁=>obj=.ref s.heap.objs.size∧s₁={ s with heap:=s.heap.push (set0 w) }) ⟨rfl,rfl⟩) fun r s₁ hr=>?_
 cases r with
 |error e=>exact hr
 |ok fl =>
  cases fl with
  |ret obj =>
   obtain⟨rfl,rfl⟩:=hr;have hS:(s.heap.push (set0 w)).get? s.heap.objs.size=Ab (set0 w):=Ba _ rfl;have hT:OK { s with heap:=s.heap.push (set0 w) } (.ref s.heap.objs.size) "set":=⟨_,hS,rfl⟩
   have hli:=Di.init.lookup;have hbi:=Di.init.bind (.ref s.heap.objs.size)
   repeat (any_goals (first|assumption|wp_step))
   refine Iw (Jn (R:=wants (fun r s₂=>r=.none∧∃ h' tk,s₂={ s with heap:=h',toks:=tk } ∧ SetK is hash s.heap.objs.size (wF w) items.toList (y8 key items.size) h'∧∀ b o,s.heap.get? b=Ab o→h'.get? b=Ab o) E) Di.init.plain Qx (Wm hT ?_)) fun r₂ s₂ hr₂=>?_
   ·obtain⟨ol,hol,hcl,nl,hdl⟩:=hl
    obtain⟨ocls,odict,odata,oslots⟩:=ol;simp only at hcl hdl;subst hcl;subst hdl;have hol':(s.heap.push (set0 w)).get? l=Ab { cls:=.type "list",dict:=odict,data:=.seq items nl,slots:=oslots }:=Ah _ hol;have hsls:=PySem.F.sub_list_set;have hslf:=PySem.F.sub_list_frozenset;have hne:(Gi "list" == Gi "dict")=false:=by decide
    have hl1:(s.heap.push (set0 w)).IsList l items:=⟨_,hol',rfl,nl,rfl⟩;unfold Hd.«set.__init__» noKeywords Nh;generalize hPI:Mv=PI
    wp_walk
    subst hPI;refine Ga hl1 ?_;refine Ad (Sd ?_);have hlS:l<s.heap.objs.size:=Ax hol;have hneI:l≠(s.heap.push (set0 w)).objs.size:=by
     rw[Dq];exact Cd (OL hlS)
    have nS:s.heap.get? s.heap.objs.size=none:=Ig (Az _);have nI:s.heap.get? (s.heap.push (set0 w)).objs.size=none:=Ig (by rw[Dq];exact Oo _)
    refine aA (led:=wF w) (V:=items.toList) a ((Zk (A:=A.in1.in1.in1) (by simp[hh]) _ l hneI items).toS) s.heap.objs.size ?_ (by show A.units+3<Ex;omega) key (fun i v hv=>⟨hkey i v hv,?_⟩) hU hUk nS (fun b hb=>?_) (items.size-0) 0 _ (by omega) (Gx _)
     ⟨⟨_,Ba _ rfl,rfl,rfl⟩,hl1.push _⟩ (fun b o e=>Ah _ (Ah _ e)) ?_ fun s' hm hS'=>?_
    ·rw[Dq];simp only[Ay,Dh,Cp,Fo,Rk]
     exact⟨Cd (Ho _),Fn hlS⟩
    ·exact Bm (by rw[Bx];exact hv)
    ·rw[Dh.mp hb];exact nI
    ·exact⟨#[],0,_,Ah _ hS,Set0.nil,lQ w,rfl,fun e he=>by simp at he⟩
    ·obtain⟨h',g',d',tk',os'⟩:=s'
     have eg:g'=s.gens:=hm.gens;have ed:d'=s.drawn:=hm.drawn;have eo:os'=s.os:=hm.os;subst eg;subst ed;subst eo;refine Ak (Ak ⟨rfl,h',tk',rfl,hS',fun b o e=>?_⟩);refine hm.heap b o (fun hb=>?_) (Ah _ (Ah _ e));rcases Ay.mp hb with rfl|hb
     ·rw[nS] at e;cases e
     ·rw[Dh.mp hb,nI] at e;cases e
   ·cases r₂ with
    |error e=>exact hr₂
    |ok fl₂ =>
     cases fl₂ with
     |ret r =>
      obtain⟨rfl,h',tk,rfl,hS',hk'⟩:=hr₂
      repeat (any_goals (first|assumption|wp_step))
      exact h _ _ hS' hk'
     |_=>exact hr₂.elim
  |_=>exact hr.elim
theorem oI (a:AddS prog w is hash s.heap){l:Af}{items:Bl Ac}{Q:Ac→Ag→Prop}(hh:A.handled=none)(hu:A.units+8<Ex)(hl:s.heap.IsTuple l items)(key:Aj→K)(hkey:∀ i v,items[i]? = Ab v→is (key i) v)(hU:U.length≤1000)(hUk:∀ i,i<items.size→key i∈U)
  (h:∀ (h':Bk) (tk:Aj),SetK is hash s.heap.objs.size (wF w) items.toList (y8 key items.size) h'→(∀ b o,s.heap.get? b=Ab o→h'.get? b=Ab o)→Q (.ref s.heap.objs.size) { s with heap:=h',toks:=tk }) :
  Ao (Au prog w) A (call (.type "set") [.ref l]) Q E s:=by
 obtain⟨c,tl,hmro⟩:=Di.mro;have hmade:=Di.made;have hsub:=Di.sub;refine Mz (Qv ?_);show Ao _ _ (callAny (.type "set") _) _ _ _;refine Ak ⟨Of _ (by decide +kernel),Hg Pu ?_⟩
 rw[Ud (Rn "set" [.ref l] []) rfl];have h1:=Di.notType;have h2:=Di.canCreate;have hct:=Qw (.ref l)
 repeat (any_goals (first|assumption|wp_step))
 refine Iw (bE (.ref l) (E:=E) (Q₁:=fun obj s₁=>obj=.ref s.heap.objs.size∧s₁={ s with heap:=s.heap.push (set0 w) }) ⟨rfl,rfl⟩) fun r s₁ hr=>?_
 cases r with
 |error e=>exact hr
 |ok fl =>
  cases fl with
  |ret obj =>
   obtain⟨rfl,rfl⟩:=hr;have hS:(s.heap.push (set0 w)).get? s.heap.objs.size=Ab (set0 w):=Ba _ rfl;have hT:OK { s with heap:=s.heap.push (set0 w) } (.ref s.heap.objs.size) "set":=⟨_,hS,rfl⟩
   have hli:=Di.init.lookup;have hbi:=Di.init.bind (.ref s.heap.objs.size)
   repeat (any_goals (first|assumption|wp_step))
   refine Iw (Jn (R:=wants (fun r s₂=>r=.none∧∃ h' tk,s₂={ s with heap:=h',toks:=tk } ∧ SetK is hash s.heap.objs.size (wF w) items.toList (y8 key items.size) h'∧∀ b o,s.heap.get? b=Ab o→h'.get? b=Ab o) E) Di.init.plain Qx (Wm hT ?_)) fun r₂ s₂ hr₂=>?_
   ·obtain⟨ol,hol,hcl,nl,hdl⟩:=hl
    obtain⟨ocls,odict,odata,oslots⟩:=ol;simp only at hcl hdl;subst hcl;subst hdl;have hol':(s.heap.push (set0 w)).get? l=Ab { cls:=.type "tuple",dict:=odict,data:=.seq items nl,slots:=oslots }:=Ah _ hol;have hsls:=PySem.F.sub_tuple_set;have hslf:=PySem.F.sub_tuple_frozenset;have hne:(Gi "tuple" == Gi "dict")=false:=by decide
    have hl1:(s.heap.push (set0 w)).IsTuple l items:=⟨_,hol',rfl,nl,rfl⟩;unfold Hd.«set.__init__» noKeywords Nh;generalize hPI:Mv=PI
    wp_walk
    subst hPI;refine Gh hl1 ?_;refine Ad (Sd ?_);have hlS:l<s.heap.objs.size:=Ax hol;have hneI:l≠(s.heap.push (set0 w)).objs.size:=by
     rw[Dq];exact Cd (OL hlS)
    have nS:s.heap.get? s.heap.objs.size=none:=Ig (Az _);have nI:s.heap.get? (s.heap.push (set0 w)).objs.size=none:=Ig (by rw[Dq];exact Oo _)
    refine aA (led:=wF w) (V:=items.toList) a ((Ze (A:=A.in1.in1.in1) (by simp[hh]) _ l hneI items).toS) s.heap.objs.size ?_ (by show A.units+3<Ex;omega) key (fun i v hv=>⟨hkey i v hv,?_⟩) hU hUk nS (fun b hb=>?_) (items.size-0) 0 _ (by omega) (Gx _)
     ⟨⟨_,Ba _ rfl,rfl,rfl⟩,hl1.push _⟩ (fun b o e=>Ah _ (Ah _ e)) ?_ fun s' hm hS'=>?_
    ·rw[Dq];simp only[Ay,Dh,Cp,Fo,Rk]
     exact⟨Cd (Ho _),Fn hlS⟩
    ·exact Bm (by rw[Bx];exact hv)
    ·rw[Dh.mp hb];exact nI
    ·exact⟨#[],0,_,Ah _ hS,Set0.nil,lQ w,rfl,fun e he=>by simp at he⟩
    ·obtain⟨h',g',d',tk',os'⟩:=s'
     have eg:g'=s.gens:=hm.gens;have ed:d'=s.drawn:=hm.drawn;have eo:os'=s.os:=hm.os;subst eg;subst ed;subst eo;refine Ak (Ak ⟨rfl,h',tk',rfl,hS',fun b o e=>?_⟩);refine hm.heap b o (fun hb=>?_) (Ah _ (Ah _ e));rcases Ay.mp hb with rfl|hb
     ·rw[nS] at e;cases e
     ·rw[Dh.mp hb,nI] at e;cases e
   ·cases r₂ with
    |error e=>exact hr₂
    |ok fl₂ =>
     cases fl₂ with
     |ret r =>
      obtain⟨rfl,h',tk,rfl,hS',hk'⟩:=hr₂
      repeat (any_goals (first|assumption|wp_step))
      exact h _ _ hS' hk'
     |_=>exact hr₂.elim
  |_=>exact hr.elim
theorem i3 (a:AddS prog w is hash s.heap){l:Af}{items:Bl Ac}{Q:Ac→Ag→Prop}(hh:A.handled=none)(hu:A.units+8<Ex)(hl:s.heap.IsList l items∨s.heap.IsTuple l items)(key:Aj→K)(hkey:∀ i v,items[i]? = Ab v→is (key i) v)(hU:U.length≤1000)(hUk:∀ i,i<items.size→key i∈U)
  (h:∀ (h':Bk) (tk:Aj),SetK is hash s.heap.objs.size (wF w) items.toList (y8 key items.size) h'→(∀ b o,s.heap.get? b=Ab o→h'.get? b=Ab o)→Q (.ref s.heap.objs.size) { s with heap:=h',toks:=tk }) :
  Ao (Au prog w) A (call (.type "set") [.ref l]) Q E s:=by
 rcases hl with hl|hl
 ·exact W2 a hh hu hl key hkey hU hUk h
 ·exact oI a hh hu hl key hkey hU hUk h
end
theorem yV {α:Type}:∀ {l:Aa α} {i:Aj} (h:i<l.length),(l[i]::l.eraseIdx i).Perm l
 |a::l,0,h=>by simp
 |a::l,i+1,h=>by
  rw[List.eraseIdx_cons_succ,List.getElem_cons_succ];exact(Xu _ _ _).trans ((yV (l:=l) (i:=i) (by simpa using h)).cons a)
theorem lH {α:Type}(next:Aj→Aj):∀ (fuel k:Aj) (left:Aa α) (out:Bl α),left.length=fuel→(Uo next fuel k left out).toList.Perm (out.toList++left)
 |0,k,left,out,h=>by
  have:left=[]:=Ms h;subst this;unfold Uo;simp
 |fuel+1,k,left,out,h=>by
  unfold Uo;have hlt:next k % left.length<left.length:=Nd _ (by omega)
  rw[Ap hlt];dsimp only;refine(lH next fuel (k+1) _ _ (by rw[Jo,Bh hlt];omega)).trans ?_
  rw[Hk,Gr];refine Ro _ ?_;exact yV hlt
theorem tY {α:Type}(next:Aj→Aj)(xs:Bl α) : (Mt next xs).toList.Perm xs.toList:=by
 have:=lH next xs.size 0 xs.toList #[] (by simp)
 simpa [Mt] using this
theorem yR:Slot "set_iterator" "__next__" "set_iterator.__next__":=
 .of (owner:="set_iterator") (n:="__next__") (by rw[WF,Rp];kernel_rfl) (by decide +kernel) (by decide +kernel) (by decide +kernel) (.inl (by decide +kernel)) (by rw[Se];kernel_rfl)
theorem fT:entryFor table "set_iterator.__next__" = Ab Hd.«set_iterator.__next__»:=entryFor_of_fast (by kernel_rfl)
theorem nF (a:Ac):Wi "set_iterator.__next__" ⟨[a],[]⟩:=by unfold Wi;kernel_rfl
theorem lN:Slot "set_iterator" "__iter__" "set_iterator.__iter__":=
 .of (owner:="set_iterator") (n:="__iter__") (by rw[WF,Rp];kernel_rfl) (by decide +kernel) (by decide +kernel) (by decide +kernel) (.inl (by decide +kernel)) (by rw[Se];kernel_rfl)
theorem iD:entryFor table "set_iterator.__iter__" = Ab Hd.«dict_keyiterator.__iter__»:=entryFor_alias (id':="dict_keyiterator.__iter__") (by kernel_rfl) rfl (by decide +kernel) (by kernel_rfl)
theorem oC (a:Ac):Wi "set_iterator.__iter__" ⟨[a],[]⟩:=by unfold Wi;kernel_rfl
theorem iC:entryFor table "set.__iter__" = Ab Hd.«frozenset.__iter__»:=entryFor_alias (id':="frozenset.__iter__") (by kernel_rfl) rfl (by decide +kernel) (by kernel_rfl)
theorem GH (a:Af)(slot given epochThen:Aj):setNext a slot given epochThen=(do
  let (es,epoch,t) ← Tu a
  if ← Xp then
   if epoch != epochThen then unsupported "set_iterator.__next__:elements-changed"
   return ((← setWalk a)[given]?).map fun e=>(e.2,slot)
  if !t.plain&&es.size>1 then unsupported "set_iterator.__next__:the-table-is-plain-no-more"
  (do if !t.led&&!es.isEmpty then unsupported "set:maker-not-led")
  return match es[Cc t.place slot]?,t.place[Cc t.place slot]? with
   |some (_,x),Ab j=>Ab (x,j+1)
   |_,_=>none):=rfl
theorem BL (a:Af):setWalk a=(do
  let (es,epoch,t) ← Tu a
  if ← Xp then return Mt ((← ask).params.setOrder a epoch) es
  if !t.plain&&es.size>1 then return (← drawOrder es.size es.toList).toArray
  (do if !t.led&&es.size>1 then unsupported "set:maker-not-led")
  return es):=rfl
theorem WO (a:Af):setDrawn a=(do
  let (es,_,t) ← Tu a
  let byText ← Xp
  return !byText&&(!t.plain&&es.size>1)):=rfl
structure Still (w:Bt)(S:Af)(es:Bl (Al × Ac))(ep:Aj)(t:Ff):Prop where
 tab:TabT t es
 led:t.led=wF w
def qP (w:Bt)(S:Af)(ep:Aj)(es:Bl (Al × Ac)):Bl (Al × Ac):=if w.params.followText "set-order" = true then Mt (w.params.setOrder S ep) es else es
theorem mG (w:Bt)(S:Af)(ep:Aj)(es:Bl (Al × Ac)):(qP w S ep es).toList.Perm es.toList:=by
 unfold qP
 split
 ·exact tY _ _
 ·exact Nu _
theorem uD (w:Bt)(S:Af)(ep:Aj)(es:Bl (Al × Ac)):(qP w S ep es).size=es.size:=by
 rw[← Cz,(mG w S ep es).length_eq,Cz]
def itO (slot i:Aj)(S:Af)(n ep:Aj):Cg:={ cls:=.type "set_iterator",data:=.fields #[.int slot 0,.int i 0,.ref S,.int n 0,.int ep 0] }
def At (w:Bt)(I S:Af)(es:Bl (Al × Ac))(ep:Aj)(t:Ff)(i:Aj)(h:Bk):Prop:=
 ∃ slot,h.get? I=Ab (itO slot i S es.size ep)∧h.get? S=Ab (setO es ep t)∧(w.params.followText "set-order" = true∨Cc t.place slot=i)
section
variable {prog:Be}{w:Bt}{A:Bu}{E:Ac→Ag→Prop}{s:Ag}{S I:Af}{es:Bl (Al × Ac)}{ep:Aj}{t:Ff}
theorem iV {slot:Aj}{Q:Am (Ac × Aj)→Ag→Prop}(Z:Still w S es ep t)(ho:s.heap.get? S=Ab (setO es ep t))(hs:w.params.followText "set-order" = true∨Cc t.place slot=i)
  (h1:∀ e slot',(qP w S ep es)[i]? = Ab e→(w.params.followText "set-order" = true∨Cc t.place slot'=i+1)→Q (Ab (e.2,slot')) s) (h2:(qP w S ep es)[i]? = none→Q none s):Ao (Au prog w) A (setNext S slot i ep) Q E s:=by
 rw[GH];refine Ad (Fk ho rfl Z.tab.fits ?_);dsimp only;refine Ad (Ad (Jr (Ak ?_)));cases hf:w.params.followText "set-order" with
 |true =>
  show Ao _ _ (if (w.params.followText "set-order")=true then _ else _) _ _ _
  rw[Bh hf];have hb:(ep != ep)=false:=by simp
  rw[hb];simp only[Br,DL];refine Ad ?_;rw[BL];refine Ad (Fk ho rfl Z.tab.fits ?_);dsimp only;refine Ad (Ad (Jr (Ak ?_)));show Ao _ _ (if (w.params.followText "set-order")=true then _ else _) _ _ _
  rw[Bh hf];refine Ad (Jr (Ak (Ak ?_)));show Q (((Mt (w.params.setOrder S ep) es)[i]?).map fun e=>(e.2,slot)) s;have ho':qP w S ep es=Mt (w.params.setOrder S ep) es:=by unfold qP;rw[Bh hf]
  rw[ho'] at h1 h2;cases hx:(Mt (w.params.setOrder S ep) es)[i]? with
  |none=>exact h2 hx
  |some e=>exact h1 e slot hx (.inl hf)
 |false =>
  show Ao _ _ (if (w.params.followText "set-order")=true then _ else _) _ _ _
  rw[Bn (by rw[hf];decide),Z.tab.plain,Z.led]
  unfold wF;rw[hf];simp only[Jy,Gc,Br,DL,Xt];have hb:Cc t.place slot=i:=by
   rcases hs with h|h
   ·rw[hf] at h;cases h
   ·exact h
  rw[hb];have ho':qP w S ep es=es:=by unfold qP;rw[Bn (by rw[hf];decide)]
  rw[ho'] at h1 h2;refine Ak ?_;cases hx:es[i]? with
  |none=>exact h2 hx
  |some e =>
   have hi:i<t.place.size:=by rw[Z.tab.size];exact(Dp.mp hx).1
   have hp:t.place[i]? = Ab t.place[i]:=Dt hi;rw[hp];exact h1 e _ hx (.inr (aY Z.tab.tb.rs hp))
theorem At.type (h:At w I S es ep t i s.heap):s.TypeIs (.ref I) "set_iterator":=by
 obtain⟨slot,h,_⟩:=h;exact⟨_,h,rfl⟩
theorem lD (Z:Still w S es ep t)(hI:At w I S es ep t i s.heap)
  (h1:∀ e slot' slot,(qP w S ep es)[i]? = Ab e→s.heap.get? I=Ab (itO slot i S es.size ep)→s.heap.get? S=Ab (setO es ep t)→(w.params.followText "set-order" = true∨Cc t.place slot'=i+1) →
   Q e.2 { s with heap:=(s.heap.update I (Tl (·.setIfInBounds 0 (Ft slot')))).update I (Tl (·.setIfInBounds 1 (Ft ((i:Al)+1)))) })
  (h2:(qP w S ep es)[i]? = none→Ao (Au prog w) A (do setField (.ref I) 2 .none;raiseNew (← newExc (.type "StopIteration") [])) (fun (fin:Zr) s'=>∃ r,fin=.done (.ret r)∧Q r s') E s) :
  Ao (Au prog w) A (Hd.«set_iterator.__next__» ⟨[.ref I],[]⟩) (fun fin s'=>∃ r,fin=.done (.ret r)∧Q r s') E s:=by
 obtain⟨slot,hg,hS,hb⟩:=hI;show Ao _ _ (fieldsOf (.ref I) >>= _) _ _ s;refine Ad (wpAny_fieldsOf hg rfl ?_);show Ao _ _ (setEntries S >>= _) _ _ s;refine Ad (Tn hS rfl Z.tab.fits ?_);have hne:(((es.size:Aj):Al) != ((es.size:Aj):Al))=false:=by simp
 rw[hne];simp only[Br,DL];show Ao _ _ (setNext S (slot:Al).toNat (i:Al).toNat (ep:Al).toNat >>= _) _ _ s;rw[Em,Em,Em];refine Ad (iV Z hS hb (fun e slot' he hb'=>?_) fun he=>?_)
 ·dsimp only
  refine Ad (La hg rfl (by show 0<5;decide) ?_)
  have hg2:=Fi (Tl (·.setIfInBounds 0 (Ft slot'))) hg rfl
  refine Ad (La hg2 rfl (by show 1<5;decide) ?_)
  exact Ak ⟨_,rfl,h1 e slot' slot he hg hS hb'⟩
 ·exact h2 he
theorem BK (hh:A.handled=none)(hne:S≠I)(Z:Still w S es ep t):Walks prog w A I [I,S] [I] es.size (fun i v=>∃ e,(qP w S ep es)[i]? = Ab e∧e.2=v) (fun i h=>At w I S es ep t i h) where
 sub:=fun b hb=>by simp at hb;simp[hb]
 frame:=fun i h h' ⟨slot,h1,h2,h3⟩ hk=>⟨slot,hk I (by simp) _ h1,hk S (by simp) _ h2,h3⟩
 item:=fun i s Q E hi st hQ=>by
  unfold Ky;refine Ad (Ie (Dr (name:=Gv "__next__") st.type yR (Dw yR st.type fT (lD Z st (fun e slot' slot he hg hS hb=>?_) fun he=>?_) (nF _))))
  ·refine Ak (hQ e.2 _ s.toks ⟨e,he,rfl⟩ ⟨slot',?_,?_,hb⟩ fun b o hb e=>?_)
   ·exact Fi _ (Fi _ hg rfl) rfl
   ·rw[Cy _ _ hne.symm,Cy _ _ hne.symm];exact hS
   ·have hb:I≠b:=fun z=>hb (by simp[z])
    rw[Cy _ _ hb,Cy _ _ hb];exact e
  ·have:=Array.getElem?_eq_none_iff.mp he
   rw[uD] at this;omega
 done:=fun s Q E st hQ=>by
  unfold Ky;refine Ad (Ie (Dr (name:=Gv "__next__") st.type yR (Dw yR st.type fT (lD Z st (fun e slot' slot he hg hS hb=>?_) fun he=>?_) (nF _))))
  ·have:=(Dp.mp he).1
   rw[uD] at this;omega
  ·obtain⟨slot,hg,hS,hb⟩:=st
   refine Ad (La hg rfl (by show 2<5;decide) ?_)
   refine Ad ?_;simp only[newExc,newTuple];refine Ad (Dl ?_ (by size_fits))
   refine Ad (m:=Nr _ _) (Oq (a:=Ez) (by first|rfl|(simp only[Nr];rfl)) ?_)
   refine Dl ?_ (by size_fits)
   simp only[raiseNew];refine Ad (wpAny_handled ?_);rw[show A.in1.handled=none from hh]
   refine Ad (Ak (wpAny_throw ?_));refine Ad (Mb (T:="StopIteration") (b:=true) ⟨_,Ba _ rfl,rfl⟩ Sa ?_);refine Ak (hQ _ s.toks fun b o hb e=>?_);exact(((Gt ..).extBut.push _).push _) b o (fun z=>hb (by simp[z])) e
 self:=fun i s Q E st hQ=>by
  refine Vm st.type lN (Dw lN st.type iD ?_ (oC _));show Ao _ _ (ret (.ref I)) _ _ s;exact Ak ⟨_,rfl,"set_iterator",_,st.type,yR.lookup,hQ⟩
theorem YC (Z:Still w S es ep t)(ho:s.heap.get? S=Ab (setO es ep t))(h:Q (.ref s.heap.objs.size) { s with heap:=s.heap.push (itO 0 0 S es.size ep) }) : Ao (Au prog w) A (Mv (.ref S)) Q E s:=by
 have hT:s.TypeIs (.ref S) "set":=⟨_,ho,rfl⟩;refine Vm hT Rq (Dw Rq hT iC ?_ (PySem.F.args_set_iter_1 _));show Ao _ _ (OX S >>= _) _ _ s;unfold OX;refine Ad (Ad (Tn ho rfl Z.tab.fits (Ak ?_)));refine Ad ?_;rw[WO];refine Ad (Fk ho rfl Z.tab.fits ?_);dsimp only;refine Ad (Ad (Jr (Ak (Ak ?_))));rw[Z.tab.plain];simp only[Jy,Gc,Ji,Br,DL];refine Ad (Ak ?_);unfold setEpoch;refine Ad (Ad (Fk ho rfl Z.tab.fits (Ak ?_)));refine Ad (Dl (Ak ⟨_,rfl,"set_iterator",_,⟨_,Ba _ rfl,rfl⟩,yR.lookup,h⟩))
theorem JI (Z:Still w S es ep t)(ho:s.heap.get? S=Ab (setO es ep t)):At w s.heap.objs.size S es ep t 0 (s.heap.push (itO 0 0 S es.size ep)):=
 ⟨0,Ba _ rfl,Ah _ ho,.inr (aZ Z.tab.tb.rs)⟩
end
end _S
namespace _S
open PySem PySem.W PyProof.Rows
variable {vs:Aa Ac}{N:Aj}
structure Ord {K:Type}(lt:K→K→Ar):Prop where
 irr:∀ a,lt a a=false
 tr:∀ {a b c},lt a b=true→lt b c=true→lt a c=true
 tri:∀ {a b},lt a b=false→a=b∨lt b a=true
def ltI (a b:Al):Ar:=decide (a<b)
theorem CJ:Ord ltI:=⟨fun a=>by simp[ltI],fun {a b c} h1 h2=>by simp only[ltI,Ch] at *;omega,fun {a b} h=>by simp only[ltI,Ch,Pv] at *;omega⟩
theorem cM:∀ a:Aa Al,_H.lexLt a a=false
 |[]=>rfl
 |x::xs=>by rw[_H.lexLt_cons,Bh rfl];exact cM xs
theorem QZ:∀ {a b c:Aa Al},_H.lexLt a b=true→_H.lexLt b c=true→_H.lexLt a c=true
 |_,[],[],_,h=>by cases h
 |_,_::_,[],_,h=>by cases h
 |[],_,_::_,_,_=>rfl
 |_::_,[],_::_,h,_=>by cases h
 |x::xs,y::ys,z::zs,h1,h2=>by
  rw[_H.lexLt_cons] at h1 h2 ⊢;by_cases e1:x=y
  ·subst e1
   rw[Bh rfl] at h1;by_cases e2:x=z
   ·rw[Bh e2] at h2 ⊢;exact QZ h1 h2
   ·rw[Bn e2] at h2 ⊢;exact h2
  ·rw[Bn e1] at h1
   have h1:=Bw h1;by_cases e2:y=z
   ·subst e2;rw[Bn e1];exact Cu h1
   ·rw[Bn e2] at h2
    have h2:=Bw h2;rw[Bn (by omega)]
    exact Cu (by omega)
theorem cN:∀ {a b:Aa Al},_H.lexLt a b=false→a=b∨_H.lexLt b a=true
 |[],[],_=>.inl rfl
 |[],_::_,h=>by cases h
 |_::_,[],_=>.inr rfl
 |x::xs,y::ys,h=>by
  rw[_H.lexLt_cons] at h ⊢;by_cases e:x=y
  ·subst e
   rw[Bh rfl] at h ⊢;rcases cN h with h|h
   ·exact .inl (by rw[h])
   ·exact .inr h
  ·rw[Bn e] at h
   have h:=Hc h;rw[Bn (Fx e)];exact .inr (Cu (by omega))
theorem yK:Ord _H.lexLt:=⟨cM,QZ,cN⟩
theorem nO {α:Type}{p q:α→Ar}:∀ {l:Aa α},(∀ x∈l,p x=true→q x=true)→(∃ x∈l,q x=true∧p x=false)→l.countP p<l.countP q
 |[],_,⟨x,h,_⟩=>by simp at h
 |a::l,h,⟨x,hx,h1,h2⟩=>by
  have le:l.countP p≤l.countP q:=Mc fun y hy=>h y (by simp[hy])
  rw[Wn,Wn];rcases Ay.mp hx with rfl|hx
  ·rw[Bn (by rw[h2];decide),Bh h1];omega
  ·have ih:=nO (l:=l) (fun y hy=>h y (by simp[hy])) ⟨x,hx,h1,h2⟩
   have:=h a (by simp)
   cases hp:p a with
   |false=>rw[Bn (by decide)];split <;> omega
   |true=>rw[Bh rfl,Bh (this hp)];omega
section
variable {K:Type}{lt':K→K→Ar}
def mL (lt':K→K→Ar)(ks:Aa K)(x:K):Al:=(ks.countP (fun k=>lt' k x):Aj)
theorem rL (O:Ord lt'){ks:Aa K}{x y:K}(hx:x∈ks):lt' x y=decide (mL lt' ks x<mL lt' ks y):=by
 unfold mL;cases h:lt' x y with
 |true =>
  refine(Cu ?_).symm;have:=nO (l:=ks) (p:=fun k=>lt' k x) (q:=fun k=>lt' k y) (fun z _ hz=>O.tr hz h) ⟨x,hx,h,O.irr x⟩;omega
 |false =>
  refine(Cq ?_).symm;have:ks.countP (fun k=>lt' k y)≤ks.countP (fun k=>lt' k x):=by
   rcases O.tri h with e|h'
   ·rw[e];exact Az _
   ·exact Mc fun z _ hz=>O.tr hz h'
  omega
def gO (lt':K→K→Ar)(ks:Aa K)(d:K)(i j:Aj):Ar:=lt' (ks.getD i d) (ks.getD j d)
def Nf (lt':K→K→Ar)(l:Aa K):Prop:=l.Pairwise fun a b=>lt' b a=false
theorem pS (O:Ord lt'):∀ {a b:Aa K},Nf lt' a→Nf lt' b→a.Perm b→a=b
 |[],b,_,_,p=>(List.nil_perm.mp p).symm
 |x::a,b,ha,hb,p=>by
  cases b with
  |nil=>exact absurd p.symm (by simp)
  |cons y b =>
   unfold Nf at ha hb;rw[Ep] at ha hb;have e:x=y:=by
    rcases Ay.mp (p.mem_iff.mp (.head _)) with e|e
    ·exact e
    ·rcases Ay.mp (p.mem_iff.mpr (.head _)) with e'|e'
     ·exact e'.symm
     ·have h1:=ha.1 y e'
      have h2:=hb.1 x e;rcases O.tri h1 with e|h
      ·exact e.symm
      ·rw[h2] at h;cases h
   subst e;rw[pS O ha.2 hb.2 (List.Perm.cons_inv p)]
theorem ZD (O:Ord lt'){l:Aa K}(h:Nf lt' l)(nd:l.Nodup):l.Pairwise fun a b=>lt' a b=true:=by
 refine Zo (fun {a b} h1 h2=>?_) h nd;exact(O.tri h1).elim (fun e=>absurd e.symm h2) id
def wN (lt':K→K→Ar)(l:Aa K):Aa K:=l.mergeSort fun a b=>!lt' b a
theorem xD (l:Aa K):(wN lt' l).Perm l:=List.mergeSort_perm _ _
theorem jZ (O:Ord lt')(l:Aa K):Nf lt' (wN lt' l):=by
 have:=List.pairwise_mergeSort (le:=fun a b=>!lt' b a) (fun a b c h1 h2=>?_) (fun a b=>?_) l
 ·exact this.imp fun h=>by simpa using h
 ·have h1:lt' b a=false:=by simpa using h1
  have h2:lt' c b=false:=by simpa using h2
  cases h3:lt' c a with
  |false=>rfl
  |true =>
   rcases O.tri h1 with e|h
   ·rw[← e] at h3;rw[h3] at h2;cases h2
   ·have:=O.tr h3 h;rw[h2] at this;cases this
 ·cases h:lt' b a with
  |false=>rfl
  |true =>
   cases h':lt' a b with
   |false=>rfl
   |true=>have:=O.tr h h';rw[O.irr] at this;cases this
def uM (lt':K→K→Ar)(x:K):Aa K→Aa K
 |[]=>[x]
 |y::l=>if lt' x y then x::y::l else if lt' y x then y::uM lt' x l else y::l
def srt (lt':K→K→Ar):Aa K→Aa K
 |[]=>[]
 |x::xs=>uM lt' x (srt lt' xs)
set_option tactic.hygienic true in
theorem bW (O:Ord lt')(x y:K):∀ l:Aa K,y∈uM lt' x l↔y=x∨y∈l
 |[]=>by simp[uM]
 |z::l=>by
  unfold uM
  split
  ·simp
  ·rename_i h1
   split
   ·rw[Ay,bW O x y l,Ay]
    exact⟨fun h=>by rcases h with h|h|h <;> simp[h],fun h=>by rcases h with h|h|h <;> simp[h]⟩
   ·rename_i h2
    have:x=z:=(O.tri (by simpa using h1)).elim id fun h=>absurd h h2
    subst this;simp
set_option tactic.hygienic true in
theorem cC (O:Ord lt')(x:K):∀ l:Aa K,l.Pairwise (fun a b=>lt' a b=true)→(uM lt' x l).Pairwise (fun a b=>lt' a b=true)
 |[],_=>by simp[uM]
 |z::l,h=>by
  rw[Ep] at h;unfold uM
  split
  ·rename_i h1
   refine Ep.mpr ⟨fun y hy=>?_,Ep.mpr h⟩;rcases Ay.mp hy with rfl|hy
   ·exact h1
   ·exact O.tr h1 (h.1 y hy)
  ·split
   ·rename_i h2
    refine Ep.mpr ⟨fun y hy=>?_,cC O x l h.2⟩;rcases (bW O x y l).mp hy with rfl|hy
    ·exact h2
    ·exact h.1 y hy
   ·exact Ep.mpr h
theorem vK (O:Ord lt')(y:K):∀ l:Aa K,y∈srt lt' l↔y∈l
 |[]=>by simp[srt]
 |x::l=>by rw[srt,bW O,vK O y l,Ay]
theorem p9 (O:Ord lt'):∀ l:Aa K,(srt lt' l).Pairwise (fun a b=>lt' a b=true)
 |[]=>by simp[srt]
 |x::l=>cC O x _ (p9 O l)
theorem b8 (O:Ord lt'):∀ {a b:Aa K},a.Pairwise (fun a b=>lt' a b=true)→b.Pairwise (fun a b=>lt' a b=true)→(∀ x,x∈a↔x∈b)→a=b
 |[],[],_,_,_=>rfl
 |[],y::b,_,_,h=>by have:=(h y).mpr (by simp);simp at this
 |x::a,[],_,_,h=>by have:=(h x).mp (by simp);simp at this
 |x::a,y::b,ha,hb,h=>by
  rw[Ep] at ha hb;have asym:∀ {u v},lt' u v=true→lt' v u=true→Ev:=fun p q=>by have:=O.tr p q;rw[O.irr] at this;cases this
  have e:x=y:=by
   rcases Ay.mp ((h x).mp (by simp)) with e|e
   ·exact e
   ·rcases Ay.mp ((h y).mpr (by simp)) with e'|e'
    ·exact e'.symm
    ·exact(asym (hb.1 x e) (ha.1 y e')).elim
  subst e;have ne:∀ {z:K} {l:Aa K},(∀ y∈l,lt' x y=true)→z∈l→z≠x:=fun h hz e=>by subst e;have:=h _ hz;rw[O.irr] at this;cases this
  rw[b8 O ha.2 hb.2 fun z=>⟨fun hz=>?_,fun hz=>?_⟩]
  ·exact(Ay.mp ((h z).mp (by simp[hz]))).elim (fun e=>absurd e (ne ha.1 hz)) id
  ·exact(Ay.mp ((h z).mpr (by simp[hz]))).elim (fun e=>absurd e (ne hb.1 hz)) id
theorem TK (O:Ord lt'){l xs:Aa K}(h:Nf lt' l)(nd:l.Nodup)(m:∀ x,x∈l↔x∈xs):l=srt lt' xs:=
 b8 O (ZD O h nd) (p9 O xs) fun x=>by rw[m,vK O]
end
theorem GC:Xk (.type "set") "__len__" = pure (Ab (.builtin "set.__len__")):=PySem.F.slot_set_len.lookup
section
variable {prog:Be}{w:Bt}{A:Bu}{E:Ac→Ag→Prop}{s:Ag}{S:Af}{es:Bl (Al × Ac)}{ep:Aj}{t:Ff}
theorem Y6 {r:Af}(hT:s.TypeIs (.ref r) "set"){Q:Ar→Ag→Prop}(h:Q false s):Ao (Au prog w) A (Nv (.ref r)) Q E s:=by
 unfold Nv;refine Ad (Qn hT GC ?_);generalize hid:("set.__len__" : Ed)=id0
 wp_delta
 rw[show splitId id0=Ab ("set","__len__") from by subst hid;decide +kernel]
 subst hid;refine Ad (Mb (T:="set") (b:=true) hT (by rw[Se];kernel_rfl) ?_)
 refine Qy (fun hab=>absurd hab (by decide)) (fun _=>?_)
 refine Qy (fun _=>?_) (fun hab=>absurd (by decide +kernel) hab)
 exact Ad (Jl hT (Ak h))
theorem eC {Q:Aa Ac→Ag→Prop}(hh:A.handled=none)(Z:Still w S es ep t)(ho:s.heap.get? S=Ab (setO es ep t))(hn:es.size≤1000)
  (h:∀ h' tk,(∀ b o,s.heap.get? b=Ab o→h'.get? b=Ab o)→s.heap.objs.size<h'.objs.size→Q ((qP w S ep es).toList.map (·.2)) { s with heap:=h',toks:=tk }) : Ao (Au prog w) A (collect (.ref S)) Q E s:=by
 have hS:S<s.heap.objs.size:=Ax ho;unfold collect;refine Ad (Sd (Hg PySem.F.entry_proto_collect ?_));rw[Ih PySem.F.plain_proto_collect _];show Ao _ A.in1 (newList [] >>= fun l=>again (.builtin "list.__iadd__" ⟨[l,.ref S],[]⟩)) _ _ s;refine Ad (Dl (Ak ⟨OJ Pw _,Hg PySem.F.entry_list_iadd ?_⟩));rw[Ih Pw _];have hD:(s.heap.push { cls:=.type "list",data:=.seq ([] : Aa Ac).toArray }).get? s.heap.objs.size=Ab { cls:=.type "list",data:=.seq #[] }:=Ba _ rfl;have ho1:(s.heap.push { cls:=.type "list",data:=.seq ([] : Aa Ac).toArray }).get? S=Ab (setO es ep t):=Ah _ ho;show Ao _ A.in1 (Nw (.ref s.heap.objs.size) (.ref S) (.ref s.heap.objs.size)) _ _ _;unfold Nw;have hT1:OK { s with heap:=s.heap.push { cls:=.type "list",data:=.seq ([] : Aa Ac).toArray } } (.ref S) "set":=⟨_,ho1,rfl⟩
 refine Ad (Jl hT1 ?_);have h1:OY (.ref s.heap.objs.size) (.ref S)=false:=by simp[OY];exact Fn hS
 rw[Bn (by rw[h1];decide)]
 refine Ad (YC (s:={ s with heap:=s.heap.push { cls:=.type "list",data:=.seq ([] : Aa Ac).toArray } }) Z ho1 ?_)
 have hD2:=Ah (itO 0 0 S es.size ep) hD;have hT2:OK { s with heap:=(s.heap.push { cls:=.type "list",data:=.seq ([] : Aa Ac).toArray }).push (itO 0 0 S es.size ep) } (.ref S) "set":=⟨_,Ah _ ho1,rfl⟩
 refine Ad (Du (Y6 hT2 ?_));refine Qy (fun _=>?_) (fun hab=>absurd (by decide) hab)
 refine Ad (Ju (Ad ?_));show Ao _ _ (updateSeq s.heap.objs.size (·.push .none) >>= fun _=>updateSeq s.heap.objs.size (·.pop)) _ _ _
 refine Ad (WP hD2 rfl ?_);have hD3:=Fi (Eg (·.push Ez)) hD2 rfl
 refine WP (hz:=by seq_fits) hD3 rfl ?_
 have hD4:=Fi (Eg (·.pop)) hD3 rfl
 have sz:(s.heap.push { cls:=.type "list",data:=.seq ([] : Aa Ac).toArray }).objs.size=s.heap.objs.size+1:=Dq ..;have oth:∀ {b:Af} {o:Cg},b≠s.heap.objs.size→((s.heap.push { cls:=.type "list",data:=.seq ([] : Aa Ac).toArray }).push (itO 0 0 S es.size ep)).get? b=Ab o →
   ((((s.heap.push { cls:=.type "list",data:=.seq ([] : Aa Ac).toArray }).push (itO 0 0 S es.size ep)).update s.heap.objs.size (Eg (·.push Ez))).update s.heap.objs.size (Eg (·.pop))).get? b=Ab o:=
  fun hb e=>(Cy _ _ (Fx hb)).trans ((Cy _ _ (Fx hb)).trans e)
 have at0:=JI (w:=w) (s:={ s with heap:=s.heap.push { cls:=.type "list",data:=.seq ([] : Aa Ac).toArray } }) Z ho1
 refine Ak ⟨OJ PySem.F.plain_extend_loop _,?_⟩;refine codeAny_extend_loopS ((BK (prog:=prog) (A:=A.in1) (I:=(s.heap.push { cls:=.type "list",data:=.seq ([] : Aa Ac).toArray }).objs.size) hh (by rw[sz];exact Cd (OL hS)) Z).toS) (by rw[Ew];omega) s.heap.objs.size ?_ _ es.size 0 _ #[] _ rfl (Gx _) ?_ hD4 (ItemsOf.nil _) fun s' acc c hm hS' hacc=>?_
 ·rw[sz]
  simp only[Ay,Cp,Fo,Rk];exact⟨Cd (Ho _),Fn hS⟩
 ·obtain⟨slot,a1,a2,a3⟩:=at0
  exact⟨slot,oth (by rw[sz];exact Fn (Ho _)) a1,oth (Cd hS) a2,a3⟩
 ·show Ao _ A (load s.heap.objs.size >>= _) _ _ s'
  refine Ad (wpAny_load hS' ?_);obtain⟨h',g',d',tk',os'⟩:=s';have eg:g'=s.gens:=hm.gens;have ed:d'=s.drawn:=hm.drawn;have eo:os'=s.os:=hm.os;subst eg;subst ed;subst eo;have e:acc.toList=(qP w S ep es).toList.map (·.2):=by
   refine List.ext_getElem? fun i=>?_;rw[Bx,Dg,Bx];by_cases hi:i<es.size
   ·have hi':i<acc.size:=by rw[hacc.1];exact hi
    obtain⟨e,he,q⟩:=hacc.2 i acc[i] (Dt hi');rw[Dt hi',he,Mr,q]
   ·rw[Qz (by rw[hacc.1];omega),Qz (by rw[uD];omega)]
    rfl
  refine Ak ?_;show Q acc.toList _;rw[e];refine h h' tk' (fun b o q=>?_) (Ax hS');have hb:b<s.heap.objs.size:=Ax q;refine hm.heap b o (fun hx=>?_) (oth (Cd hb) (Ah _ (Ah _ q)));simp only[Ay,Cp,Fo] at hx;rcases hx with hx|hx
  ·exact absurd hb (by rw[hx];exact Ea _)
  ·exact absurd hb (by rw[hx,sz];exact Lo.mpr (Oo _))
end
def run (f:Aj→Aj→Ar){α : Type}:Xq α → α
 |.ret a=>a
 |.ask i j k=>run f (k (f i j))
theorem vI (f:Aj→Aj→Ar){α β:Type}(g:α→Xq β) : ∀ t:Xq α,run f (t.bind g)=run f (g (run f t))
 |.ret _=>rfl
 |.ask i j k=>vI f g (k (f i j))
section
variable (r:Aj→Al)
def lt (i j:Aj):Ar:=decide (r i<r j)
def ky (p:Bl Aj)(k:Aj):Al:=r (p.getD k 0)
def Up (p:Bl Aj)(n:Aj):Prop:=∀ i j,i≤j→j<n→ky r p i≤ky r p j
def Dn (p:Bl Aj)(n:Aj):Prop:=∀ i j,i≤j→j<n→ky r p j≤ky r p i
variable {r}
theorem mB {p q:Bl Aj}{i j:Aj}(h:p[i]? = q[j]?):ky r p i=ky r q j:=by
 unfold ky;rw[Nx,Nx,h]
set_option tactic.hygienic true in
theorem mC {p:Bl Aj}{i j:Aj}(hj:j≤p.size)(k:Aj):ky r (Jz p i j) k=if i≤k∧k<j then ky r p (i+j-1-k) else ky r p k:=by
 have:=getElem?_mirror_all (xs:=p) (i:=i) hj k;unfold Jz
 split
 ·rename_i h;rw[Bh h] at this;exact mB this
 ·rename_i h;rw[Bn h] at this;exact mB this
theorem yM (p:Bl Aj)(i j:Aj):(Jz p i j).size=p.size:=mirror_size _ _ _ _
theorem wC (p:Bl Aj)(i j:Aj):(Jz p i j).Perm p:=mirror_perm _ _ _ _
theorem bJ (p:Bl Aj):∀ (f n:Aj),1≤n→let m:=run (lt r) (Yj p f n);n≤m∧m≤n+f∧(∀ k,n≤k→k<m→ky r p (k-1)≤ky r p k)∧(m<n+f→ky r p m<ky r p (m-1))
 |0,n,_=>⟨Az _,Az _,fun k h1 h2=>by have:k<n:=h2;omega,fun h=>by have:n<n+0:=h;omega⟩
 |f+1,n,hn=>by
  simp only[Yj,run];cases hc:lt r (p.getD n 0) (p.getD (n-1) 0) with
  |true =>
   simp only[Eb,run];exact⟨Az _,by omega,fun k h1 h2=>by omega,fun _=>Bw hc⟩
  |false =>
   simp only[Br,DL];obtain⟨h1,h2,h3,h4⟩:=bJ p f (n+1) (by omega)
   refine⟨by omega,by omega,fun k a b=>?_,fun h=>h4 (by omega)⟩
   by_cases hk:k=n
   ·subst hk
    exact Ni.mp (Hc hc)
   ·exact h3 k (by omega) b
theorem JD {p:Bl Aj}{m:Aj}(h:∀ k,1≤k→k<m→ky r p (k-1)≤ky r p k):Up r p m:=by
 intro i j hij hj
 induction j with
 |zero =>
  have:i=0:=by omega
  subst this;exact Jd _
 |succ j ih =>
  by_cases e:i=j+1
  ·subst e;exact Jd _
  ·exact Px (ih (by omega) (by omega)) (h (j+1) (by omega) hj)
def Eqs (p:Bl Aj)(n q:Aj):Prop:=q<n∧∀ k,n-(q+1)≤k→k<n→ky r p k=ky r p (n-1)
theorem sI (p:Bl Aj)(n:Aj):Eqs (r:=r) p (n+1) 0:=⟨Kw _,fun k a b=>by
 have:k=n:=by omega
 subst this;rfl⟩
set_option tactic.hygienic true in
theorem hX {p:Bl Aj}{n q:Aj}(hn:n≤p.size)(h:Eqs (r:=r) p n q)(k:Aj):ky r (Jz p (n-(q+1)) n) k=ky r p k:=by
 rw[mC hn]
 split
 ·rename_i hk
  rw[h.2 k hk.1 hk.2,h.2 (n-(q+1)+n-1-k) (by omega) (by omega)]
 ·rfl
theorem tB {p p':Bl Aj}(h:∀ k,ky r p' k=ky r p k){n:Aj}(d:Dn r p n):Dn r p' n:=fun i j a b=>by rw[h,h];exact d i j a b
theorem j7:∀ (f:Aj) (p:Bl Aj) (n q:Aj),n+f≤p.size→1≤n→Dn r p n→Eqs (r:=r) p n q →
  let o:=run (lt r) (Xa f p n q);o.1.size=p.size∧o.1.Perm p∧n≤o.2.1∧o.2.1≤n+f∧Dn r o.1 o.2.1∧Eqs (r:=r) o.1 o.2.1 o.2.2
 |0,p,n,q,_,_,d,e=>⟨rfl,Ki _,Az _,Az _,d,e⟩
 |f+1,p,n,q,hs,hn,d,e=>by
  simp only[Xa,run];cases hc:lt r (p.getD n 0) (p.getD (n-1) 0) with
  |true =>
   have hlt:ky r p n<ky r p (n-1):=Bw hc;simp only[Eb];have d':Dn r p (n+1):=fun i j a b=>by
    by_cases hj:j=n
    ·subst hj
     by_cases hi:i=j
     ·subst hi;exact Jd _
     ·exact Px (Py hlt) (d i (j-1) (by omega) (by omega))
    ·exact d i j a (by omega)
   have e':∀ p:Bl Aj,Eqs (r:=r) p (n+1) 0:=fun p=>sI p n;by_cases hq:q>0
   ·rw[Bh hq]
    have hk:=hX (r:=r) (p:=p) (n:=n) (q:=q) (by omega) e
    obtain⟨a1,a2,a3,a4,a5,a6⟩:=j7 f (Jz p (n-(q+1)) n) (n+1) 0 (by rw[yM];omega) (by omega) (tB hk d') (e' _)
    exact⟨by rw[a1,yM],a2.trans (wC _ _ _),by omega,by omega,a5,a6⟩
   ·rw[Bn hq]
    obtain⟨a1,a2,a3,a4,a5,a6⟩:=j7 f p (n+1) 0 (by omega) (by omega) d' (e' _)
    exact⟨a1,a2,by omega,by omega,a5,a6⟩
  |false =>
   simp only[Br,DL,run];cases hd:lt r (p.getD (n-1) 0) (p.getD n 0) with
   |true =>
    simp only[Eb,run];exact⟨by trivial,Ki _,Az _,by omega,d,e⟩
   |false =>
    simp only[Br,DL];have he:ky r p n=ky r p (n-1):=Xb (Ni.mp (Hc hd)) (Ni.mp (Hc hc));have d':Dn r p (n+1):=fun i j a b=>by
     by_cases hj:j=n
     ·subst hj
      by_cases hi:i=j
      ·subst hi;exact Jd _
      ·rw[he];exact d i (j-1) (by omega) (by omega)
     ·exact d i j a (by omega)
    have e':Eqs (r:=r) p (n+1) (q+1):=⟨by have:=e.1;omega,fun k a b=>by
     by_cases hk:k=n
     ·subst hk;rfl
     ·rw[e.2 k (by omega) (by omega)];exact he.symm⟩
    obtain⟨a1,a2,a3,a4,a5,a6⟩:=j7 f p (n+1) (q+1) (by omega) (by omega) d' e'
    exact⟨a1,a2,by omega,by omega,a5,a6⟩
structure Got (r:Aj→Al)(p:Bl Aj)(N:Aj)(o:Aj × Bl Aj):Prop where
 size:o.2.size=p.size
 perm:o.2.Perm p
 pos:1≤o.1
 le:o.1≤N
 up:Up r o.2 o.1
theorem lR {p:Bl Aj}{n:Aj}(hN:N≤p.size)(hn:1≤n)(hnN:n≤N)(d:Dn r p n):Got r p N (run (lt r) (Yk n N p)):=by
 unfold Yk;rw[vI];obtain⟨h1,h2,h3,h4⟩:=bJ (r:=r) (Jz p 0 n) (N-n) n hn;refine⟨yM _ _ _,wC _ _ _,Cr hn h1,Cr h2 (by omega),JD fun k a b=>?_⟩
 show ky r (Jz p 0 n) (k-1)≤ky r (Jz p 0 n) k;by_cases hk:n≤k
 ·exact h3 k hk b
 ·rw[mC (by omega),mC (by omega),Bh (by omega),Bh (by omega)]
  exact d _ _ (by omega) (by omega)
theorem gL {p:Bl Aj}{n:Aj}(hN:N≤p.size)(hn:1≤n)(hnN:n+1≤N)(d:Dn r p (n+1)):Got r p N (run (lt r) (Uq n N p)):=by
 unfold Uq;rw[vI];obtain⟨a1,a2,a3,a4,a5,a6⟩:=j7 (r:=r) (N-(n+1)) p (n+1) 0 (by omega) (by omega) d (sI p n)
 generalize run (lt r) (Xa (N-(n+1)) p (n+1) 0)=o at *
 split
 ·have hk:=hX (r:=r) (p:=o.1) (n:=o.2.1) (q:=o.2.2) (by omega) a6
  have g:=lR (p:=Jz o.1 (o.2.1-(o.2.2+1)) o.2.1) (N:=N) (by rw[yM];omega) (by omega) (by omega) (tB hk a5)
  exact⟨by rw[g.size,yM,a1],(g.perm.trans (wC _ _ _)).trans a2,g.pos,g.le,g.up⟩
 ·have g:=lR (p:=o.1) (N:=N) (by omega) (by omega) (by omega) a5
  exact⟨by rw[g.size,a1],g.perm.trans a2,g.pos,g.le,g.up⟩
theorem i9 {p:Bl Aj}(hN:N≤p.size)(h1:1≤N):Got r p N (run (lt r) (Vn N p)):=by
 unfold Vn;rw[vI];obtain⟨b1,b2,b3,b4⟩:=bJ (r:=r) p (N-1) 1 (Az _);generalize run (lt r) (Yj p (N-1) 1)=n at *;have up:Up r p n:=JD b3;by_cases hn:n=N
 ·subst hn
  rw[Bh (by simp)]
  exact⟨rfl,Ki _,h1,Az _,up⟩
 ·rw[Bn (by simpa using hn)]
  have hlt:=b4 (by omega)
  by_cases hn1:n>1
  ·rw[Bh hn1]
   simp only[run];cases hc:lt r (p.getD 0 0) (p.getD (n-1) 0) with
   |true=>simp only[Eb,run];exact⟨rfl,Ki _,by show 1≤n;omega,by show n≤N;omega,up⟩
   |false =>
    simp only[Br,DL];have hle:ky r p (n-1)≤ky r p 0:=Ni.mp (Hc hc);have all:∀ k,k<n→ky r p k=ky r p 0:=fun k hk=>Xb (Px (up k (n-1) (by omega) (by omega)) hle) (up 0 k (by omega) hk)
    have keys:∀ k,ky r (Jz p 0 n) k=ky r p k:=fun k=>by
     rw[mC (by omega)]
     split
     ·rw[all k (by omega),all _ (by omega)]
     ·rfl
    have g:=gL (p:=Jz p 0 n) (n:=n) (N:=N) (by rw[yM];omega) (by omega) (by omega) (tB keys fun i j a b=>by
     by_cases hj:j=n
     ·subst hj
      by_cases hi:i=j
      ·subst hi;exact Jd _
      ·rw[all i (by omega),← all (j-1) (by omega)];exact Py hlt
     ·rw[all i (by omega),all j (by omega)];exact Jd _)
    exact⟨by rw[g.size,yM],g.perm.trans (wC _ _ _),g.pos,g.le,g.up⟩
  ·rw[Bn hn1]
   have e:n=1:=by omega
   subst e;exact gL hN (Az _) (by omega) fun i j a b=>by
    by_cases hij:i=j
    ·subst hij;exact Jd _
    ·have:i=0:=by omega
     have:j=1:=by omega
     subst i j;exact Py hlt
theorem kY (p:Bl Aj)(k:Aj)(up:Up r p k):∀ (f l h:Aj),h-l≤f→l≤h→h≤k→(∀ i,i<l→ky r p i≤ky r p k)→(∀ i,h≤i→i<k→ky r p k<ky r p i) →
  let m:=run (lt r) (Vo p k f l h);m≤k∧(∀ i,i<m→ky r p i≤ky r p k)∧(∀ i,m≤i→i<k→ky r p k<ky r p i)
 |0,l,h,hf,hl,hk,a,b=>by
  have:l=h:=by omega
  subst this;exact⟨hk,a,b⟩
 |f+1,l,h,hf,hl,hk,a,b=>by
  simp only[Vo];by_cases hc:l≥h
  ·rw[Bh hc]
   have:l=h:=by omega
   subst this;exact⟨hk,a,b⟩
  ·rw[Bn hc]
   simp only[run];cases hq:lt r (p.getD k 0) (p.getD ((l+h)/2) 0) with
   |true =>
    simp only[Eb];have hlt:ky r p k<ky r p ((l+h)/2):=Bw hq;exact kY p k up f l ((l+h)/2) (by omega) (by omega) (by omega) a fun i x y=>Int.lt_of_lt_of_le hlt (up _ _ x y)
   |false =>
    simp only[Br,DL];have hle:ky r p ((l+h)/2)≤ky r p k:=Ni.mp (Hc hq);exact kY p k up f ((l+h)/2+1) h (by omega) (by omega) hk (fun i x=>Px (up _ _ (by omega) (by omega)) hle) b
theorem l6 {p:Bl Aj}{k l:Aj}(hk:k<p.size)(hl:l≤k)(i:Aj):ky r (bubble p k (k-l)) i=if i=l then ky r p k else if l<i∧i≤k then ky r p (i-1) else ky r p i:=by
 have h:=getElem?_bubble (xs:=p) hk (k-l) (by omega) i
 rw[show k-(k-l)=l by omega] at h
 by_cases h1:i=l
 ·rw[Bh h1] at h ⊢;exact mB h
 ·rw[Bn h1] at h ⊢
  by_cases h2:l<i∧i≤k
  ·rw[Bh h2] at h ⊢;exact mB h
  ·rw[Bn h2] at h ⊢;exact mB h
theorem dR:∀ (f:Aj) (p:Bl Aj) (k:Aj),k+f≤p.size→Up r p k→let o:=run (lt r) (kas_bin f p k);o.size=p.size∧o.Perm p∧Up r o (k+f)
 |0,p,k,_,up=>⟨rfl,Ki _,up⟩
 |f+1,p,k,hs,up=>by
  simp only[kas_bin];rw[vI];obtain⟨h1,h2,h3⟩:=kY p k up k 0 k (by omega) (by omega) (Az _) (fun i hi=>by omega) fun i a b=>by omega
  generalize run (lt r) (Vo p k k 0 k)=l at *;have up':Up r (bubble p k (k-l)) (k+1):=fun i j a b=>by
   rw[l6 (by omega) h1,l6 (by omega) h1]
   by_cases e1:i=l
   ·rw[Bh e1]
    by_cases e2:j=l
    ·rw[Bh e2];exact Jd _
    ·rw[Bn e2,Bh (by omega)]
     exact Py (h3 (j-1) (by omega) (by omega))
   ·rw[Bn e1]
    by_cases e3:l<i∧i≤k
    ·rw[Bh e3,Bn (by omega),Bh (by omega)]
     exact up _ _ (by omega) (by omega)
    ·rw[Bn e3]
     by_cases e2:j=l
     ·rw[Bh e2];exact h2 i (by omega)
     ·rw[Bn e2]
      by_cases e4:l<j∧j≤k
      ·rw[Bh e4];exact up _ _ (by omega) (by omega)
      ·rw[Bn e4];exact up _ _ a (by omega)
  obtain⟨a1,a2,a3⟩:=dR f (bubble p k (k-l)) (k+1) (by rw[bubble_size];omega) up'
  exact⟨by rw[a1,bubble_size],a2.trans (bubble_perm _ _ _),by rw[show k+(f+1)=k+1+f by omega];exact a3⟩
set_option tactic.hygienic true in
theorem XF {n:Aj}(hn:1≤n):let o:=run (lt r) (Mu n);o.toList.Perm (Ce n)∧Up r o n:=by
 unfold Mu;simp only[vI];have hz:(Kv (Ce n)).size=n:=by simp
 have g:=i9 (r:=r) (p:=Kv (Ce n)) (N:=n) (by omega) hn
 generalize run (lt r) (Vn n (Kv (Ce n)))=c at *;have pm:∀ {o:Bl Aj},o.Perm (Kv (Ce n))→o.toList.Perm (Ce n):=fun h=>by simpa using Array.perm_iff_toList_perm.mp h
 split
 ·rename_i hlt
  have hm:max c.1 1=c.1:=by have:=g.pos;omega
  rw[hm];obtain⟨a1,a2,a3⟩:=dR (n-c.1) c.2 c.1 (by rw[g.size,hz];omega) g.up
  refine⟨pm (a2.trans g.perm),?_⟩;rw[show c.1+(n-c.1)=n by omega] at a3
  exact a3
 ·rename_i hlt
  have:c.1=n:=by have:=g.le;omega
  refine⟨pm g.perm,?_⟩;have u:=g.up;rw[this] at u;exact u
end
def Inn (n:Aj){α : Type}(T:α→Prop):Xq α → Prop
 |.ret a=>T a
 |.ask i j k=>i<n∧j<n∧∀ b,Inn n T (k b)
def PB (n:Aj)(p:Bl Aj):Prop:=∀ k,p.getD k 0<n
theorem PB.perm {p q:Bl Aj}{n:Aj}(h:PB n p)(e:q.Perm p):PB n q:=fun k=>by
 by_cases hk:k<q.size
 ·have e1:q.getD k 0=q[k]:=by simp[Hy,hk]
  rw[e1];have:q[k]∈p:=e.mem_iff.mp (Array.getElem_mem hk);obtain⟨j,hj,e2⟩:=Array.mem_iff_getElem.mp this;have:=h j;rw[show p.getD j 0=p[j] by simp[Hy,hj]] at this
  rw[← e2];exact this
 ·have e1:q.getD k 0=0:=by simp[Hy,hk]
  rw[e1];exact Og (Gx _) (h 0)
theorem Inn.bind {n:Aj}{α β:Type}{T:α→Prop}{U:β→Prop}{g:α→Xq β} : ∀ {t:Xq α},Inn n T t→(∀ a,T a→Inn n U (g a))→Inn n U (t.bind g)
 |.ret a,h,hg=>hg a h
 |.ask i j k,⟨h1,h2,h3⟩,hg=>⟨h1,h2,fun b=>Inn.bind (h3 b) hg⟩
theorem XR {n:Aj}{f:Aj→Aj→Ar}{cmp:Aj→Aj→(Ar→Ag→Prop)→Ag→Prop}{s:Ag}(hc:∀ i j (C:Ar→Ag→Prop),i<n→j<n→C (f i j) s→cmp i j C s){α : Type}{T:α→Prop}{G:α→Ag→Prop}:∀ t:Xq α,Inn n T t→G (run f t) s→t.kasWp cmp G s
 |.ret _,_,h=>h
 |.ask i j k,⟨h1,h2,h3⟩,h=>hc i j _ h1 h2 (XR hc (k (f i j)) (h3 _) h)
theorem xZ {n:Aj}{α:Type}{T:α→Prop}{c:Prop}[Lc c]{a b:Xq α}(h1:Inn n T a)(h2:Inn n T b):Inn n T (if c then a else b):=by
 split
 ·exact h1
 ·exact h2
section
variable {n:Aj}
theorem tK {p:Bl Aj}(h:PB n p):∀ f m,Inn n (fun _=>Je) (Yj p f m)
 |0,m=>trivial
 |f+1,m=>⟨h _,h _,fun b=>xZ trivial (tK h f (m+1))⟩
theorem kQ:∀ (f:Aj) {p:Bl Aj} (m q:Aj),PB n p→Inn n (fun o=>PB n o.1) (Xa f p m q)
 |0,p,m,q,h=>h
 |f+1,p,m,q,h=>⟨h _,h _,fun b=>xZ (xZ (kQ f _ _ (h.perm (wC _ _ _))) (kQ f _ _ h)) ⟨h _,h _,fun d=>xZ h (kQ f _ _ h)⟩⟩
theorem nW {p:Bl Aj}(h:PB n p)(m N:Aj):Inn n (fun o=>PB n o.2) (Yk m N p):=Inn.bind (tK (h.perm (wC _ _ _)) _ _) fun _ _=>h.perm (wC _ _ _)
theorem gY {p:Bl Aj}(h:PB n p)(m N:Aj):Inn n (fun o=>PB n o.2) (Uq m N p):=Inn.bind (kQ _ _ _ h) fun o ho=>xZ (nW (ho.perm (wC _ _ _)) _ _) (nW ho _ _)
theorem QJ {p:Bl Aj}(h:PB n p)(N:Aj):Inn n (fun o=>PB n o.2) (Vn N p):=Inn.bind (tK h _ _) fun m _=>xZ h (xZ ⟨h _,h _,fun b=>xZ h (gY (h.perm (wC _ _ _)) _ _)⟩ (gY h _ _))
theorem gZ {p:Bl Aj}(h:PB n p)(k:Aj):∀ f l r,Inn n (fun _=>Je) (Vo p k f l r)
 |0,l,r=>trivial
 |f+1,l,r=>xZ (T:=fun _=>Je) trivial ⟨h _,h _,fun b=>xZ (gZ h k f _ _) (gZ h k f _ _)⟩
theorem cB:∀ (f:Aj) {p:Bl Aj} (k:Aj),PB n p→Inn n (fun _=>Je) (kas_bin f p k)
 |0,p,k,h=>trivial
 |f+1,p,k,h=>Inn.bind (gZ h k k 0 k) fun l _=>cB f (k+1) (h.perm (bubble_perm _ _ _))
theorem sR (hn:0<n):Inn n (fun _=>Je) (Mu n):=by
 have h:PB n (Kv (Ce n)):=fun k=>by
  by_cases hk:k<n
  ·simp[Hy,hk]
  ·simp[Hy,hk,hn]
 exact Inn.bind (QJ h n) fun o ho=>xZ (cB _ _ ho) (show Inn n (fun _=>Je) (.ret o.2) from trivial)
end
structure Cmps (prog:Be)(w:Bt)(h0:Bk)(vs:Aa Ac)(f:Aj→Aj→Ar):Prop where
 ex:∃ κ,∀ (A:Bu),A.units+8<Ex→∀ (s:Ag),Sup h0 s.heap→(∀ (Q:SortKind→Ag→Prop) (E:Ac→Ag→Prop),Q κ s→Ao (Au prog w) A (keyKind' vs.toArray) Q E s)∧∀ i j (C:Ar→Ag→Prop),i<vs.length→j<vs.length→C (f i j) s→kas_ask prog w A κ vs i j C s
theorem lK {n:Aj}{f g:Aj→Aj→Ar}(h:∀ i j,i<n→j<n→f i j=g i j){α : Type}{T:α→Prop}:∀ t:Xq α,Inn n T t→run f t=run g t
 |.ret _,_=>rfl
 |.ask i j k,⟨h1,h2,h3⟩=>by
  show run f (k (f i j))=run g (k (g i j));rw[h i j h1 h2];exact lK h _ (h3 _)
section
variable {prog:Be}{w:Bt}{A:Bu}{E:Ac→Ag→Prop}{s:Ag}
theorem UT {K:Type}{is:K→Ac→Prop}{lt':K→K→Ar}{d:K}(O:Ord lt')(inj:∀ {k k':K} {v:Ac},is k v→is k' v→k=k'){a:Af}{vs:Aa Ac}{ks:Aa K}{n:Aj}{h0:Bk}{P:Zr→Ag→Prop}(hlen:vs.length=ks.length)(hks:∀ i v,vs[i]? = Ab v→is (ks.getD i d) v)(ho:s.heap.get? a=Ab (Ec "list" vs.toArray n))(hu:A.units+8<Ex)(hz:vs.length≤63)(c:2≤vs.length→Cmps prog w h0 vs (gO lt' ks d))(hS:Sup h0 s.heap)(ha:h0.get? a=none)
  (h:∀ ps:Aa (K × Ac),ps.Perm (ks.zip vs)→Nf lt' (ps.map (·.1))→P (.done (.ret .none)) { s with heap:=sortedHeap s.heap a vs (ps.map (·.2)).toArray }) : Ao (Au prog w) A (Hd.«list.sort» ⟨[.ref a],[]⟩) P E s:=by
 rw[list_sort_plain];have hb:a<s.heap.objs.size:=Ax ho;have hsz:vs.toArray.size=vs.length:=by simp
 refine Ad (listItems_at ho rfl (Ad (listUpdate_at ho rfl ?_ (by rw[hsz,Ew];omega) (Gx _))))
 obtain⟨e1,ho1⟩:∃ e1,(s.heap.update a (Eg fun _=>#[])).get? a=Ab (Ec "list" #[] e1):=⟨_,Kj ho (fun _=>#[])⟩;refine Ad (seqEpoch_at ho1 rfl (Ad (Rz (Ad (To (Du ?_) (Gx _))) (by show vs.length≤_;rw[Ew];omega))))
 have ho6:(((s.heap.update a (Eg fun _=>#[])).push (Ec "tuple" vs.toArray 0)).push (Ec "list" #[] 0)).get? a=Ab (Ec "list" #[] e1):=
  Ah _ (Ah _ ho1)
 have S6:Sup h0 (((s.heap.update a (Eg fun _=>#[])).push (Ec "tuple" vs.toArray 0)).push (Ec "list" #[] 0)):=fun b o e =>
  Ah _ (Ah _ ((Cy _ _ (fun z:a=b=>by rw[← z,ha] at e;cases e)).trans (hS b o e)))
 show Ao (Au prog w) A _ P E { s with heap:=((s.heap.update a (Eg fun _=>#[])).push (Ec "tuple" vs.toArray 0)).push (Ec "list" #[] 0) }
 dsimp only;have fin:∀ (st':SortSt) (ps:Aa (K × Ac)),(arrOf st').map (·.2)=(ps.map (·.2)).toArray→failedOf st'=none→ps.Perm (ks.zip vs)→Nf lt' (ps.map (·.1))→Ao (Au prog w) A (do
   let touched:=(← seqEpoch a) != e1
   Yw (.ref a) fun _=>(arrOf st').map (·.2)
   if let Ab e:=failedOf st' then rule "list.sort.comparison-raised";throw e
   if touched then rule "list.sort.modified";raiseError "ValueError" "list modified during sort"
   ret .none) P E { s with heap:=((s.heap.update a (Eg fun _=>#[])).push (Ec "tuple" vs.toArray 0)).push (Ec "list" #[] 0) }:=by
  intro st' ps h1 h2 h3 h4;have hl:(ps.map (·.2)).length=vs.length:=by rw[Aq,h3.length_eq,Ra,hlen,Uj]
  refine Ad (seqEpoch_at ho6 rfl ?_);rw[h1];refine Ad (listUpdate_at ho6 rfl ?_ (Gx _) (by show (ps.map (·.2)).toArray.size≤_;rw[Aw,hl,Ew];omega))
  rw[h2];simp only[bne_self_eq_false,Br,DL];exact Ak (h ps h3 h4)
 by_cases h2:vs.toArray.size<2
 ·rw[Bh h2,Bh h2]
  refine Ad (Ak ?_);rw[StateT.run_pure];refine Ad (Ak ?_);refine fin (SortSt.mk' general' (vs.toArray.zip vs.toArray) #[] 7 none) (ks.zip vs) ?_ rfl (Nu _) ?_
  ·show (vs.toArray.zip vs.toArray).map (·.2)=_
   apply Array.toList_inj.mp;simp[List.map_snd_zip,hlen]
  ·rw[Pl (by omega)]
   match ks,hlen with
   |[],_=>exact Le
   |[_],_=>exact Pz _ _
   |_::_::_,e=>simp at e h2;omega
 ·rw[Bn h2,Bn h2]
  have h2':2≤vs.length:=by omega
  obtain⟨κ,C⟩:=c h2';obtain⟨k1,k2⟩:=C A hu { s with heap:=((s.heap.update a (Eg fun _=>#[])).push (Ec "tuple" vs.toArray 0)).push (Ec "list" #[] 0) } S6
  have km:∀ i,i<vs.length→ks.getD i d∈ks:=fun i hi=>by
   have:i<ks.length:=by omega
   simp[IZ,this]
  have rc:run (gO lt' ks d) (Mu vs.length)=run (lt fun i=>mL lt' ks (ks.getD i d)) (Mu vs.length):=lK (fun i j hi _=>rL O (km i hi)) _ (sR (n:=vs.length) (by omega))
  obtain⟨sp1,sp2⟩:=XF (r:=fun i=>mL lt' ks (ks.getD i d)) (n:=vs.length) (by omega)
  rw[← rc] at sp1 sp2;refine Ad (k1 _ _ ?_);refine Ad (Gj (kat_run (ks:=vs) (vs:=vs) (Q:=fun st' s'=>(arrOf st').map (·.2)=((run (gO lt' ks d) (Mu vs.length)).toList.map fun i=>vs.getD i Ez).toArray∧failedOf st'=none∧s'={ s with heap:=((s.heap.update a (Eg fun _=>#[])).push (Ec "tuple" vs.toArray 0)).push (Ec "list" #[] 0) })
   (G:=fun p s'=>p=run (gO lt' ks d) (Mu vs.length)∧s'={ s with heap:=((s.heap.update a (Eg fun _=>#[])).push (Ec "tuple" vs.toArray 0)).push (Ec "list" #[] 0) }) rfl h2' (by omega) (fun p st' s' a1 a2 a3 a4=>⟨?_,a3,a4.2⟩) (XR k2 _ (sR (by omega)) ⟨rfl,rfl⟩)) ?_ fun _ _ e=>e)
  ·rw[kat_snds rfl a2,a4.1]
  ·rintro⟨⟨⟩,st'⟩ s' ⟨q1,q2,rfl⟩
   generalize run (gO lt' ks d) (Mu vs.length)=p at sp1 sp2 q1;have bd:∀ i (hi:i<p.toList.length),p.toList[i]<vs.length:=fun i hi=>Ej.mp (sp1.mem_iff.mp (Jq hi));refine fin _ (p.toList.map fun i=>(ks.getD i d,vs.getD i Ez)) ?_ q2 ?_ ?_
   ·rw[q1,Gn];rfl
   ·refine(sp1.map _).trans (List.Perm.of_eq ?_)
    apply Wk
    ·simp[hlen]
    ·intro i h1 h2
     have h3:i<vs.length:=by simpa using h1
     have h4:i<ks.length:=by omega
     simp[h3,h4]
   ·rw[Gn]
    unfold Nf;rw[Dx];refine OG.mpr fun i j hi hj hij=>?_;have hp:=sp1.length_eq;rw[Hj] at hp;have u:=sp2 i j (Fm hij) (by omega)
    have gd:∀ k (hk:k<p.toList.length),p.getD k 0=p.toList[k]:=fun k hk=>by
     have:k<p.size:=by simpa using hk
     simp[Hy,this]
    unfold ky at u;rw[gd i hi,gd j hj] at u;show lt' (ks.getD p.toList[j] d) (ks.getD p.toList[i] d)=false;rw[rL O (km _ (bd j hj))];exact Cq (Ni.mpr u)
end
section
variable {prog:Be}{w:Bt}{h0:Bk}
theorem GD {A:Bu}{s:Ag}{b:Ar}{Q:Ar→Ag→Prop}:∀ {xs ys:Aa Al} {us vs:Aa Ac} {i:Aj} {N M:Aj},ItemsAre (Bd prog w) xs us→ItemsAre (Bd prog w) ys vs→N+ys.length=M+xs.length→Q (_H.lexLt xs ys) s→KatLex prog w A b (decide (N<M)) Q (us.zip vs) i s:=by
 intro xs ys us vs i N M hx
 induction hx generalizing ys vs i with
 |nil =>
  intro hy hl h;cases hy with
  |nil =>
   have:decide (N<M)=false:=Cq (by simp at hl;omega)
   rw[this];exact h
  |@cons k v ys vs q r =>
   have:decide (N<M)=true:=Cu (by simp at hl;omega)
   rw[this];exact h
 |@cons x u xs us qx rx ih =>
  intro hy hl h;cases hy with
  |nil =>
   have:decide (N<M)=false:=Cq (by simp at hl;omega)
   rw[this];exact h
  |@cons y v ys vs qy ry =>
   obtain⟨t,rfl⟩:=wK (prog:=prog) (w:=w) qx;obtain⟨t',rfl⟩:=wK (prog:=prog) (w:=w) qy;rw[Ob];refine kat_cons (Vr ?_);rw[_H.lexLt_cons] at h;refine kat_go (fun e=>kat_yes ?_) fun e=>kat_no ?_
   ·rw[Bh (by simpa using e)] at h
    exact ih ry (by simp at hl;omega) h
   ·rw[Bn (by simpa using e)] at h
    cases b&&i == 0 with
    |true=>exact oneLt_int h
    |false=>exact kat_one _ _ (Sx h)
theorem aJ {h:Bk}:∀ {vs:Aa Ac} {ks:Aa (Aa Al)},vs.length=ks.length→(∀ i v,vs[i]? = Ab v→isT prog w h (ks.getD i []) v)→(∀ k∈ks,k≠[])→∃ fs,KatTups h vs fs∧fs.length=vs.length∧∀ f∈fs,∃ n t,f=Mj n t
 |[],[],_,_,_=>⟨[],trivial,rfl,fun f hf=>by simp at hf⟩
 |v::vs,k::ks,hl,hv,hne=>by
  obtain⟨fs,a1,a2,a3⟩:=aJ (vs:=vs) (ks:=ks) (by simpa using hl) (fun i u hu=>by simpa using hv (i+1) u (by simpa using hu)) fun k hk=>hne k (by simp[hk])
  obtain⟨a,rfl,o,items,n,ho,hc,hd,hi⟩:=hv 0 v rfl;have hk:k≠[]:=hne k (by simp)
  have hi':ItemsAre (Bd prog w) k items.toList:=hi;cases hz:items.toList with
  |nil=>rw[hz] at hi';cases hi';exact absurd rfl hk
  |cons f rest =>
   rw[hz] at hi';cases hi' with
   |cons q _ =>
    obtain⟨t,rfl⟩:=wK (prog:=prog) (w:=w) q;refine⟨_::fs,KatTups.cons ho hc hd (by rw[← Bx,hz];rfl) a1,by simp[a2],fun f hf=>?_⟩
    rcases Ay.mp hf with rfl|hf
    ·exact⟨_,_,rfl⟩
    ·exact a3 f hf
theorem FE {ks:Aa (Aa Al)}(hl:vs.length=ks.length)(hv:∀ i v,vs[i]? = Ab v→isT prog w h0 (ks.getD i []) v)(hne:∀ k∈ks,k≠[])(h2:2≤vs.length):Cmps prog w h0 vs (gO _H.lexLt ks []):=by
 refine⟨tuples' (Gi "int" != Gi "tuple"),fun A hu s hS=>⟨fun Q E h=>?_,fun i j C hi hj h=>?_⟩⟩
 ·obtain⟨fs,a1,a2,a3⟩:=aJ (h:=s.heap) hl (fun i v hv'=>by obtain⟨a,e,q⟩:=hv i v hv';exact⟨a,e,vX hS q⟩) hne
  refine kat_kind a1 (by omega) (fun v hv'=>?_) (by decide) h
  obtain⟨n,t,rfl⟩:=a3 v hv';exact Looks.of_pure rfl
 ·have g:∀ k (hk:k<vs.length),∃ a,vs.getD k Ez=.ref a∧Ng (Bd prog w) s.heap (ks.getD k []) a:=fun k hk=>by
   obtain⟨a,e,q⟩:=hv k vs[k] (Ap hk);exact⟨a,by rw[← e];simp[IZ,hk],vX hS q⟩
  obtain⟨a,ea,oa,ia,na,ha,_,da,qa⟩:=g i hi;obtain⟨b,eb,ob,ib,nb,hb,_,db,qb⟩:=g j hj;unfold kas_ask;rw[ea,eb];refine kat_lt ha da hb db (GD qa qb ?_ h);have la:=qa.length;have lb:=qb.length;simp only[Cz] at la lb;omega
theorem FD {ks:Aa Al}(hl:vs.length=ks.length)(hv:∀ i v,vs[i]? = Ab v→isI prog w (ks.getD i 0) v)(h2:2≤vs.length):Cmps prog w h0 vs (gO ltI ks 0):=by
 have hi:∀ v∈vs,∃ n t,v=Mj n t:=fun v hm=>by
  obtain⟨i,hi,e⟩:=De.mp hm;obtain⟨t,q⟩:=wK (hv i v (by rw[Ap hi,e]))
  exact⟨_,t,q⟩
 refine⟨oneType',fun A hu s hS=>⟨fun Q E h=>?_,fun i j C hi hj h=>?_⟩⟩
 ·obtain⟨v₁,v₂,rest,rfl⟩:∃ v₁ v₂ rest,vs=v₁::v₂::rest:=by
   match vs,h2 with
   |v₁::v₂::rest,_=>exact⟨v₁,v₂,rest,rfl⟩
  rw[keyKind_ints (intsAre_map _ hi)];exact Ak h
 ·have g:∀ k (hk:k<vs.length),∃ t,vs.getD k Ez=.int (ks.getD k 0) t:=fun k hk=>by
   obtain⟨t,q⟩:=wK (hv k vs[k] (Ap hk));exact⟨t,by rw[← q];simp[IZ,hk]⟩
  obtain⟨t,et⟩:=g i hi;obtain⟨u,eu⟩:=g j hj;unfold kas_ask;rw[et,eu];exact kat_lt_int h
end
section
variable {K:Type}{lt':K→K→Ar}
theorem XT {α:Type}{ks:Aa K}{vs:Aa α}{d:K}(hl:vs.length=ks.length){p:K × α}(h:p∈ks.zip vs):∃ i,vs[i]? = Ab p.2∧ks.getD i d=p.1:=by
 obtain⟨i,hi,e⟩:=De.mp h;have h1:i<ks.length:=by rw[Ra] at hi;omega
 have h2:i<vs.length:=by omega
 rw[List.getElem_zip] at e;subst e;exact⟨i,Ap h2,by simp[h1]⟩
end
structure Kind (prog:Be)(w:Bt){K:Type}(is:K→Ac→Prop)(hash:K→Al)(lt':K→K→Ar)(d:K)(Fit:K→Prop)(h0:Bk):Prop where
 ord:Ord lt'
 inj:∀ {k k':K} {v:Ac},is k v→is k' v→k=k'
 cmps:∀ {vs:Aa Ac} {ks:Aa K},vs.length=ks.length→(∀ i v,vs[i]? = Ab v→is (ks.getD i d) v)→(∀ k∈ks,Fit k)→2≤vs.length→Cmps prog w h0 vs (gO lt' ks d)
theorem UQ (prog:Be)(w:Bt)(h0:Bk):Kind prog w (isT prog w h0) (Bo (Bd prog w)) _H.lexLt [] (·≠[]) h0:=⟨yK,isT.inj,fun h1 h2 h3 h4=>FE h1 h2 h3 h4⟩
theorem UP (prog:Be)(w:Bt)(h0:Bk):Kind prog w (isI prog w) (Bd prog w).hash ltI 0 (fun _=>Je) h0:=⟨CJ,fun a b=>(Bd prog w).inj _ _ _ a b,fun h1 h2 _ h4=>FD h1 h2 h4⟩
section
variable {prog:Be}{w:Bt}{A:Bu}{E:Ac→Ag→Prop}{s:Ag}{K:Type}{is:K→Ac→Prop}{hash:K→Al}{lt':K→K→Ar}{d:K}{Fit:K→Prop}{h0:Bk}{S:Af}{V:Aa Ac}{seen:Aa K}
open Classical in
def kOf (is:K→Ac→Prop)(d:K)(e:Al × Ac):K:=if h:∃ k,is k e.2 then choose h else d
open Classical in
theorem MY {e:Al × Ac}(h:∃ k,is k e.2):is (kOf is d e) e.2:=by
 unfold kOf;rw[dif_pos h];exact choose_spec h
theorem iZ {Q:Ac→Ag→Prop}(kd:Kind prog w is hash lt' d Fit h0)(hh:A.handled=none)(hu:A.units+16<Ex)(hS:Sup h0 s.heap)(Z:SetK is hash S (wF w) V seen s.heap)(hf:∀ k∈seen,Fit k){U:Aa K}(hU:U.length≤63)(hU1:∀ k∈seen,k∈U)
  (h:∀ h' tk D c (ps:Aa (K × Ac)),(∀ b o,s.heap.get? b=Ab o→h'.get? b=Ab o)→s.heap.objs.size≤D→h'.get? D=Ab (Ec "list" (ps.map (·.2)).toArray c)→ps.map (·.1)=srt lt' seen→(∀ p∈ps,is p.1 p.2∧p.2∈V)→ps.length≤63→Q (.ref D) { s with heap:=h',toks:=tk }) :
  Ao (Au prog w) A (call (.builtin "sorted") [.ref S]) Q E s:=by
 obtain⟨es,ep,t,ho,Z0,T,hl,hV⟩:=Z;have st:Still w S es ep t:=⟨T,hl⟩;have hn:es.size≤63:=by
  have:=f7 es.toList U Z0.nd fun e he=>by
   obtain⟨k',_,q⟩:=Z0.good e he;exact⟨k',hU1 k' ((Z0.mem k').mpr ⟨e,he,q⟩),q⟩
  rw[Cz] at this;omega
 have op:=mG w S ep es;have osz:=uD w S ep es;have good:∀ e∈(qP w S ep es).toList,is (kOf is d e) e.2∧e.2∈V:=fun e he=>by
  have he':=op.mem_iff.mp he;obtain⟨k,_,q⟩:=Z0.good e he';exact⟨MY ⟨k,q⟩,hV e he'⟩
 have nd0:(qP w S ep es).toList.Pairwise fun a b=>∀ k,is k a.2→¬ is k b.2:=(op.pairwise_iff fun {x y} h k hy hx=>h k hx hy).mpr Z0.nd;generalize hoe:(qP w S ep es).toList=oe at *;have hoel:oe.length≤63:=by rw[op.length_eq,Cz];exact hn
 have hks:∀ i v,(oe.map (·.2))[i]? = Ab v→is ((oe.map (kOf is d)).getD i d) v∧v∈V:=fun i v hv=>by
  rw[Dg] at hv;cases hi:oe[i]? with
  |none=>rw[hi] at hv;cases hv
  |some e =>
   rw[hi] at hv;cases hv;have g:=good e (Bm hi);have:(oe.map (kOf is d)).getD i d=kOf is d e:=by rw[List.getD_eq_getElem?_getD,Dg,hi];rfl
   rw[this];exact g
 have nd:(oe.map (kOf is d)).Nodup:=by
  unfold Pj;rw[Dx];refine OV (fun {a b} ha hb h e=>?_) nd0;exact h _ (good a ha).1 (e▸(good b hb).1)
 have mem:∀ x,x∈oe.map (kOf is d)↔x∈seen:=fun x=>by
  rw[Z0.mem,Ci];constructor
  ·rintro⟨e,he,rfl⟩
   exact⟨e,op.mem_iff.mp he,(good e he).1⟩
  ·rintro⟨e,he,q⟩
   exact⟨e,op.mem_iff.mpr he,kd.inj (good e (op.mem_iff.mpr he)).1 q⟩
 have hlen:(oe.map (·.2)).length=(oe.map (kOf is d)).length:=by simp
 refine OM kind_sorted plain_sorted entry_sorted (args_sorted1 _) ?_;unfold Hd.«sorted»;refine Ad (m:=checkCount "sorted" 1 1 _) (Ak ?_);refine Ad (eC hh st ho (by omega) fun h1 tk1 kp1 hlt=>?_)
 rw[hoe];refine Ad (To ?_ (by rw[Ew,Aq];omega))
 have hD:(h1.push (Ec "list" (oe.map (·.2)).toArray 0)).get? h1.objs.size=Ab (Ec "list" (oe.map (·.2)).toArray 0):=Ba _ rfl
 have n0:h0.get? h1.objs.size=none:=by
  cases q:h0.get? h1.objs.size with
  |none=>rfl
  |some o=>exact absurd (Ax (hS _ _ q)) (Lo.mpr (Fm hlt))
 show Ao _ _ _ _ _ { s with heap:=h1.push (Ec "list" (oe.map (·.2)).toArray 0),toks:=tk1 }
 refine Ad (Du (Dw slot_list_sort ⟨_,hD,rfl⟩ Xc (UT (h0:=h0) (is:=is) kd.ord kd.inj (d:=d) (vs:=oe.map (·.2)) hlen (fun i v hv=>(hks i v hv).1) hD (by show A.units+2+8<Ex;omega) (by rw[Aq];omega) (fun h2=>kd.cmps hlen (fun i v hv=>(hks i v hv).1) (fun k hk=>hf k ((mem k).mp hk)) h2) (fun b o e=>Ah _ (kp1 b o (hS b o e))) n0 fun ps pm nf=>⟨_,rfl,?_⟩) (args_list_sort _)))
 refine Ak ⟨_,rfl,?_⟩;have hz:(h1.push (Ec "list" (oe.map (·.2)).toArray 0)).objs.size=h1.objs.size+1:=size_push' ..
 have old:∀ b o,b≠h1.objs.size→(h1.push (Ec "list" (oe.map (·.2)).toArray 0)).get? b=Ab o→((((h1.push (Ec "list" (oe.map (·.2)).toArray 0)).update h1.objs.size (Eg fun _=>#[])).push (Ec "tuple" (oe.map (·.2)).toArray 0)).push (Ec "list" #[] 0)).get? b=Ab o:=fun b o hb e =>
  Ah _ (Ah _ ((Cy _ _ (Fx hb)).trans e))
 obtain⟨e1,he1⟩:∃ e1,((h1.push (Ec "list" (oe.map (·.2)).toArray 0)).update h1.objs.size (Eg fun _=>#[])).get? h1.objs.size=Ab (Ec "list" #[] e1):=⟨_,Kj hD (fun _=>#[])⟩
 have he6:=Kj (Ah (Ec "list" #[] 0) (Ah (Ec "tuple" (oe.map (·.2)).toArray 0) he1)) (fun _=>(ps.map (·.2)).toArray)
 have pk:(ps.map (·.1)).Perm (oe.map (kOf is d)):=by
  have:=pm.map (·.1)
  rwa [Pl (by omega)] at this
 refine h _ tk1 h1.objs.size _ ps (fun b o e=>?_) (Fm hlt) he6 (TK kd.ord nf (pk.nodup_iff.mpr nd) fun x=>by rw[pk.mem_iff,mem]) (fun p hp=>?_) (by have:=pk.length_eq;rw[Aq,Aq] at this;omega)
 ·have hb:b≠h1.objs.size:=fun z=>by
   subst z;exact absurd (Ax e) (Lo.mpr (Fm hlt))
  exact(Cy _ _ (Fx hb)).trans (old b o hb (Ah _ (kp1 b o e)))
 ·obtain⟨i,e1,e2⟩:=XT (d:=d) hlen (pm.mem_iff.mp hp)
  exact e2▸hks i _ e1
end
end _S
namespace _D
open PySem PySem.Spec PyProof.Rows _L
variable {pins:Aa (Af × Cg)}{α:Aa Af}{σ:_L.St}
def xW:Aa D→Am (Aa (Aa Al))
 |[]=>Ab []
 |.tup ys::r=>(xR ys).bind fun k=>(xW r).map (k::·)
 |_::_=>none
def tpD (k:Aa Al):D:=.tup (k.map D.int)
theorem fK:∀ {ds:Aa D} {ks:Aa (Aa Al)},xW ds=Ab ks→ds=ks.map tpD
 |[],ks,h=>by cases h;rfl
 |d::r,ks,h=>by
  cases d with
  |tup ys =>
   obtain⟨k,h1,h2⟩:=Eh.mp (show (xR ys).bind (fun k=>(xW r).map (k::·))=Ab ks from h)
   obtain⟨m,h3,rfl⟩:=Cs.mp h2;rw[fK h3,uN h1];rfl
  |_=>cases h
theorem yT (ks:Aa (Aa Al)):xW (ks.map tpD)=Ab ks:=by
 induction ks with
 |nil=>rfl
 |cons k ks ih =>
  show (xR (k.map D.int)).bind (fun k=>(xW (ks.map tpD)).map (k::·))=_
  rw[nX,ih];rfl
def uW (xs:Aa D):Am (Aa D):=match xR xs with
 |some ns=>if (_S.srt _S.ltI ns).length≤63 then Ab ((_S.srt _S.ltI ns).map D.int) else none
 |none=>match xW xs with
  |some ks=>if ((_S.srt _H.lexLt ks).length≤63&&ks.all fun k=>!k.isEmpty) then Ab ((_S.srt _H.lexLt ks).map tpD) else none
  |none=>none
def VR:D→Am (Aa D)
 |.lst xs=>Ab xs
 |.tup xs=>Ab xs
 |_=>none
theorem VX {K:Type}{lt':K→K→Ar}(O:_S.Ord lt')(ks:Aa K)(d:K):_S.srt lt' (_S.y8 (fun i=>ks.getD i d) ks.length)=_S.srt lt' ks:=
 _S.b8 O (_S.p9 O _) (_S.p9 O _) fun x=>by
  rw[_S.vK O,_S.vK O,_S.j9];constructor
  ·rintro⟨i,hi,rfl⟩
   simp[IZ,hi]
  ·intro hx
   obtain⟨i,hi,e⟩:=De.mp hx;exact⟨i,hi,by simp[IZ,hi,e]⟩
section
variable {X:Cx}{e:Bp}{fa:DE}{p1 p2 pos1 pos2:Ek}
theorem oG:Fl "sorted" = Ab (.builtin "sorted"):=by decide +kernel
theorem tL {prog:Be}{w:Bt}:∀ {k:Aa Al} {us:Aa Ac},qJ (k.map V.int) us→ItemsAre (Bd prog w) k us
 |[],us,h=>by cases h;exact .nil
 |i::k,us,h=>by
  cases h with
  |cons q t =>
   obtain⟨tk,rfl⟩:=q;exact .cons (Tk _ _ _ _) (tL t)
theorem rR {H P:Hp}{S:Sto}{s:Ag}{d:D}{xs:Aa D}{v:V}{vv:Ac}(I:Inv X pins σ H s)(r:Rel X.K H P α S)(p:Rep X.K P α d v)(q:qL v vv)(h:VR d=Ab xs) :
  ∃ a vs its,vv=.ref a∧qD X.K P α xs vs∧qJ vs its∧(s.heap.IsList a its.toArray∨s.heap.IsTuple a its.toArray)∧xs.length=its.length:=by
 cases d with
 |lst ys =>
  cases h;obtain⟨a,vs,its,n,rfl,_,t,rv,e,l,_⟩:=vU I r p;exact⟨a,vs,its,q,t,rv,.inl ⟨_,e,rfl,n,rfl⟩,l⟩
 |tup ys =>
  cases h;obtain⟨a,vs,its,rfl,_,t,rv,⟨o,e,hc,n,hd⟩,l,_⟩:=vY I r p;exact⟨a,vs,its,q,t,rv,.inr ⟨o,e,hc,n,hd⟩,l⟩
 |_=>cases h
end
section
variable {X:Cx}
def lstM (d:D)(S:Sto):Am (Aa D):=match d with
 |.lst xs=>Ab xs
 |.loc i=>match S[i]? with
  |some (.lst xs)=>Ab xs
  |_=>none
 |_=>none
def pG:G2:=fun a b S=>match lstM a S,lstM b S with
 |some xs,Ab ys=>if xs.length+ys.length≤lim then .ok (.lst (xs++ys)) S else .bad
 |_,_=>.bad
theorem pQ {H P:Hp}{S:Sto}{s:Ag}{d:D}{xs:Aa D}{v:V}(I:Inv X pins σ H s)(r:Rel X.K H P α S)(h:lstM d S=Ab xs)(p:Rep X.K P α d v) :
  ∃ a vs its n,v=.ref a∧qD X.K P α xs vs∧qJ vs its∧s.heap.get? a=Ab { cls:=.type "list",data:=.seq its.toArray n } ∧ xs.length=its.length:=by
 cases d with
 |lst ys =>
  cases h;obtain⟨a,vs,its,n,e,_,t,rv,h1,l1,_⟩:=vU I r p;exact⟨a,vs,its,n,e,t,rv,h1,l1⟩
 |loc i =>
  simp only[lstM] at h;cases hS:S[i]? with
  |none=>rw[hS] at h;cases h
  |some m =>
   rw[hS] at h;cases m with
   |lst ys =>
    cases h;simp only[Rep] at p;obtain⟨a,rfl,q⟩:=p;obtain⟨vs,z,t⟩:=r.at' i a _ q hS;obtain⟨_,its,n,rv,e⟩:=I.hok a _ z;exact⟨a,vs,its,n,rfl,t,rv,e,by rw[t.length,rv.length]⟩
   |_=>cases h
 |_=>cases h
theorem GN:OpD X (Dz .Add) pG:=by
 intro pins σ H s P α S v u vv uu a b Q I r rv ru pa pb af;unfold pG at af;cases h1:lstM a S with
 |none=>rw[h1] at af;exact An af
 |some xs =>
  cases h2:lstM b S with
  |none=>rw[h1,h2] at af;exact An af
  |some ys =>
   rw[h1,h2] at af;obtain⟨hl,af⟩:=xS (X:=X) af;obtain⟨a,vs,its,n,rfl,t1,rv1,e1,l1⟩:=pQ I r h1 pa;obtain⟨b,ws,its2,n2,rfl,t2,rv2,e2,l2⟩:=pQ I r h2 pb;cases rv;cases ru;refine Ph e1 e2 ?_ (by rw[Aw,Aw,← l1,← l2,← zJ];exact hl)
   rw[Na];exact bY I r (t1.append t2) (rv1.append rv2) (by rw[Ca];exact hl) af
end
section
variable {X:Cx}{cm:Ar}{k:Aj}{e:Bp}{fa:DE}{p1 p2 pos1 pos2:Ek}
theorem DH:ZOp X (Dz .Add) pG:=⟨GN⟩
end
end _D
section
namespace _D
open PySem PySem.Spec PyProof.Rows _L
mutual
def pyD:D→Am PyData
 |.non=>Ab .none
 |.bl b=>Ab (.bool b)
 |.int i=>Ab (.int i)
 |.str x=>Ab (.str x)
 |.tup xs=>(fD xs).map .tuple
 |.lst xs=>(fD xs).map .list
 |.dct0=>Ab (.dict [])
 |_=>none
def fD:Aa D→Am (Aa PyData)
 |[]=>Ab []
 |d::ds=>(pyD d).bind fun x=>(fD ds).map (x::·)
end
end _D
end
section
namespace _H
open PySem PyProof.Rows
def stepLo (n:Aj)(k:Al):Al:=(Fc none none k (n:Al)).1
def stepHi (n:Aj)(k:Al):Al:=(Fc none none k (n:Al)).2
def stepN (n:Aj)(k:Al):Aj:=Fy (stepLo n k) (stepHi n k) k
def stepL {α:Type}(xs:Aa α)(k:Al):Aa α:=(Ce (stepN xs.length k)).filterMap fun (m:Aj)=>xs[(stepLo xs.length k+(m:Al)*k).toNat]?
section
variable {prog:Be}{w:Bt}{A:Bu}{E:Ac→Ag→Prop}{s:Ag}
theorem bA {sl:Af}{k:Al}{t:OQ}{n:Aj}{Q:Al × Al × Aj→Ag→Prop}(hs:s.heap.IsSliceOf sl .none .none (.int k t))(hk:k≠0)
  (h:Q (stepLo n k,k,stepN n k) s):Ao (Au prog w) A (Hu (.ref sl) (pure (n:Al))) Q E s:=by
 obtain⟨os,hos,hcs,hds⟩:=id hs;unfold Hu O0;refine Ad (Ad (Do hos hds (x:=.none) rfl (Ad (Do hos hds (x:=.none) rfl (Ad (Do hos hds (x:=.int k t) rfl (Ak ?_)))))));refine Ad (slicePart_int ?_);show Ao _ _ (if (k == 0)=true then _ else _) _ _ s
 rw[Bn (by simpa using hk)]
 refine Ad (No (Ad (No (Ad (Ak ?_)))));exact Ak h
theorem stepL_length {α:Type}(xs:Aa α)(k:Al):(stepL xs k).length≤stepN xs.length k:=by
 unfold stepL;exact Cr (OZ _ _) (by rw[Hj];exact Az _)
theorem getItem_tuple_step {t sl:Af}{items:Bl Ac}{k:Al}{u:OQ}{Q:Ac→Ag→Prop}(ht:Nm s.heap t items)(hs:s.heap.IsSliceOf sl .none .none (.int k u))(h0:k≠0)(h1:k≠1)
  (h:Q (.ref s.heap.objs.size) { s with heap:=s.heap.push { cls:=.type "tuple",data:=.seq (stepL items.toList k).toArray } })
  (hsz:stepN items.size k≤sizeLine):Ao (Au prog w) A (Jh (.ref t) (.ref sl)) Q E s:=by
 have htake:sizeOk (.seq (stepL items.toList k).toArray):=by
  show (stepL items.toList k).toArray.size≤sizeLine;rw[Aw];exact Cr (stepL_length _ _) (by simpa using hsz)
 obtain⟨os,hos,hcs,hds⟩:=id hs;have hTs:s.TypeIs (.ref sl) "slice":=⟨os,hos,hcs⟩;unfold Jh
 try with_reducible refine Du ?_
 first|refine Ad (Ak ?_)|skip
 refine Ad (O1 ht.typeIs (by decide) ?_)
 refine Ad (Dr (name:=Gv "__getitem__") ht.typeIs Dj
  (Dw Dj ht.typeIs My ?_ (Oc _ _)))
 show Ao _ _ (Jp (.ref t) >>= _) _ _ s;refine Ad (Sz ht ?_);refine Ad (Jl hTs ?_);rw[Bh (by decide)]
 refine Ad (bA hs h0 ?_);have hno:¬ ((stepLo items.size k == 0&&k == 1&&stepN items.size k == items.size)=true):=by
  intro q;rw[AT,AT] at q;exact h1 (eq_of_beq q.1.2)
 show Ao _ _ (if (stepLo items.size k == 0&&k == 1&&stepN items.size k == items.size)=true then _ else _) _ _ s
 rw[Bn hno];have e:((Ce (stepN items.size k)).filterMap fun (m:Aj)=>items[(stepLo items.size k+(m:Al)*k).toNat]?)=stepL items.toList k:=by
  unfold stepL;simp
 rw[e]
 first
  |exact Ad (m:=Es _) (Dl (Ak ⟨_,rfl,Ak h⟩) htake)
  |exact Ad (m:=Es _) (Dl (Ad (Ak (Ak ⟨_,rfl,Ak h⟩))) htake)
  |exact Ad (Ad (m:=Es _) (Dl (Ak (Ak ⟨_,rfl,Ak h⟩)) htake))
  |exact Ad (Ad (m:=Es _) (Dl (Ak ⟨_,rfl,Ak h⟩) htake))
end
end _H
namespace _D
open PySem PySem.Spec PyProof.Rows _L
def d8:G2:=fun d k S=>match d,k with
 |.tup xs,.int k=>if k≠0∧k≠1∧_H.stepN xs.length k≤lim then .ok (.tup (_H.stepL xs k)) S else .bad
 |_,_=>.bad
def iA (fe fk:DE):DE:=d2 d8 fe fk
section
variable {X:Cx}{e ek:Bp}{fe fk:DE}{p2 pos:Ek}
theorem XQ {vs:Aa V}{us:Aa Ac}(rv:qJ vs us)(l:Aa Aj)(f:Aj→Aj):qJ (l.filterMap fun m=>vs[f m]?) (l.filterMap fun m=>us[f m]?):=by
 induction l with
 |nil=>exact .nil
 |cons m l ih =>
  simp only[Fw];cases h:vs[f m]? with
  |none =>
   have:us[f m]? = none:=by
    rw[ON] at h ⊢;rw[← rv.length];exact h
   rw[this];exact ih
  |some v =>
   obtain⟨u,hu,r⟩:=rv.get h;rw[hu];exact .cons r ih
theorem XA {K:Ai}{P:Hp}{α:Aa Af}{ds:Aa D}{vs:Aa V}(rp:qD K P α ds vs)(l:Aa Aj)(f:Aj→Aj):qD K P α (l.filterMap fun m=>ds[f m]?) (l.filterMap fun m=>vs[f m]?):=by
 induction l with
 |nil=>exact .nil
 |cons m l ih =>
  simp only[Fw];cases h:ds[f m]? with
  |none =>
   have:vs[f m]? = none:=by
    rw[ON] at h ⊢;rw[← rp.length];exact h
   rw[this];exact ih
  |some d =>
   obtain⟨u,hu,r⟩:=rp.get h;rw[hu];exact .cons r ih
set_option tactic.hygienic true in
theorem JY (he:PE X e (tD X fe))(hk:PE X ek (tD X fk)):PE X (.Subscript e (.Slice none none (Ab ek) p2) pos) (tD X (iA fe fk)):=by
 intro pins s σ H Q I h;obtain⟨P,α,env,S,r,re,af⟩:=h;have af':qI X P α ((fe env S).bind fun d S1=>(fk env S1).bind fun k S2=>d8 d k S2) (OkV X P α Q):=af;refine Tc (thn (zL he I r re af') fun v s1 ⟨x,H1,P1,α1,d,S1,G1,af1⟩=>?_);refine wpAny_Slice ?_;rw[Ta];refine Ak (Ak ?_);rw[evalPart_some];refine thn (zL hk G1.inv G1.rel G1.env (qV.base G1.same G1.pre af1)) fun vk s2 ⟨y,H2,P2,α2,k,S2,G2,af2⟩=>?_;have af2:=qV.base G2.same G2.pre af2;cases d with
 |tup xs =>
  cases k with
  |int k =>
   simp only[d8] at af2
   split at af2
   ·rename_i hk'
    have rp:=Rep.mono G2.same G2.pre _ _ G1.rep;obtain⟨a,vs,its,rfl,q,t,rvs,ht,hl,_⟩:=vY G2.inv G2.rel rp;cases (show v=Cb a from G1.val)
    have gr:=G2.rep;simp only[Rep] at gr;subst gr;obtain⟨tk,rfl⟩:=G2.val;have I4:Inv X pins σ H2 { s2 with heap:=s2.heap.push { cls:=.type "slice",data:=.fields #[.none,.none,.int k tk] } }:=G2.inv.kept (t':=s2.toks) fun b ob q=>Ah _ q
    have ht':Nm (s2.heap.push { cls:=.type "slice",data:=.fields #[.none,.none,.int k tk] }) a its.toArray:=ht.keeps fun b ob q=>Ah _ q;refine tail_any (ops:=[.ref a,.ref s2.heap.objs.size]) (s:={ s2 with heap:=s2.heap.push { cls:=.type "slice",data:=.fields #[.none,.none,.int k tk] } }) ht'.typeIs Dj.lookup ?_ (by with_unfolding_all rfl)
    refine _H.getItem_tuple_step (s:={ s2 with heap:=s2.heap.push { cls:=.type "slice",data:=.fields #[.none,.none,.int k tk] } }) ht' (Tx ..) hk'.1 hk'.2.1 ?_ ?_
    ·have lv:vs.length=its.length:=rvs.length
     have ld:xs.length=vs.length:=t.length;have t':qD X.K P2 α2 (_H.stepL xs k) (_H.stepL vs k):=by
      unfold _H.stepL;rw[ld];exact XA t _ fun m=>(_H.stepLo vs.length k+(m:Al)*k).toNat
     have rv':qJ (_H.stepL vs k) (_H.stepL its k):=by
      unfold _H.stepL;rw[lv];exact XQ rvs _ fun m=>(_H.stepLo its.length k+(m:Al)*k).toNat
     exact sW I4 G2.rel t' rv' (Cr (_H.stepL_length _ _) hk'.2.2) af2
    ·rw[Aw,← hl,← zJ];exact hk'.2.2
   ·exact An af2
  |_=>exact An af2
 |_=>exact An af2
end
end _D
end
namespace _D
open PySem PySem.Spec PyProof.Rows _L
section
variable {X:Cx}{cm:Ar}{k:Aj}{e ek:Bp}{fe fk:DE}{p2 pos:Ek}
theorem PM (he:QE X e fe)(hk:QE X ek fk):QE X (.Subscript e (.Slice none none (Ab ek) p2) pos) (iA fe fk):=⟨JY he.1 hk.1⟩
end
end _D
namespace _S
open PySem PySem.W PyProof.Rows
section
variable {prog:Be}{w:Bt}{A:Bu}{E:Ac→Ag→Prop}{s:Ag}{K:Type}{is:K→Ac→Prop}{hash:K→Al}{lt':K→K→Ar}{d:K}{Fit:K→Prop}{h0:Bk}
theorem iY {Q:Ac→Ag→Prop}(kd:Kind prog w is hash lt' d Fit h0)(hu:A.units+16<Ex)(hS:Sup h0 s.heap){l:Af}{vs:Aa Ac}(hl:s.heap.IsList l vs.toArray∨s.heap.IsTuple l vs.toArray)(ks:Aa K)(hlen:vs.length=ks.length)(hks:∀ i v,vs[i]? = Ab v→is (ks.getD i d) v)(hf:∀ k∈ks,Fit k)(hoel:vs.length≤63)
  (h:∀ (h1 h':Bk) (tk:Aj) (D:Af) (c:Aj) (ps:Aa (K × Ac)),(∀ b o,s.heap.get? b=Ab o→h1.get? b=Ab o)→(∀ b o,h1.get? b=Ab o→h'.get? b=Ab o)→h1.objs.size≤D→h'.get? D=Ab (Ec "list" (ps.map (·.2)).toArray c)→ps.map (·.1)=wN lt' ks→(∀ p∈ps,is p.1 p.2∧p.2∈vs)→ps.length=ks.length→Q (.ref D) { s with heap:=h',toks:=tk }) :
  Ao (Au prog w) A (call (.builtin "sorted") [.ref l]) Q E s:=by
 refine OM kind_sorted plain_sorted entry_sorted (args_sorted1 _) ?_;unfold Hd.«sorted»;refine Ad (m:=checkCount "sorted" 1 1 _) (Ak ?_);have hcol:∀ {R:Aa Ac→Ag→Prop},(∀ h1:Bk,(∀ b o,s.heap.get? b=Ab o→h1.get? b=Ab o)→R vs { s with heap:=h1 }) → Ao (Au prog w) A.in1 (collect (.ref l)) R E s:=fun {R} hR=>by
  have e:vs.toArray.toList=vs:=by simp
  rcases hl with⟨o,ho,hc,n,hd⟩|⟨o,ho,hc,n,hd⟩
  ·exact Vp l (.inl rfl) ho hc hd (fun h' hk=>by rw[e];exact hR h' hk) (by rw[Aw,Ew];omega)
  ·exact Vp l (.inr rfl) ho hc hd (fun h' hk=>by rw[e];exact hR h' hk) (by rw[Aw,Ew];omega)
 refine Ad (hcol fun h1 kp1=>?_);refine Ad (To ?_ (by rw[Ew];omega))
 have hD:(h1.push (Ec "list" vs.toArray 0)).get? h1.objs.size=Ab (Ec "list" vs.toArray 0):=Ba _ rfl;have n0:h0.get? h1.objs.size=none:=by
  cases q:h0.get? h1.objs.size with
  |none=>rfl
  |some o=>exact absurd (Ax (kp1 _ _ (hS _ _ q))) (Ea _)
 show Ao _ _ _ _ _ { s with heap:=h1.push (Ec "list" vs.toArray 0),toks:=s.toks }
 refine Ad (Du (Dw slot_list_sort ⟨_,hD,rfl⟩ Xc (UT (h0:=h0) (is:=is) kd.ord kd.inj (d:=d) (vs:=vs) hlen hks hD (by show A.units+2+8<Ex;omega) hoel (fun h2=>kd.cmps hlen hks hf h2) (fun b o e=>Ah _ (kp1 b o (hS b o e))) n0 fun ps pm nf=>⟨_,rfl,?_⟩) (args_list_sort _)))
 refine Ak ⟨_,rfl,?_⟩;have hz:(h1.push (Ec "list" vs.toArray 0)).objs.size=h1.objs.size+1:=size_push' ..;have old:∀ b o,b≠h1.objs.size→(h1.push (Ec "list" vs.toArray 0)).get? b=Ab o→((((h1.push (Ec "list" vs.toArray 0)).update h1.objs.size (Eg fun _=>#[])).push (Ec "tuple" vs.toArray 0)).push (Ec "list" #[] 0)).get? b=Ab o:=fun b o hb e =>
  Ah _ (Ah _ ((Cy _ _ (Fx hb)).trans e))
 obtain⟨e1,he1⟩:∃ e1,((h1.push (Ec "list" vs.toArray 0)).update h1.objs.size (Eg fun _=>#[])).get? h1.objs.size=Ab (Ec "list" #[] e1):=⟨_,Kj hD (fun _=>#[])⟩;have he6:=Kj (Ah (Ec "list" #[] 0) (Ah (Ec "tuple" vs.toArray 0) he1)) (fun _=>(ps.map (·.2)).toArray)
 have pk:(ps.map (·.1)).Perm ks:=by
  have:=pm.map (·.1)
  rwa [Pl (by omega)] at this
 refine h h1 _ s.toks h1.objs.size _ ps kp1 (fun b o e=>?_) (Az _) he6 (pS kd.ord nf (jZ kd.ord ks) (pk.trans (xD ks).symm)) (fun p hp=>?_) (by have:=pk.length_eq;rwa [Aq] at this)
 ·have hb:b≠h1.objs.size:=fun z=>by
   subst z;exact absurd (Ax e) (Ea _)
  exact(Cy _ _ (Fx hb)).trans (old b o hb (Ah _ e))
 ·obtain⟨i,e1,e2⟩:=XT (d:=d) hlen (pm.mem_iff.mp hp)
  exact⟨e2▸hks i _ e1,Bm e1⟩
end
end _S
namespace _D
open PySem PySem.Spec PyProof.Rows _L
def vR (xs:Aa D):Am (Aa D):=match xR xs with
 |some ns=>if ns.length≤63 then Ab ((_S.wN _S.ltI ns).map D.int) else none
 |none=>match xW xs with
  |some ks=>if (decide (ks.length≤63)&&ks.all fun k=>!k.isEmpty) then Ab ((_S.wN _H.lexLt ks).map tpD) else none
  |none=>none
def VW (R:Aa D→Sto→Res D):DF:=fun ds S=>match ds with
 |[d]=>match (VR d).bind vR with
  |some ys=>R ys S
  |none=>.bad
 |_=>.bad
def wI:DF:=VW fun ys S=>.ok (.lst ys) S
section
variable {X:Cx}{pins:Aa (Af × Cg)}{σ : _L.St}{H P:Hp}{α : Aa Af}{S:Sto}{s:Ag}
inductive NewR (X:Cx)(pins:Aa (Af × Cg))(σ : _L.St)(H P:Hp)(α : Aa Af)(ys:Aa D)(u:Ac)(s':Ag):Prop
 |mk (D:Af) (vs:Aa V) (e:u=.ref D) (hn:H D=none) (I:Inv X pins σ (upd H D (.lst vs)) s') (rp:qD X.K P α ys vs):NewR X pins σ H P α ys u s'
theorem lO {K:Type}{is:K→Ac→Prop}{hash:K→Al}{lt':K→K→Ar}{d:K}{Fit:K→Prop}(kd:_S.Kind X.prog X.w is hash lt' d Fit s.heap)(hu:X.A.units+64<Ex)(I:Inv X pins σ H s)(r:Rel X.K H P α S){a:Af}{its:Aa Ac}
  (ha:s.heap.IsList a its.toArray∨s.heap.IsTuple a its.toArray) (ks:Aa K) (hl:ks.length=its.length) (hk:∀ i v,its[i]? = Ab v→is (ks.getD i d) v) (hn:ks.length≤63) (hf:∀ k∈ks,Fit k) (enc:K→D)
  (back:∀ k v,is k v→v∈its→∃ vv,qL vv v∧Rep X.K P α (enc k) vv) {E:Ac→Ag→Prop} :
  Ao (Au X.prog X.w) X.A (call (.builtin "sorted") [.ref a]) (NewR X pins σ H P α ((_S.wN lt' ks).map enc)) E s:=by
 refine _S.iY kd om (fun _ _ e=>e) ha ks hl.symm hk hf om fun h1 h2 tk2 D c ps kp1 kp2 hD hob hps hp hpl=>?_;have I1:Inv X pins σ H { s with heap:=h1,toks:=s.toks }:=I.kept kp1
 have vv:∀ (ps:Aa (K × Ac)),(∀ p∈ps,is p.1 p.2∧p.2∈its)→∃ vs,qJ vs (ps.map (·.2))∧qD X.K P α ((ps.map (·.1)).map enc) vs:=by
  intro ps
  induction ps with
  |nil=>exact fun _=>⟨[],.nil,.nil⟩
  |cons p ps ih =>
   intro h;obtain⟨vs,a1,a2⟩:=ih fun q hq=>h q (by simp[hq])
   obtain⟨v,b1,b2⟩:=back p.1 p.2 (h p (by simp)).1 (h p (by simp)).2
   exact⟨v::vs,.cons b1 a1,.cons b2 a2⟩
 obtain⟨vs,a1,a2⟩:=vv ps hp;rw[hps] at a2;have nd:([(D,HO.lst vs)].map (·.1)).Nodup:=by simp
 have I2:Inv X pins σ (jM H [(D,HO.lst vs)]) { s with heap:=h2,toks:=tk2 }:=Inv.laidL (s:={ s with heap:=h1,toks:=s.toks }) (L:=[(D,HO.lst vs)]) (t':=tk2) I1 kp2 (fun p hpm=>by
  have:p=(D,HO.lst vs):=by simpa using hpm
  subst this;exact hD) fun p hpm=>by
  have:p=(D,HO.lst vs):=by simpa using hpm
  subst this;refine⟨?_,ps.map (·.2),c,a1,hob⟩
  have:=a1.length;rw[Aq] at this;rw[this,Ew];omega
 exact⟨D,vs,rfl,I1.hok.fresh hD,I2,a2⟩
set_option tactic.hygienic true in
theorem iX {E:Ac→Ag→Prop}(hu:X.A.units+64<Ex)(I:Inv X pins σ H s)(r:Rel X.K H P α S){a:Af}{xs ys:Aa D}{vs:Aa V}{its:Aa Ac}(t1:qD X.K P α xs vs)(rv1:qJ vs its)(e1:s.heap.IsList a its.toArray∨s.heap.IsTuple a its.toArray)(l1:xs.length=its.length)(hs:vR xs=Ab ys) :
  Ao (Au X.prog X.w) X.A (call (.builtin "sorted") [.ref a]) (NewR X pins σ H P α ys) E s:=by
 unfold vR at hs;cases hi:xR xs with
 |some ns =>
  rw[hi] at hs;dsimp only at hs
  split at hs
  ·rename_i hlt
   cases hs;have:=uN hi;subst this;have:=yQ t1;subst this;refine lO (d:=0) (_S.UP X.prog X.w s.heap) hu I r e1 ns (by simpa using l1) (fun i u hu'=>?_) hlt (fun _ _=>trivial) D.int fun k u hk _=>?_
   ·have hi:Ip its ns:=by simpa using kR rv1
    obtain⟨t,rfl⟩:=Ny hi i u hu';exact Tk _ _ _ _
   ·obtain⟨t,rfl⟩:=_S.wK hk
    exact⟨.int k,⟨t,rfl⟩,by simp only[Rep]⟩
  ·cases hs
 |none =>
  rw[hi] at hs;dsimp only at hs;cases ht:xW xs with
  |none=>rw[ht] at hs;cases hs
  |some ks =>
   rw[ht] at hs;dsimp only at hs
   split at hs
   ·rename_i hlt
    cases hs;rw[AT,Ch] at hlt;have:=fK ht;subst this;have at':∀ (i:Aj) (u:Ac),its[i]? = Ab u→∃ b,u=.ref b∧Ng (Bd X.prog X.w) s.heap (ks.getD i []) b∧∃ vv,qL vv u∧Rep X.K P α (tpD (ks.getD i [])) vv:=fun i u hu'=>by
     have hii:i<its.length:=(Av.mp hu').1;have hik:i<ks.length:=by rw[Aq] at l1;omega
     obtain⟨v,p,q,_⟩:=vE t1 rv1 (j:=i) (by rw[Aw];exact hii)
     have hd:(ks.map tpD).getD i D.non=tpD (ks.getD i []):=by simp[IZ,hik]
     rw[hd] at p;have hu2:its.toArray[i]'(by rw[Aw];exact hii)=u:=by
      rw[Ap hii] at hu';simpa using hu'
     rw[hu2] at q;obtain⟨b,ws,us,rfl,sq,t,rv,⟨o,ho,hcl,m,hd⟩,_,_⟩:=vY I r (show Rep X.K P α (.tup ((ks.getD i []).map D.int)) v from p)
     cases (show u=Cb b from q)
     have:=yQ t;subst this;exact⟨b,rfl,⟨o,us.toArray,m,ho,hcl,hd,by simpa using tL rv⟩,.ref b,rfl,p⟩
    refine lO (d:=[]) (_S.UQ X.prog X.w s.heap) hu I r e1 ks (by simpa using l1) (fun i u hu'=>?_) hlt.1 (fun k hk=>?_) tpD fun k u hk hm'=>?_
    ·obtain⟨b,rfl,q,_⟩:=at' i u hu'
     exact⟨b,rfl,q⟩
    ·have:=Bq.mp hlt.2 k hk
     intro z;subst z;cases this
    ·obtain⟨i,hi',rfl⟩:=De.mp hm'
     obtain⟨b,eb,q,w,rw',pw⟩:=at' i _ (Ap hi');have:k=ks.getD i []:=_S.isT.inj hk ⟨b,eb,q⟩;rw[this];exact⟨w,rw',pw⟩
   ·cases hs
theorem EB (hu:X.A.units+64<Ex){vs:Aa V}{us:Aa Ac}{ds:Aa D}{Q:VK}{R:Aa D→Sto→Res D}(I:Inv X pins σ H s)(r:Rel X.K H P α S)(rv:qJ vs us)(rp:qD X.K P α ds vs)(af:qV X P α (VW R ds S) Q)
  (k:∀ ys D vs',H D=none→qD X.K P α ys vs'→qV X P α (R ys S) Q→Q (.ref D) (upd H D (.lst vs'))):Ao (Au X.prog X.w) X.A (call (.builtin "sorted") us) (EP X pins σ Q) X.xe s:=by
 match ds,af,rp with
 |[],af,_=>exact An af
 |_::_::_,af,_=>exact An af
 |[d],af,rp =>
  simp only[VW] at af;cases hq:(VR d).bind vR with
  |none=>rw[hq] at af;exact An af
  |some ys =>
   rw[hq] at af;obtain⟨xs,hd,hs⟩:=Eh.mp hq;obtain⟨v,u,rfl,rfl,p,q⟩:=yI rp rv;obtain⟨a,vs,its,rfl,t1,rv1,e1,l1⟩:=rR I r p q hd;refine thn (iX hu I r t1 rv1 e1 l1 hs) fun u' s3 ⟨D,vs',e,hn,I',rp'⟩=>?_;subst e;exact⟨.ref D,_,I',rfl,k ys D vs' hn rp' af⟩
theorem oK (hu:X.A.units+64<Ex):wQ X (.builtin "sorted") wI:=by
 intro pins σ H s P α S vs us ds Q I r rv rp af;exact EB hu I r rv rp af fun ys D vs' hn rp' af'=>wA r hn rp' af'
end
section
variable {X:Cx}{cm:Ar}{k:Aj}
theorem U6 (hr:RoomC cm k X.A):ZCall X (.builtin "sorted") wI:=⟨oK hr.units⟩
end
end _D
namespace _L
open PySem PySem.Spec PyProof.Rows
variable {loose:Aa As}{mg mb:As→Am Ac}
def H9 (H:Hp):Prop:=∀ b,H b=none∨(∃ o xs,H b=Ab (.frz o (.lst xs)))∨H b=Ab (.tbl #[])
def Tb0 (K:Ai)(H:Hp):Prop:=∀ x∈w9,∀ c T,Dk K x=Ab (c,T)→H T=Ab (.tbl #[])
structure Tabs (K:Ai)(h:Bk):Prop where
 at':∀ x∈w9,∀ c T,Dk K x=Ab (c,T)→Rw h c T∧h.get? T=Ab (Jj #[]) ∧ K.lookup T=none
 inj:∀ x∈w9,∀ y∈w9,∀ c d T,Dk K x=Ab (c,T)→Dk K y=Ab (d,T)→x=y
theorem YJ {P:Be}{w:Bt}{K:Ai}{CX:CXT}{k:Aj}{fa a:Af}{fd:Fb}{x:As}{sp:Sp}{s₁:Ag}{vs:Aa Ac}{ns:Aa Al}
  (KX:K.In s₁.heap) (hns:s₁.heap.Ns Cf mg) (hb:s₁.heap.Ns Mx mb) (hbb:∀ x:As,x ≠ "__name__" → mb x=Fl x) (hlim:s₁.heap.NoLimit) (hg:s₁.gens=#[]) (hbm:BU mg s₁.heap) (tbs:Tabs K s₁.heap)
  (ha:s₁.heap.get? a=Ab { cls:=.type "list",data:=.seq vs.toArray }) (hi:Ip vs ns) (hl:ns.length≤sizeLine) (hr:Room k O8)
  (F:∀ base:Bk,K.In base→base.Ns Cf mg→FnOk P w K mg base CX k fa fd [x] sp) (hbind:∀ (s:Ag) (u:Ac),Lu s fd ⟨[u],[]⟩ [(x,u)])
  (hsp:∀ H:Hp,Tb0 K H→SqX K H a (ns.map V.int)→sp [.ref a] H (fun v _=>v=.bl true) fun _ _ _=>Ev)
  (hCX:∀ H e s',CX [] H s₁ (fun _ _ _=>Ev) e s'→Ev) :
  Ic (Au P w) O8 (.call (.ref fa) ⟨[.ref a],[]⟩) (fun r s'=>r=.ok (.ret (.bool true))∧OldK s₁.heap s'.heap∧s'.os=s₁.os∧Lq s'.gens) s₁:=by
 have rv:=XO hi;have lenV:=hi.length
 let isT:Af→Prop:=fun b=>∃ x∈w9,∃ c,Dk K x=Ab (c,b)
 have tab:∀ b,isT b→s₁.heap.get? b=Ab (Jj #[]) ∧ K.lookup b=none:=fun b ⟨x,hx,c,h⟩=>(tbs.at' x hx c b h).2;have core:∀ H:Hp,H9 H→Tb0 K H→SqX K H a (ns.map V.int)→HOk P w H s₁.heap→(∀ b,H b≠none→b=a∨isT b)→(H a≠none→K.lookup a=none) →
   Ic (Au P w) O8 (.call (.ref fa) ⟨[.ref a],[]⟩) (fun r s'=>r=.ok (.ret (.bool true))∧OldK s₁.heap s'.heap∧s'.os=s₁.os∧Lq s'.gens) s₁:=by
  intro H hO hT hS hok hA hK;have base_of:∀ {b:Af} {o:Cg},s₁.heap.get? b=Ab o→H b=none→(kO s₁.heap H).get? b=Ab o:=fun e n=>Y5 e n;have noA:∀ {b:Af} {o:Cg},s₁.heap.get? b=Ab o→o.cls≠.none→(o.cls≠.type "list" ∨ ∃ es ep,o.data=.dict es ep)→H b=none:=fun {b o} e c1 c2=>by
   cases q:H b with
   |none=>rfl
   |some u =>
    rcases hA b (by rw[q];simp) with e'|e'
    ·subst e'
     rw[ha] at e;cases e;rcases c2 with z|⟨es,ep,d⟩
     ·exact absurd rfl z
     ·cases d
    ·rw[(tab b e').1] at e;cases e
     exact absurd rfl c1
  have noD:∀ {b:Af} {o:Cg} {es:Bl DictEntry} {ep:Aj},s₁.heap.get? b=Ab o→o.data=.dict es ep→H b=none:=fun {b o es ep} e d=>by
   cases q:H b with
   |none=>rfl
   |some u =>
    rcases hA b (by rw[q];simp) with e'|e'
    ·subst e'
     rw[ha] at e;cases e;cases d
    ·rw[(tab b e').1] at e;cases e;cases d
  have nsK:∀ {b:Af} {m:As→Am Ac},s₁.heap.Ns b m→(kO s₁.heap H).Ns b m:=fun {b m} ⟨o,es,ep,e,d,r⟩=>⟨o,es,ep,base_of e (noD e d),d,r⟩;have hKb:K.In (kO s₁.heap H):=fun b o e=>base_of (KX b o e) (by
   cases q:H b with
   |none=>rfl
   |some u =>
    rcases hA b (by rw[q];simp) with e'|e'
    ·subst e'
     rw[hK (by rw[q];simp)] at e;cases e
    ·rw[(tab b e').2] at e;cases e)
  have hM:Mod K mg (kO s₁.heap H):=by
   refine⟨hKb,nsK hns,⟨mb,nsK hb,hbb⟩,let ⟨mc,h1,h2⟩:=hlim;⟨mc,nsK h1,h2⟩,?_,fun x hx c T h=>?_,tbs.inj⟩
   ·obtain⟨bm,o,b1,b2,b3,b4,b5⟩:=hbm
    exact⟨bm,o,b1,b2,base_of b3 (noA b3 (by rw[b4];nofun) (.inl (by rw[b4];decide))),b4,b5⟩
   ·obtain⟨o,vs,file,tf,flags,tg,inF,text,tt,e1,e2,r⟩:=(tbs.at' x hx c T h).1
    exact⟨o,vs,file,tf,flags,tg,inF,text,tt,base_of e1 (noA e1 (by rw[e2];nofun) (.inl (by rw[e2];decide))),e2,r⟩
  have e0:Env0 P w K mg (kO s₁.heap H) O8 [] s₁ H:=⟨rfl,hM,fun b o e=>GS e,Nat.le_of_eq (QD _ _),trivial,fun b hb=>absurd (show b∈([]:Aa Af) from hb) (by simp),hok,.of_eq hg⟩
  refine Iw ((F _ hKb (nsK hns)).run O8 [] s₁ H ⟨[.ref a],[]⟩ [.ref a] [.ref a] _ _ hr e0 (hbind s₁ (.ref a)) (.cons rfl .nil) (hsp H hT hS)) fun r s' h=>?_;cases r with
  |error e=>exact(hCX H e s' h).elim
  |ok fl =>
   cases fl with
   |next=>exact An h
   |brk=>exact An h
   |cont=>exact An h
   |ret u =>
    obtain⟨v,H',os,bare,un,hok',r',q⟩:=h;have q':v=.bl true:=q;subst q';obtain rfl:u=Fg true:=r';refine⟨rfl,⟨fun b o e=>?_,fun b o e=>un.there b o e (by simp)⟩,os,bare⟩
    cases q:H b with
    |none=>exact .inl (un.keep b o e q (by intro z;exact absurd (show b∈([]:Aa Af) from z) (by simp)) (by simp))
    |some u =>
     rcases hO b with z|⟨ob,xs,z⟩|z
     ·rw[q] at z;cases z
     ·have z2:=un.frzs b ob _ z
      obtain⟨e1,_⟩:=hok b _ z;obtain⟨e2,_⟩:=hok' b _ z2;rw[e] at e1;cases e1;exact .inl e2
     ·obtain⟨more,z2⟩:=un.tbls b _ z
      have e1:s₁.heap.get? b=Ab (Jj #[]):=hok b _ z;have e2:s'.heap.get? b=Ab (Jj (#[] ++ more)):=hok' b _ z2;rw[e] at e1;cases e1;rcases hA b (by rw[q];simp) with e'|⟨x,hx,c,h⟩
      ·subst e';rw[ha] at e;cases e
      ·exact .inr (.inl ⟨((tbs.at' x hx c b h).1.tab e).isCodeTable,rfl,#[],more,rfl,e2⟩)
 have nT:¬ isT a:=fun h=>by
  have z:=(tab a h).1;rw[ha] at z;cases z
 have tT:∀ x∈w9,∀ c T,Dk K x=Ab (c,T)→isT T:=fun x hx c T h=>⟨x,hx,c,h⟩;have dec:∀ b,Lc (isT b):=fun b=>Classical.propDecidable _;cases hk:K.lookup a with
 |some o =>
  have e:=KX a o hk;rw[ha] at e;cases e;refine core (fun b=>if isT b then Ab (.tbl #[]) else none) (fun b=>?_) (fun x hx c T h=>Bh (tT x hx c T h)) (.inr ⟨vs,_,hk,by rw[Aq];exact hl,rv⟩) (fun b u z=>?_) (fun b z=>?_) fun z=>absurd (Bn nT) z
  ·by_cases h:isT b
   ·exact .inr (.inr (Bh h))
   ·exact .inl (Bn h)
  ·by_cases h:isT b
   ·have z':=(Bh h).symm.trans z
    cases z';exact(tab b h).1
   ·have z':=(Bn h).symm.trans z
    cases z'
  ·by_cases h:isT b
   ·exact .inr h
   ·exact absurd (Bn h) z
 |none =>
  refine core (fun b=>if b=a then Ab (.frz { cls:=.type "list",data:=.seq vs.toArray } (.lst (ns.map V.int))) else if isT b then Ab (.tbl #[]) else none) (fun b=>?_) (fun x hx c T h=>?_) (.inl (.inr ⟨{ cls:=.type "list",data:=.seq vs.toArray },Bh rfl⟩)) (fun b u z=>?_) (fun b z=>?_) fun _=>hk
  ·by_cases hb:b=a
   ·exact .inr (.inl ⟨_,_,Bh hb⟩)
   ·by_cases h:isT b
    ·exact .inr (.inr ((Bn hb).trans (Bh h)))
    ·exact .inl ((Bn hb).trans (Bn h))
  ·have h':=tT x hx c T h
   exact(Bn (fun (z:T=a)=>nT (z▸h'))).trans (Bh h')
  ·by_cases hb:b=a
   ·have z':=(Bh hb).symm.trans z
    cases z';subst hb;exact⟨ha,by rw[Aq];exact hl,vs,_,rv,ha⟩
   ·by_cases h:isT b
    ·have z':=((Bn hb).trans (Bh h)).symm.trans z
     cases z';exact(tab b h).1
    ·have z':=((Bn hb).trans (Bn h)).symm.trans z
     cases z'
  ·by_cases hb:b=a
   ·exact .inl hb
   ·by_cases h:isT b
    ·exact .inr h
    ·exact absurd ((Bn hb).trans (Bn h)) z
def i6 (q:Be)(K:Ai):Ar:=w9.all fun x=>match Dk K x with
 |none=>true
 |some (_,T)=>((recsOf q).find? fun e=>e.name == x).isSome&&((K.lookup T).isNone&&w9.all fun y=>match Dk K y with
  |none=>true
  |some (_,U)=>x == y||!decide (T=U))
theorem BG {q:Be}{mean:ExcName→Am Ac}{h:Bk}{K:Ai}(T:Top q loose mean mg mb h)(X:K.In h)(c:i6 q K=true):Tabs K h:=by
 unfold i6 at c;have g:∀ x∈w9,∀ d U,Dk K x=Ab (d,U)→((recsOf q).find? fun e=>e.name == x).isSome=true∧(K.lookup U).isNone=true∧(w9.all fun y=>match Dk K y with
  |none=>true
  |some (_,V)=>x == y||!decide (U=V))=true:=fun x hx d U e=>by
  have z:=Bq.mp c x hx;rw[e] at z;simpa only [AT] using z
 refine⟨fun x hx d U e=>?_,fun x hx y hy d d' U e1 e2=>?_⟩
 ·obtain⟨z1,z2,_⟩:=g x hx d U e
  obtain⟨r,hr⟩:=Ik.mp z1;obtain⟨k1,k2⟩:=PySem.W.tab_of T X hr e;exact⟨k1,k2,by simpa using z2⟩
 ·have z:=Bq.mp (g x hx d U e1).2.2 y hy
  rw[e2] at z;simpa using z
theorem BM {l:Xd}{n k:Aj}{q:Be}{loose:Aa As}{XP:(As→Am Ac)→Bk→Prop}{YP:Bt→Bk→Prop}{d:DefRec}{K:Params→Ai}{CX:Bt→CXT}{sp:Bt→Sp}{x:As}
  (hn:l.most=Ab n) (hn2:n≤sizeLine) (hdf:d.params.defaults=[]) (hr:Room k O8) (ht:∀ p,i6 q (K p)=true)
  (hY:∀ (w:Bt) (h:Bk),YP w h→(K w.params).In h)
  (F:∀ (w:Bt) (mg:As→Am Ac) (fa:Af) (h:Bk),(K w.params).In h→h.Ns Cf mg→mg d.name=Ab (.ref fa) →
   ∃ fd:Fb,(∀ (s:Ag) (u:Ac),Lu s fd ⟨[u],[]⟩ [(x,u)]) ∧
    ∀ base:Bk,(K w.params).In base→base.Ns Cf mg→FnOk l.prog w (K w.params) mg base (CX w) k fa fd [x] (sp w))
  (hsp:∀ (w:Bt) (H:Hp) (a:Af) (ns:Aa Al),ns.length≤n→Tb0 (K w.params) H→SqX (K w.params) H a (ns.map V.int)→sp w [.ref a] H (fun v _=>v=.bl true) fun _ _ _=>Ev)
  (hCX:∀ (w:Bt) (H:Hp) (s:Ag) (e:Ac) (s':Ag),CX w [] H s (fun _ _ _=>Ev) e s'→Ev) :
  Yl q loose XP YP l.row.toRowW d [] (fun f vs=>Xn f vs):=by
 refine _A.attach_call hn hdf fun w s₀ s₁ mg mb fa o pm cd doc a vs ns G Y ho hd hcd hmg hobj hints hlen hg=>?_;have KX:=hY w _ Y;obtain⟨fd,hb,hF⟩:=F w mg fa _ KX G.T.g hmg;exact YJ KX G.T.g G.T.b G.T.builtins G.T.nolimit hg (let ⟨bm,ob,b1,b2,b3,b4,b5,b6⟩:=G.T.bmain;⟨bm,ob,b1,b2,b3,b4,b5,b6⟩) (BG G.T KX (ht _)) hobj hints (Cr hlen hn2) hr hF hb (fun H hT hS=>hsp w H a ns hlen hT hS) fun H e s'=>hCX w H s₁ e s'
end _L
namespace _D
open PySem PySem.Spec PyProof.Rows _L
variable {K:Ai}{mg:As→Am Ac}
theorem LZ {h:Bk}(X:K.In h)(G:h.Ns Cf mg){x:As}{st:El}{ps:Aa As}{f:Af}{oc:Ac}{od an:Am Af}{osl:Bl (Am Ac)}{kV doc pm cdv ct:Ac}
  (a:Dm K Cf x=Ab (Ab (.ref f)))
  (l:K.lookup f=Ab ⟨oc,od,.func (Gd x x (y7 st) (zH st) (qH st) .none kV doc pm an cdv ct),osl⟩) (c:Jg K cdv x=true) (k:Eu K (.ref f)=true)
  (hb:∀ (kV doc pm:Ac) (an:Am Af) (cdv ct:Ac) (us:Aa Ac),us.length=ps.length→Qj (Gd x x (y7 st) (zH st) (qH st) .none kV doc pm an cdv ct) ⟨us,[]⟩=pure (ps.zip us)):Src K mg x st ps:=
 have F:=MM (st:=st) l c k
 ⟨f,_,Tp X G a,F,F.binds hb⟩
def dZ (K:Ai)(C:Af):Ar:=
 decide (Kz K (.ref C) "__getattribute__" = Ab (Ab (.builtin "BaseException.__getattribute__")))&&decide (Kz K (.ref C) "__getattr__" = Ab none)
 && decide (Kz K (.ref C) "__class__" = Ab (Ab (.builtin "object.__class__")))&&decide (Su K C (.type "object")=Ab true)&&decide (Su K C (.type "BaseException")=Ab true)
 && (PySem.W.clsIn K C).isSome&&decide (Jf K (.ref C) (.type "ValueError")=Ab true)
def W5 (K:Ai):Ar:=
 decide (Uv K (.builtin "object.__class__") "__get__" = Ab (Ab (.builtin "getset_descriptor.__get__")))&&decide (Wu K (.builtin "object.__class__")=Ab true)
def FA (K:Ai)(cl:Aa Af):Ar:=cl.all fun C=>cl.all fun B=>decide (Jf K (.ref C) (.ref B)=Ab (C == B))
theorem FC {cl:Aa Af}(h1:cl.all (dZ K)=true)(h2:W5 K=true)(h3:FA K cl=true):ClsK K cl:=by
 have g:=h2;unfold W5 at g;simp only[AT,Ch] at g;have k1:∀ C∈cl,dZ K C=true:=Bq.mp h1;refine⟨fun C hC=>?_,fun C hC B hB=>?_,fun C hC=>?_⟩
 ·have e:=k1 C hC
  unfold dZ at e;simp only[AT,Ch] at e;obtain⟨⟨⟨⟨⟨⟨e1,e2⟩,e3⟩,e4⟩,e5⟩,e6⟩,e7⟩:=e;exact⟨e1,e2,e3,g.1,g.2,e4,e5,e6⟩
 ·have e:=Bq.mp (Bq.mp h3 C hC) B hB
  exact Bw e
 ·have e:=k1 C hC
  unfold dZ at e;simp only[AT,Ch] at e;exact e.2
def HL (K:Ai)(cs:Aa Ac)(A:Af):Ar:=cs.all fun v=>decide (Il K v (.ref A)=Ab true)
def HJ (K:Ai)(cs:Aa Af)(A:Af):Ar:=cs.all fun C=>bP K C A
def HK (K:Ai)(cs:Aa Af):Ar:=cs.all fun C=>Eu K (.ref C)
def dI (K:Ai):Sp:=fun vs H Q E=>Tb0 K H∧∃ a ns,vs=[.ref a]∧SqX K H a (List.map V.int ns)∧ns.length≤63∧∀ H',Q (.bl true) H'
theorem rM {P:Hp}{α:Aa Af}:∀ ns:Aa Al,qD K P α (ns.map D.int) (ns.map V.int)
 |[]=>.nil
 |n::ns=>.cons (by simp only[Rep]) (rM ns)
def noT (H:Hp):Hp:=fun b=>match H b with
 |some (.tbl _)=>none
 |u=>u
theorem GA {P:Be}{w:Bt}{fa:Af}{st:El}{k:Aj}{x:As}(hs:Src K mg "law" st [x])(hfa:mg "law" = Ab (.ref fa))
  (hbd:∀ (kV doc pm:Ac) (an:Am Af) (cdv ct:Ac) (s:Ag) (v:Ac),Lu s (Gd "law" "law" (y7 st) (zH st) (qH st) .none kV doc pm an cdv ct) ⟨[v],[]⟩ [(x,v)])
  (hall:∀ base:Bk,∃ F,dO P w K mg base true k "law" [x] F∧∀ ns:Aa Al,ns.length≤63→∃ S,F [.lst (ns.map D.int)] [] = .ok (.bl true) S) :
  ∃ fd:Fb,(∀ (s:Ag) (v:Ac),Lu s fd ⟨[v],[]⟩ [(x,v)])∧∀ base:Bk,K.In base→base.Ns Cf mg→FnOk P w K mg base (CXd P w) k fa fd [x] (dI K):=by
 obtain⟨f,fd,hm,F,hb⟩:=hs;cases hfa.symm.trans hm;refine⟨fd,?_,fun base _ _=>?_⟩
 ·obtain⟨oc,od,kV,doc,pm,an,cdv,ct,osl,rfl,_,_⟩:=F.ex
  exact hbd kV doc pm an cdv ct
 ·obtain⟨G,⟨f',fd',hm',_,hb',hl,X⟩,hG⟩:=hall base
  cases hm.symm.trans hm';cases hl.one (pO F);refine(X.imp fun vs H Q E h=>?_).ok;obtain⟨tb,a,ns,rfl,hS,hl,k⟩:=h;obtain⟨S,e⟩:=hG ns hl;have keep:∀ (b:Af) (u:HO),H b=Ab u→(∀ ps,u≠.tbl ps)→noT H b=Ab u:=fun b u q h=>by
   unfold noT;rw[q];cases u with
   |tbl ps=>exact absurd rfl (h ps)
   |_=>rfl
  have hS':SqX K (noT H) a (List.map V.int ns):=by
   rcases hS with (h|⟨o,h⟩)|h
   ·exact .inl (.inl (keep _ _ h fun _ z=>by cases z))
   ·exact .inl (.inr ⟨o,keep _ _ h fun _ z=>by cases z⟩)
   ·exact .inr h
  have sub:qE (noT H) H:=fun b u q=>by
   unfold noT at q;cases z:H b with
   |none=>rw[z] at q;cases q
   |some v =>
    rw[z] at q;cases v with
    |tbl ps=>cases q
    |_=>exact q
  refine⟨rfl,noT H,[],[.lst (ns.map D.int)],[],⟨fun x hx c T h=>⟨#[],tb x hx c T h,by unfold noT;rw[tb x hx c T h],by simp,trivial,fun pos cv z=>by cases z⟩,sub,rfl,.nil,by simp,by simp,by simp⟩,.cons (tZ hS' (rM ns)) .nil,?_⟩
  rw[e];intro v H' P' α' _ _ _ rv;simp only[Rep] at rv;subst rv;exact k H'
theorem EK {l:Xd}{q:Be}{loose:Aa As}{XP:(As→Am Ac)→Bk→Prop}{YP:Bt→Bk→Prop}{d:DefRec}{K:Params→Ai}{k:Aj}{x:As}(hn:l.most=Ab 63)(hdf:d.params.defaults=[])(hr:Room k O8)(ht:∀ p,i6 q (K p)=true)
  (hY:∀ (w:Bt) (h:Bk),YP w h→(K w.params).In h)
  (F:∀ (w:Bt) (mg:As→Am Ac) (fa:Af) (h:Bk),(K w.params).In h→h.Ns Cf mg→mg d.name=Ab (.ref fa) →
   ∃ fd:Fb,(∀ (s:Ag) (u:Ac),Lu s fd ⟨[u],[]⟩ [(x,u)])∧∀ base:Bk,(K w.params).In base→base.Ns Cf mg→FnOk l.prog w (K w.params) mg base (CXd l.prog w) k fa fd [x] (dI (K w.params))) :
  Yl q loose XP YP l.row.toRowW d [] (fun f vs=>Xn f vs):=
 _L.BM (n:=63) (k:=k) (x:=x) (CX:=fun w=>CXd l.prog w) (sp:=fun w=>dI (K w.params)) hn (by decide) hdf hr ht hY F (fun _ _ a ns hl hT hS=>⟨hT,a,ns,rfl,hS,hl,fun _=>rfl⟩) fun w H s e s' h=>by
  obtain⟨_,_,_,_,_,_,_,_,_,_,_,_,z⟩:=h;exact z
end _D
namespace _D
open PySem
variable {us:Aa Ac}
theorem us0 (h:us.length=0):us=[]:=Ms h
theorem usS {n:Aj}(h:us.length=n+1):∃ a vs,us=a::vs∧vs.length=n:=by
 cases us with
 |nil=>exact absurd h (by simp)
 |cons a vs=>exact⟨a,vs,rfl,by simpa using h⟩
theorem us1 (h:us.length=1):∃ a,us=[a]:=by
 obtain⟨a,vs,rfl,h'⟩:=usS h;exact⟨a,by rw[us0 h']⟩
theorem us2 (h:us.length=2):∃ a b,us=[a,b]:=by
 obtain⟨a,vs,rfl,h'⟩:=usS h;obtain⟨b,rfl⟩:=us1 h';exact⟨a,b,rfl⟩
theorem us3 (h:us.length=3):∃ a b c,us=[a,b,c]:=by
 obtain⟨a,vs,rfl,h'⟩:=usS h;obtain⟨b,c,rfl⟩:=us2 h';exact⟨a,b,c,rfl⟩
end _D
namespace _D
open PySem PySem.Spec PyProof.Rows _L
variable {vs:Aa (Key × V)}{us:Aa Ac}{caps:Aa D}{E:Ac→Ag→Prop}{c':Af}{j:Aj}{oc:Cg}{sc:Ei}{H':Hp}{env:qG}
theorem J8 (F:DF):∃ G:DF,G=F:=⟨F,rfl⟩
def sh (F:DF):DF:=Pi (J8 F)
theorem zU (F:DF):sh F=F:=L2 (J8 F)
def isV:Am Ha→Ar
 |some .local => true
 |some .cell=>true
 |some .free=>true
 |_=>false
def isL:Am Ha→Ar
 |some .local => true
 |some .cell=>true
 |_=>false
def isG:Am Ha→Ar
 |some .globalImplicit=>true
 |_=>false
def okN (x:As):Ar:=!(x == ("__debug__" : As))&&(!(x == ("__classdict__" : As))&&!decide (x = "__name__"))
def okG (X:Cx)(x:As):Ar:=isG (X.env.kindOf x)&&okN x
def okB (v:Ac)(x:As):Ar:=decide (Fl x=Ab v)
def jK (sc:Ei):Aa As:=sc.names.filterMap fun y=>if isL (Ab y.2) then Ab y.1 else none
def yH (sc:Ei):Aa As:=(sc.names.filterMap fun y=>if isL (Ab y.2)&&!(y.1 == (".0" : As)) then Ab y.1 else none)++sc.names.filterMap fun y=>if y.2 == .free then Ab y.1 else none
def Ck (b:Ar):Prop:=b=true
theorem ck {b:Ar}(h:b=true:=by kernel_rfl):Ck b:=h
structure DfS (F:DF)(P:Be)(w:Bt)(K:Ai)(mg:As→Am Ac)(base:Bk)(cm:Ar)(k:Aj)(x:As)(n:Aj):Prop where
 get:Def P w K mg base cm k x n F
def okT (X:Cx)(m:Aj)(x:As):Ar:=decide (X.N[m]? = Ab x)&&(isL (X.env.scope.names.lookup x)&&(decide X.N.Nodup&&(X.fn x||decide (X.env.scope.names.lookup x=Ab .local))))
def okP (X:Cx)(m:Aj)(x:As):Ar:=decide (X.N[m]? = Ab x)&&decide (X.env.scope.names.lookup x=Ab .local)
def lX (scX:Ei)(NX:Aa As)(scope:Ei)(cap:Aa (Am Aj)):Ar:=
 decide (scope.kind=.function)&&(decide (∀ y∈scope.names,y.2=.local → scope.names.lookup y.1=Ab .local)&&(decide (∀ y∈scope.names,y.2=.cell→scope.names.lookup y.1=Ab .cell)&&(decide (∀ y∈scope.names,y.2=.free→scX.names.lookup y.1=Ab .cell∨scX.names.lookup y.1=Ab .free)
 && (decide (∀ y∈scope.names,y.2=.free→scope.names.lookup y.1=Ab .free)&&(decide (cap.length=(yH scope).length)&&(((cap.zip (yH scope)).all fun p=>match p.1 with|none=>true|some i=>NX[i]? == Ab p.2&&scope.names.lookup p.2 == Ab .free)&&decide (yH scope).Nodup))))))
def fnB (N P:Aa As)(sc:Ei):Ar:=
 decide (sc.kind=.function)&&(decide (sc.isCoroutine=false)&&(decide (sc.isGenerator=false)&&(decide N.Nodup&&(decide (N.take P.length=P)&&(decide (∀ x∈P,sc.names.lookup x=Ab .local ∨ sc.names.lookup x=Ab .cell)&&decide (∀ y∈sc.names,y.2≠.free))))))
theorem sA {scX:Ei}{NX:Aa As}{scope:Ei}{cap:Aa (Am Aj)}(h:lX scX NX scope cap=true):CompSc scX NX scope (yH scope) cap:=by
 simp only[lX,AT,Ch] at h;obtain⟨a,b,c,d,e,f,g,k⟩:=h;exact⟨a,b,c,d,e,f,g,k⟩
theorem sN {N P:Aa As}(h:fnB N P sc=true):FnScope N P sc:=by
 simp only[fnB,AT,Ch] at h;obtain⟨a,b,c,d,e,f,g⟩:=h;exact⟨a,b,c,d,e,f,g⟩
section
variable {X:Cx}{a b c e o elt tg iter:Bp}{ifs rest:Aa Bp}{f g:DS}{fa:DE}{f2:DI2}{dg:DG}{t:DT}{kk:DK}{gens grest:Aa Fd}{scope:Ei}{cap:Aa (Am Aj)}{mm:Ar}{l q:Aj}{y z:As}{G2':G2}{es:Aa Bp}{fA:DA}{x:As}{p pos:Ek}{cm:Ar}{k n m:Aj}{F:DF}
theorem cE (h:isV (sc.names.lookup x)=true):Vis sc x:=by
 unfold Vis
 revert h
 cases sc.names.lookup x with
 |none=>intro h;cases h
 |some y=>cases y <;> intro h <;> first|cases h;done|exact .inl rfl|exact .inr (.inl rfl)|exact .inr (.inr rfl)
theorem KQ (h:isL (sc.names.lookup x)=true):_L.Loc sc x:=by
 unfold _L.Loc
 revert h
 cases sc.names.lookup x with
 |none=>intro h;cases h
 |some y=>cases y <;> intro h <;> first|cases h;done|exact .inl rfl|exact .inr rfl
theorem jV (h:okN x=true):(x == ("__debug__" : As))=false∧(x == ("__classdict__" : As))=false∧x ≠ "__name__":=by
 unfold okN at h;rw[AT,AT] at h;exact⟨by simpa using h.1,by simpa using h.2.1,by simpa using h.2.2⟩
theorem wG (h:okG X x=true):Gl X x∧(x == ("__debug__" : As))=false∧x ≠ "__name__":=by
 have h:=(AT _ _).mp h;refine⟨?_,(jV h.2).1,(jV h.2).2.2⟩;have z:=h.1;unfold Gl
 revert z
 cases X.env.kindOf x with
 |none=>intro z;cases z
 |some y=>cases y <;> intro z <;> first|cases z;done|rfl
theorem r9 (h:okT X m x=true):X.N[m]? = Ab x∧_L.Loc X.env.scope x∧X.N.Nodup∧(X.fn x=true∨X.env.scope.names.lookup x=Ab .local):=by
 simp only[okT,AT,Ch,Mp] at h;exact⟨h.1,KQ h.2.1,h.2.2⟩
theorem jW (h:okP X m x=true):X.N[m]? = Ab x∧X.env.scope.names.lookup x=Ab .local:=by
 simp only[okP,AT,Ch] at h;exact h
theorem UK (h:Ck (okG X x)):Gl X x:=(wG h).1
theorem aV (h:Ck (decide (X.N[m]? = Ab x)&&(isV (X.env.scope.names.lookup x)&&okN x))):QE X (.Name x pos) (qC m):=by
 unfold Ck at h;simp only[AT,Ch] at h;exact LB m h.1 (cE h.2.1) (jV h.2.2).1 (jV h.2.2).2.1
theorem aBt {nm:Ed}(h:Ck (okG X x))(hm:X.mg x=none)(hb:Ck (okB (.type nm) x)):QE X (.Name x pos) (dC (.ty nm)):=
 have h:=wG h
 PF h.1 hm (Bw hb) h.2.2 h.2.1
theorem aCl {C:Af}(h:Ck (okG X x))(hm:X.mg x=Ab (.ref C)∧Eu X.K (.ref C)=true):QE X (.Name x pos) (dC (.obj C)):=
 have h:=wG h
 L4 h.1 hm.1 hm.2 h.2.1
theorem aGi {v:Al}(h:Ck (okG X x))(hm:∃ t,X.mg x=Ab (.int v t)):QE X (.Name x pos) (dC (.int v)):=
 have h:=wG h
 PJ h.1 hm h.2.1
abbrev St1 (X:Cx)(e:Bp)(es:Aa Bp)(pos:Ek):Prop:=Bi (e::es) X.env=(false,eval e X.env)::Bi es X.env∧(Fq pos (Bi es X.env)).any (·.1)=false
theorem aN (G:DfS F X.prog X.w X.K X.mg X.base cm k x n)(hr:RoomC cm k X.A)(hF:Fn1 X)(h:Ck (okG X x))(ha:QA X (e::es) fA)(s:St1 X e es pos):QE X (.Call (.Name x p) (e::es) [] pos) (qO n F fA):=
 have h:=wG h
 qcN G.1 hr hF h.1 ha h.2.1 s.1 s.2
theorem aO (G:DfS F X.prog X.w X.K X.mg X.base cm k x n)(hr:RoomC cm k X.A)(h:Ck (okG X x))(ha:QA X (e::es) fA)(s:St1 X e es pos):QE X (.Call (.Name x p) (e::es) [] pos) (qO n (okO F) fA):=
 have h:=wG h
 qcO G.1 hr h.1 ha h.2.1 s.1 s.2
theorem aB {id:Ed}(hc:ZCall X (.builtin id) F)(h:Ck (okG X x))(hm:X.mg x=none)(hb:Ck (okB (.builtin id) x))(ha:QA X (e::es) fA)(s:St1 X e es pos):QE X (.Call (.Name x p) (e::es) [] pos) (qK F fA):=
 have h:=wG h
 V8 hc h.1 hm (Bw hb) ha h.2.2 h.2.1 s.1 s.2
theorem aT {T:Ed}(hc:ZCall X (.type T) F)(h:Ck (okG X x))(hm:X.mg x=none)(hb:Ck (okB (.type T) x))(ha:QA X (e::es) fA)(s:St1 X e es pos):QE X (.Call (.Name x p) (e::es) [] pos) (qK F fA):=
 have h:=wG h
 ZU hc h.1 hm (Bw hb) ha h.2.2 h.2.1 s.1 s.2
theorem aC (S:Ck (lX X.env.scope X.N scope cap))(hc:X.calm=true)(hi:QI2 X tg iter f2)(hg:∀ cl C ex s₀ H₀,QG (qY X (yH scope) scope cl C ex s₀ H₀) tg dg)(ht:∀ cl C ex s₀ H₀,QTs (qY X (yH scope) scope cl C ex s₀ H₀) ifs t)
  (has:∀ g',(⟨tg,iter,ifs,0⟩::grest:Aa Fd)[0+1]? = Ab g'→g'.is_async=0)
  (he:∀ cl C ex s₀ H₀,QK (qY X (yH scope) scope cl C ex s₀ H₀) (fun acc=>xC elt (⟨tg,iter,ifs,0⟩::grest) scope pos 0 acc (qY X (yH scope) scope cl C ex s₀ H₀).env) kk) (hs:∀ x,Fh iter X.env x=pure x) :
  QE X (.ListComp elt (⟨tg,iter,ifs,0⟩::grest) scope pos) (zE mm cap f2 dg t kk):=VA hc (sA S) hi hg ht has he hs
theorem aCs {py spos:Ek}(hsw:Lf (.ListComp elt (⟨tg,iter,ifs,0⟩::grest) scope pos) (Ab (.Name y py)) spos.line X.env=pure true)(S:Ck (lX X.env.scope X.N scope cap))(hN:Ck (okT X m y))(hc:X.calm=true)(hi:QI2 X tg iter f2)(hg:∀ cl C ex s₀ H₀,QG (qY X (yH scope) scope cl C ex s₀ H₀) tg dg)(ht:∀ cl C ex s₀ H₀,QTs (qY X (yH scope) scope cl C ex s₀ H₀) ifs t)
  (has:∀ g',(⟨tg,iter,ifs,0⟩::grest:Aa Fd)[0+1]? = Ab g'→g'.is_async=0)
  (he:∀ cl C ex s₀ H₀,QK (qY X (yH scope) scope cl C ex s₀ H₀) (fun acc=>xC elt (⟨tg,iter,ifs,0⟩::grest) scope pos 0 acc (qY X (yH scope) scope cl C ex s₀ H₀).env) kk) (hs:∀ x,Fh iter X.env x=pure x) :
  QS X (.Assign [.Name y py] (.ListComp elt (⟨tg,iter,ifs,0⟩::grest) scope pos) spos) (qS (zE mm cap f2 dg t kk) (gNm m)):=
 have h:=r9 hN
 VE hc h.2.2.1 (sA S) hi hg ht has he h.1 h.2.1 h.2.2.2 hsw hs
theorem aNm (h:Ck (okT X m x)):QG X (.Name x pos) (gNm m):=
 have h:=r9 h
 PN h.2.2.1 h.1 h.2.1 h.2.2.2
theorem aSt {pos':Ek}(hs:Lf e (Ab (.Name x pos')) pos.line X.env=pure false)(he:QE X e fa)(h:Ck (okT X m x)):QS X (.Assign [.Name x pos'] e pos) (qS fa (gNm m)):=
 have h:=r9 h
 LK h.2.2.1 he h.1 h.2.1 hs h.2.2.2
theorem aP2 {px py pt:Ek} {kt k2 pt2} (h:Ck (decide X.N.Nodup&&(okP X m x&&(okP X l y&&!decide (m=l))))) (hc:X.calm=true) (ha:QA X [a,b] fA)
  (hw:Js [.Tuple [.Name x px,.Name y py] kt pt] (.Tuple [a,b] k2 pt2) X.env=pure (Ab [x,y])) (hs:Jt [.Tuple [.Name x px,.Name y py] kt pt] (.Tuple [a,b] k2 pt2) pos.line X.env=pure false) :
  QS X (.Assign [.Tuple [.Name x px,.Name y py] kt pt] (.Tuple [a,b] k2 pt2) pos) (uU m l fA):=by
 unfold Ck at h;simp only[AT,Ch,Vd,Pv] at h;exact LJ hc h.1 ha (jW h.2.1).1 (jW h.2.2.1).1 h.2.2.2 (jW h.2.1).2 (jW h.2.2.1).2 hw hs
theorem aRs {C:Af}{np cpos:Ek}(h:Ck (okG X x))(hc:X.calm=true)(hF:Fn1 X)(hm:∃ Ae,X.mg x=Ab (.ref C)∧bP X.K C Ae=true)(ha:QA X (e::rest) fA)(s:St1 X e rest cpos) :
  QS X (.Raise (Ab (.Call (.Name x np) (e::rest) [] cpos)) none pos) (jY (.ref C) fA):=
 have h:=wG h
 let ⟨_,hm,hx⟩:=hm
 VF hc hF h.1 hm hx ha h.2.1 s.1 s.2
theorem aTr {nm:As}{body:Aa El}{b₀:El}{suite:Aa El}{np hpos:Ek}{cs:Aa Ac}(h:Ck (okG X x&&(okP X m nm&&(decide X.N.Nodup&&decide (X.N.length=n)))))(hF:Fn1 X)(hm:∃ C0,X.mg x=Ab (.ref C0)∧∀ c∈cs,Il X.K c (.ref C0)=Ab true)(hb:∀ E pn,ZPass (Cx.tryIn X E pn)→QB (Cx.tryIn X E pn) body f)(hs:∀ e,QB (Cx.suite X e) (b₀::suite) g) :
  QS X (.Try body [.ExceptHandler (Ab (.Name x np)) (Ab nm) (b₀::suite) hpos] [] [] pos) (fE n m cs f g):=by
 unfold Ck at h;simp only[AT,Ch] at h;obtain⟨C0,hm,hcs⟩:=hm;exact LN hF hb hs (wG h.1).1 hm hcs h.2.2.1 (jW h.2.1).1 (jW h.2.1).2 (wG h.1).2.1 h.2.2.2
end
structure TxS (K:Ai)(mg:As→Am Ac)(tp:Aj→El)(tab:Aa (As × Aj × Aa As))(bl:Aa As)(clt plt:Aa (As × Af))(cs:Aa Ac)(exl:Aa Af)(cst:Aa (As × Al)):Prop where
 src:∀ (j:Aj) {x:As} {i:Aj} {ps:Aa As},tab[j]? = Ab (x,i,ps)→Src K mg x (tp i) ps
 nb:∀ {x:As},Ck (bl.contains x)→mg x=none
 cl:∀ {x:As} {C:Af},clt.lookup x=Ab C→mg x=Ab (.ref C)∧Eu K (.ref C)=true
 rz:∀ {x:As} {C:Af},plt.lookup x=Ab C→∃ Ae,mg x=Ab (.ref C)∧bP K C Ae=true
 ct:∃ C0,mg "FarError" = Ab (.ref C0)∧∀ c∈cs,Il K c (.ref C0)=Ab true
 cls:ClsK K exl
 gi:∀ {x:As} {v:Al},cst.lookup x=Ab v→∃ t,mg x=Ab (.int v t)
section
variable {K:Ai}{mg:As→Am Ac}{cm:Ar}{tp:Aj→El}{tab:Aa (As × Aj × Aa As)}{bl:Aa As}{clt plt:Aa (As × Af)}{cs:Aa Ac}{exl:Aa Af}{cst:Aa (As × Al)}{x:As}{i m:Aj}{ps:Aa As}{F:DF}{g:DS}
theorem dq (P:Be)(w:Bt)(base:Bk)(k j:Aj)(T:TxS K mg tp tab bl clt plt cs exl cst)(hj:tab[j]? = Ab (x,i,ps))(h:Ck (fnB (jK (qH (tp i))) ps (qH (tp i))&&decide ((jK (qH (tp i))).length=m)))(hF:F=qT m g)
  (hb:∀ (f:Af) (cdv:Ac) (A:Bu) (outer:Aa Ht) (s:Ag) (H:Hp) (E:XK),kE K x cdv→RoomC cm k (A.deeper (Fv x (qH (tp i)) s.heap.objs.size f cdv)) →
   QB (cxC cm P w K mg base (jK (qH (tp i))) x (qH (tp i)) f cdv A outer s H E) (zH (tp i)) g):DfS F P w K mg base cm (k+1) x ps.length:=by
 unfold Ck at h;simp only[AT,Ch] at h;obtain⟨h,rfl⟩:=h;exact⟨hF▸HP (T.src j hj) (sN h) rfl hb⟩
theorem dqP {P:Be}{w:Bt}{base:Bk}(k j:Aj)(T:TxS K mg tp tab bl clt plt cs exl cst)(hj:tab[j]? = Ab (x,i,ps))(h:Ck (fnB (jK (qH (tp i))) ps (qH (tp i))&&decide ((jK (qH (tp i))).length=m)))
  (hb:∀ (f:Af) (cdv:Ac) (A:Bu) (outer:Aa Ht) (s:Ag) (H:Hp) (E:XK),kE K x cdv→RoomC cm k (A.deeper (Fv x (qH (tp i)) s.heap.objs.size f cdv)) →
   QB (cxC cm P w K mg base (jK (qH (tp i))) x (qH (tp i)) f cdv A outer s H E) (zH (tp i)) g):dO P w K mg base cm (k+1) x ps (qT m g):=by
 unfold Ck at h;simp only[AT,Ch] at h;obtain⟨h,rfl⟩:=h;exact SI (T.src j hj) (sN h) rfl hb
end
theorem hv {a b:Prop}(f:a→b)(h:a):b:=f h
inductive SrcF (K:Ai)(x:As)(st:El)(ps:Aa As):Prop
 |mk {f:Af} {oc:Ac} {od an:Am Af} {osl:Bl (Am Ac)} {kV doc pm cdv ct:Ac} (a:Dm K Cf x=Ab (Ab (.ref f)))
  (l:K.lookup f=Ab ⟨oc,od,.func (Gd x x (y7 st) (zH st) (qH st) .none kV doc pm an cdv ct),osl⟩) (c:Jg K cdv x=true) (k:Eu K (.ref f)=true):SrcF K x st ps
def aQ (K:Ai)(tp:Aj→El):Aa (As × Aj × Aa As)→Prop
 |[]=>Je
 |(x,i,ps)::t=>SrcF K x (tp i) ps∧aQ K tp t
def BdF (tp:Aj→El):Aa (As × Aj × Aa As)→Prop
 |[]=>Je
 |(x,i,ps)::t=>(∀ (kV doc pm:Ac) (an:Am Af) (cdv ct:Ac) (us:Aa Ac),us.length=ps.length→Qj (Gd x x (y7 (tp i)) (zH (tp i)) (qH (tp i)) .none kV doc pm an cdv ct) ⟨us,[]⟩=pure (ps.zip us))∧BdF tp t
def aL (K:Ai):Aa (As × Af)→Prop
 |[]=>Je
 |(x,C)::t=>Dm K Cf x=Ab (Ab (.ref C))∧aL K t
def aM (K:Ai):Aa (As × Al)→Prop
 |[]=>Je
 |(x,v)::t=>(∃ k,Dm K Cf x=Ab (Ab (.int v k)))∧aM K t
def HW:Am (Am Ac)→Ar
 |some none=>true
 |_=>false
section
variable {K:Ai}{h:Bk}{mg:As→Am Ac}{tp:Aj→El}
theorem aE (X:K.In h)(G:h.Ns Cf mg):∀ (tab:Aa (As × Aj × Aa As)),aQ K tp tab→BdF tp tab→∀ (j:Aj) {x:As} {i:Aj} {ps:Aa As},tab[j]? = Ab (x,i,ps)→Src K mg x (tp i) ps
 |[],_,_,_,_,_,_,e=>by cases e
 |(x,i,ps)::t,H,B,0,_,_,_,e=>by
  cases e;obtain⟨a,l,c,k⟩:=H.1;exact LZ X G a l c k B.1
 |(x,i,ps)::t,H,B,j+1,_,_,_,e=>aE X G t H.2 B.2 j e
theorem wY {β:Type}{p:As→β→Prop}{x:As}{C:β}:∀ {l:Aa (As × β)},(∀ y∈l,p y.1 y.2)→l.lookup x=Ab C→p x C
 |[],_,e=>by cases e
 |(y,b)::t,H,e=>by
  rw[Ir] at e;cases q:x == y with
  |true =>
   rw[q] at e;cases e;rw[eq_of_beq q];exact H (y,_) (.head _)
  |false =>
   rw[q] at e;exact wY (fun z hz=>H z (.tail _ hz)) e
theorem pE (X:K.In h)(G:h.Ns Cf mg):∀ {l:Aa (As × Af)},aL K l→∀ y∈l,mg y.1=Ab (.ref y.2)
 |(x,C)::t,H,y,hy=>by
  rcases Ay.mp hy with rfl|hy
  ·exact Tp X G H.1
  ·exact pE X G H.2 y hy
theorem eX (X:K.In h)(G:h.Ns Cf mg):∀ {l:Aa (As × Al)},aM K l→∀ y∈l,∃ k,mg y.1=Ab (.int y.2 k)
 |(x,C)::t,H,y,hy=>by
  rcases Ay.mp hy with rfl|hy
  ·obtain⟨k,e⟩:=H.1
   exact⟨k,Tp X G e⟩
  ·exact eX X G H.2 y hy
theorem EH {tab:Aa (As × Aj × Aa As)}{bl:Aa As}{clt plt:Aa (As × Af)}{cs:Aa Ac}{exl:Aa Af}{cst:Aa (As × Al)}{far:Af}(B:BdF tp tab)(hp:∀ y∈plt,y∈clt)(hf:clt.lookup ("FarError" : As)=Ab far)(X:K.In h)(G:h.Ns Cf mg)
  (s:aQ K tp tab) (z:(bl.all fun x=>HW (Dm K Cf x))=true) (q:aL K clt) (g:aM K cst) (e1:exl.all (dZ K)=true) (e2:W5 K=true) (e3:FA K exl=true) (e4:HL K cs far=true) (e5:HJ K (plt.map (·.2)) far=true) (e6:HK K (clt.map (·.2))=true):TxS K mg tp tab bl clt plt cs exl cst where
 src:=aE X G tab s B
 nb:=fun {x} hx=>by
  have e:=Bq.mp z x (by simpa using Fj.mp hx)
  refine PySem.W.mg_none_of X G ?_
  revert e
  cases Dm K Cf x with
  |none=>intro e;cases e
  |some y=>cases y with
   |none=>intro _;rfl
   |some y=>intro e;cases e
 cl:=fun h=>⟨wY (p:=fun x C=>mg x=Ab (.ref C)) (pE X G q) h,wY (p:=fun _ C=>Eu K (.ref C)=true) (fun y hy=>Bq.mp e6 y.2 (Tq hy)) h⟩
 rz:=fun h=>⟨far,wY (p:=fun x C=>mg x=Ab (.ref C)) (fun y hy=>pE X G q y (hp y hy)) h,wY (p:=fun _ C=>bP K C far=true) (fun y hy=>Bq.mp e5 y.2 (Tq hy)) h⟩
 ct:=⟨far,wY (p:=fun x C=>mg x=Ab (.ref C)) (pE X G q) hf,fun v hv=>Bw (Bq.mp e4 v hv)⟩
 cls:=FC e1 e2 e3
 gi:=fun h=>wY (p:=fun x v=>∃ k,mg x=Ab (.int v k)) (eX X G g) h
end
structure LamT where
 qual:As
 params:Mm
 body:Bp
 scope:Ei
def xQ (sc:Ei):Aa As:=sc.names.filterMap fun y=>if y.2 == .free then Ab y.1 else none
inductive CloAt (h:Bk)(H:Hp)(fs:Aa Af)(L:LamT)(a:Af)(cv:Aa V):Prop
 |mk (cl:Aa (As × Af)) (pm ctv:Ac) (c:Af) (oc:Cg) (ws:Bl Ac) (t:OQ) (o:h.get? a=Ab (Kk "<lambda>" L.qual L.params L.body L.scope cl pm c ctv)) (hc:H c=Ab (.frz oc (.frz oc (.own 0)))) (hd:oc.data=.fields ws) (ht:ws[1]? = Ab (.str L.qual t))
  (inj:∀ x y d,cl.lookup x=Ab d→cl.lookup y=Ab d→x=y) (cel:∀ x d,cl.lookup x=Ab d→H d=none∧∃ v,h.IsCell d v) (has:∀ x,L.scope.names.lookup x=Ab .free→∃ d,cl.lookup x=Ab d)
  (len:cv.length=(xQ L.scope).length) (val:∀ (j:Aj) x v,(xQ L.scope)[j]? = Ab x→cv[j]? = Ab v→∃ d u,cl.lookup x=Ab d∧qL v u∧h.IsCell d (Ab u)) (hn:H a=none) (hf:a ∉ fs):CloAt h H fs L a cv
theorem CloAt.at {X:Cx}{pins:Aa (Af × Cg)}{σ:_L.St}{H:Hp}{s:Ag}{L:LamT}{a:Af}{cv:Aa V}(C:CloAt X.s₀.heap X.H₀ X.fs L a cv)(F:Fn1 X)(I:Inv X pins σ H s):CloAt s.heap H (frs X.stack) L a cv:=by
 obtain⟨cl,pm,ctv,c,oc,ws,t,o,hc,hd,ht,inj,cel,has,len,val,hn,hf⟩:=C;have nx:∀ b,b ∉ X.ex:=fun b=>by rw[F.1];simp
 have nf:∀ b o,X.s₀.heap.get? b=Ab o→b ∉ X.fs→b ∉ frs X.stack:=fun b o e n z=>(F.mem.mp z).elim (Cd (Bf (Ax e) I.ok.above)) n;have kc:∀ d v,X.H₀ d=none→X.s₀.heap.IsCell d v→s.heap.IsCell d v:=fun d v h1 ⟨o,e,q⟩=>let ⟨_,z⟩:=I.base.any e h1 (nx d);⟨_,z,q⟩
 refine⟨cl,pm,ctv,c,oc,ws,t,I.base.keep a _ o hn hf (nx a),I.base.frzs _ _ _ hc,hd,ht,inj,fun x d e=>?_,has,len,fun j x v e1 e2=>?_,I.base.free a _ o hn (nx a),nf a _ o hf⟩
 ·obtain⟨h1,v,h3⟩:=cel x d e
  obtain⟨ob,e3,q⟩:=id h3;exact⟨I.base.free d ob e3 h1 (nx d),v,kc d v h1 h3⟩
 ·obtain⟨d,u,q1,q2,q3⟩:=val j x v e1 e2
  exact⟨d,u,q1,q2,kc d _ (cel x d q1).1 q3⟩
def YF (cm:Ar)(P:Be)(w:Bt)(K:Ai)(mg:As→Am Ac)(base:Bk)(N:Aa As)(L:LamT)(cl:Aa (As × Af))(f:Af)(cd:Ac)(A:Bu)(outer:Aa Ht)(s:Ag)(H:Hp)(E:XK):Cx where
 prog:=P
 w:=w
 K:=K
 mg:=mg
 base:=base
 A:=A.deeper (Jm L.qual L.scope s.heap.objs.size f cd cl)
 N:=N
 s₀:=s
 H₀:=H
 env:=Jm L.qual L.scope s.heap.objs.size f cd cl
 outer:=outer
 stack:=Jm L.qual L.scope s.heap.objs.size f cd cl::outer
 ex:=[]
 calm:=cm
 fn:=fun _=>false
 pn:=[]
 xe:=xeL P w A (Jm L.qual L.scope s.heap.objs.size f cd cl) outer H s E
structure LamSc (L:LamT)(ps:Aa As):Prop where
 kind:L.scope.kind=.function
 co:L.scope.isCoroutine=false
 gen:L.scope.isGenerator=false
 nocell:∀ y∈L.scope.names,y.2≠.cell
 par:∀ x∈ps,L.scope.names.lookup x=Ab .local
 one:ps.length≤1
 fr:∀ x∈xQ L.scope,L.scope.names.lookup x=Ab .free
def mU (P:Be)(w:Bt)(K:Ai)(mg:As→Am Ac)(base:Bk)(cm:Ar)(k:Aj)(L:LamT)(n:Aj)(G:Aa D→DF):Prop:=
 ∀ (A:Bu) (outer:Aa Ht) (s:Ag) (H:Hp) (us:Aa Ac) (ws cv:Aa V) (a:Af) (P':Hp) (α : Aa Af) (S:Sto) (caps ds:Aa D) (Q:VK) (E:XK),RoomC cm k A→Env0 P w K mg base A outer s H→CloAt s.heap H (frs outer) L a cv→Rel K H P' α S →
  qD K P' α caps cv→qD K P' α ds ws→qJ ws us→ds.length=n→spR K P' α (G caps ds S) Q E→Ic (Au P w) A (.call (.ref a) ⟨us,[]⟩) (CR (CXd P w) outer P w H s Q E) s
section
variable {P:Be}{w:Bt}{K:Ai}{mg:As→Am Ac}{base:Bk}{cm:Ar}{L:LamT}{ps:Aa As}
theorem KO {cl:Aa (As × Af)}{f:Af}{cd:Ac}{A:Bu}{outer:Aa Ht}{s:Ag}{H:Hp}{E:XK}{ws cv:Aa V}{h':Bk}{tk:Aj}(S:LamSc L ps)(hd:cm=true→A.handled=none)(e0:Env0 P w K mg base A outer s H)
  (inj:∀ x y d,cl.lookup x=Ab d→cl.lookup y=Ab d→x=y) (cel:∀ x d,cl.lookup x=Ab d→H d=none∧∃ v,s.heap.IsCell d v) (has:∀ x,L.scope.names.lookup x=Ab .free→∃ d,cl.lookup x=Ab d)
  (len:cv.length=(xQ L.scope).length) (val:∀ (j:Aj) x v,(xQ L.scope)[j]? = Ab x→cv[j]? = Ab v→∃ d u,cl.lookup x=Ab d∧qL v u∧s.heap.IsCell d (Ab u)) (hl:ws.length=ps.length) (r:qJ ws us)
  (hns:h'.Ns s.heap.objs.size fun y=>(ps.zip us).reverse.lookup y) (hk:∀ b o,s.heap.get? b=Ab o→h'.get? b=Ab o) :
  Inv (YF cm P w K mg base (ps++xQ L.scope) L cl f cd A outer s H E) [] ((ws++cv).map Ab) H { s with heap:=h',toks:=tk }:=by
 have kc:∀ d v,s.heap.IsCell d v→h'.IsCell d v:=fun d v ⟨o,e,q⟩=>⟨o,hk d o e,q⟩;have no:∀ b:Af,b ∉ ([]:Aa Af):=fun b=>by simp
 refine⟨⟨e0.mod,S.kind,rfl,rfl,Az _,inj,fun y hy=>?_,(fun y c z=>nomatch z),hd,Mh e0.frames,.inr ⟨rfl,rfl⟩,fun b z=>absurd z (no b),e0.bs,e0.bsz,fun b _ _=>no b,fun b z=>absurd z (no b),e0.funs,e0.frf⟩,
  rfl,e0.bare,Un.kept hk,⟨_,hns,fun i y v h1 h2 h3=>?_⟩,fun y c h=>?_,e0.hok.fresh (Az _),fun y c h=>(cel y c h).1,fun p hp=>absurd (show p∈([]:Aa (Af × Cg)) from hp) (by simp),e0.hok.kept hk,?_⟩
 ·rcases hy with hy|hy
  ·exact absurd rfl (S.nocell _ (Ey hy))
  ·exact has y hy
 ·have h1:(ps++xQ L.scope)[i]? = Ab y:=h1
  rw[Dg] at h2;obtain⟨v',h2,e⟩:=Cs.mp h2;cases e;by_cases hi:i<ps.length
  ·rw[Bg hi] at h1
   rw[Bg (by rw[hl];exact hi)] at h2
   obtain⟨u,hu,rv⟩:=r.get h2;refine⟨u,rv,.inl ⟨S.par y (Bm h1),?_⟩⟩;have one:=S.one;cases ps with
   |nil=>cases h1
   |cons p t =>
    cases t with
    |cons _ _=>simp at one
    |nil =>
     have i0:i=0:=by simpa using hi
     subst i0;cases us with
     |nil=>cases hu
     |cons u' us =>
      cases h1;cases hu;simp
  ·rw[Df (Pd hi)] at h1
   rw[Df (by rw[hl];exact Pd hi),hl] at h2
   obtain⟨d,u,q1,q2,q3⟩:=val _ y v h1 h2;exact⟨u,q2,.inr ⟨.inr (S.fr y (Bm h1)),d,q1,kc d _ q3⟩⟩
 ·obtain⟨_,v,q⟩:=cel y c h
  exact⟨v,kc c v q⟩
 ·show _=(ps++xQ L.scope).length
  simp[hl,len]
theorem TB {k:Aj}{fe:DE}(S:LamSc L ps)(hb:∀ (cl:Aa (As × Af)) (pm cdv ctv:Ac) (us:Aa Ac),us.length=ps.length→Qj (Xv "<lambda>" L.qual L.params L.body L.scope cl pm cdv ctv) ⟨us,[]⟩=pure (ps.zip us))
  (hbody:∀ (cl:Aa (As × Af)) (f:Af) (cd:Ac) (A:Bu) (outer:Aa Ht) (s:Ag) (H:Hp) (E:XK),RoomC cm k (A.deeper (Jm L.qual L.scope s.heap.objs.size f cd cl)) →
   QE (YF cm P w K mg base (ps++xQ L.scope) L cl f cd A outer s H E) L.body fe):mU P w K mg base cm (k+1) L ps.length fun caps ds S=>fe ((ds++caps).map Ab) S:=by
 intro A outer s H us ws cv a P' α St caps ds Q E hr e0 C r rc rd rv hn af;obtain⟨cl,pm,ctv,c,oc,vs,t,o,hc,hd,ht,inj,cel,has,len,val,hna,hf⟩:=C;have af:spR K P' α (fe ((ds++caps).map Ab) St) Q E:=af;have lim:s.heap.NoLimit:=e0.mod.nolimit.keeps fun b o e=>(e0.bs b o e).1;have hul:us.length=ps.length:=by rw[← rv.length,← rd.length];exact hn
 have hloc:∀ y∈ps.zip us,L.scope.names.lookup y.1=Ab .local:=fun y hy=>S.par _ (Kb hy).1;refine PySem.W.kla_callFunE hr.depth o rfl S.co S.gen rfl ⟨c,oc,vs,t,rfl,(e0.hok c _ hc).1,hd,ht⟩ ?_;rw[hb cl pm (.ref c) ctv us hul];refine Ak (wpAny_newFunctionEnv S.nocell hloc (fun h₁ hns hsb=>?_) S.kind);have hk₁:∀ b o,s.heap.get? b=Ab o→h₁.get? b=Ab o:=fun b o e=>hsb.extBut b o (Cd (Ax e)) (Ah _ e);refine⟨lim.keeps hk₁,?_⟩;show Ic _ _ (.expr L.body (Jm L.qual L.scope s.heap.objs.size a (.ref c) cl)) _ _;have I:=KO (cm:=cm) (f:=a) (cd:=.ref c) (E:=E) (tk:=s.toks+(ps.zip us).length) S hr.hd e0 inj cel has len val (by rw[← rd.length];exact hn) rv hns hk₁
 have re:qZ K P' α ((ws++cv).map Ab) ((ds++caps).map Ab):=by
  have z:=rd.append rc;refine⟨by simp[z.length,rd.length,rc.length],fun i d e=>?_⟩
  rw[Dg] at e;obtain⟨d',e1,e2⟩:=Cs.mp e;cases e2;obtain⟨v,h1,h2⟩:=z.get e1;exact⟨v,by rw[Dg,h1];rfl,h2⟩
 refine PySem.W.kla_codeExpr (Gj ((hbody cl a (.ref c) A outer s H E (hr.deeper _)).1 [] _ _ H Q I ⟨P',α,_,St,r,re,?_⟩) (fun u s' q=>?_) fun _ _ y=>y)
 ·cases z:fe ((ds++caps).map Ab) St with
  |ok d S'=>rw[z] at af;exact af
  |ex e x S'=>rw[z] at af;exact fun u s' q=>sD (A:=A) rfl q fun H' P1 α1 r1 e1 e2=>af H' P1 α1 r1 e1 e2
  |bad=>rw[z] at af;exact An af
 ·obtain⟨v,H',I',rv',q⟩:=q
  exact⟨v,H',I'.os,I'.bare,I'.base,I'.hok,rv',q⟩
end
open Classical in
def kJ (i:Aj)(fa:DA)(a:Af)(cv:Aa V)(n:Aj)(G:Aa D→DF):DE:=fun env S=>match env[i]? with
 |some (Ab (.clo b vs caps))=>if b=a∧vs=cv then (fa env S).bind fun ds S1=>if ds.length=n then G caps ds S1 else .bad else .bad
 |_=>.bad
section
variable {X:Cx}{cm:Ar}{k n i:Aj}{x:As}{p pos:Ek}{e:Bp}{es:Aa Bp}{fa:DA}{L:LamT}{G:Aa D→DF}{a:Af}{cv:Aa V}
set_option tactic.hygienic true in
theorem JN {S:Sto}{P:Hp}{α:Aa Af}{Ok:D→Sto→Prop}(h:qI X P α (kJ i fa a cv n G env S) Ok):∃ caps,env[i]? = Ab (Ab (.clo a cv caps))∧qI X P α ((fa env S).bind fun ds S1=>if ds.length=n then G caps ds S1 else .bad) Ok:=by
 unfold kJ at h
 split at h
 ·rename_i b vs caps e
  obtain⟨⟨rfl,rfl⟩,h1⟩:=xS h;exact⟨caps,e,h1⟩
 ·exact An h
theorem HR {h:Bk}{H:Hp}{fs:Aa Af}(C:CloAt h H fs L a cv):PySem.W.FnAt a h:=by
 obtain⟨cl,pm,ctv,c,oc,ws,t,o,_⟩:=C;exact⟨_,_,_,_,o⟩
theorem JO {pins:Aa (Af × Cg)}{σ:_L.St}{H P:Hp}{α:Aa Af}{s:Ag}{Q:VK}{ws:Aa V}{ds:Aa D}{S:Sto}(LX:mU X.prog X.w X.K X.mg X.base cm k L n G)(hr:RoomC cm k X.A)(F:Fn1 X)(C:CloAt X.s₀.heap X.H₀ X.fs L a cv)
  (I:Inv X pins σ H s) (r:Rel X.K H P α S) (rc:qD X.K P α caps cv) (rp:qD X.K P α ds ws) (rv:qJ ws us) (af:qV X P α (if ds.length=n then G caps ds S else .bad) Q):Ao (Au X.prog X.w) X.A (call (.ref a) us) (EP X pins σ Q) X.xe s:=by
 obtain⟨hn,af⟩:=xS af;exact bN (fun _=>F) I af (LX X.A X.stack s H us ws cv a P α S caps ds Q _ hr I.env0 (C.at F I) r rc rp rv hn (rT af))
theorem TF {pins:Aa (Af × Cg)}{σ:_L.St}{H P:Hp}{α:Aa Af}{s:Ag}{Q:Ac→Ag→Prop}(hN:X.N[i]? = Ab x)(hv:Vis X.env.scope x)(hd:(x == ("__debug__" : As))=false)(hcd:(x == ("__classdict__" : As))=false)
  (I:Inv X pins σ H s) (re:qZ X.K P α σ env) (he:env[i]? = Ab (Ab (.clo a cv caps))) (h:∀ s1,Inv X pins σ H s1→qD X.K P α caps cv→Q (.ref a) s1):Ao (Au X.prog X.w) X.A (eval (.Name x p) X.env) Q X.xe s:=by
 obtain⟨v,e1,rp⟩:=re.2 i _ he;simp only[Rep] at rp;obtain⟨rfl,rc⟩:=rp;refine thn (ZM hN hv hd hcd pins s σ H (fun v H'=>v=.ref a∧H'=H) I ⟨_,e1,rfl,rfl⟩) fun u s1 ⟨v,H1,I1,rv,z1,z2⟩=>?_;subst z1;subst z2;cases (show u=Cb a from rv)
 exact h s1 I1 rc
theorem JV (LX:mU X.prog X.w X.K X.mg X.base cm k L n G)(hr:RoomC cm k X.A)(F:Fn1 X)(C:CloAt X.s₀.heap X.H₀ X.fs L a cv)(hN:X.N[i]? = Ab x)(hv:Vis X.env.scope x)(hd:(x == ("__debug__" : As))=false)(hcd:(x == ("__classdict__" : As))=false) :
  PE X (.Call (.Name x p) [] [] pos) (tD X (kJ i qB a cv n G)):=by
 intro pins s σ H Q I h;obtain⟨P,α,env,S,r,re,af⟩:=h;obtain⟨caps,e1,af⟩:=JN af;refine Hb (TF hN hv hd hcd I re e1 fun s1 I1 rc=>?_);exact PySem.W.callWith_F0 (HR (C.at F I1)) (JO (us:=[]) LX hr F C I1 r rc .nil .nil af)
end
theorem eQ {i:Aj}{c:Ac}(l:Aa Ac)(h:Jw l):Jw (l++[Ft i,Ft j,c]):=by
 fun_induction Jw l with
 |case1=>simp[Jw,Ft]
 |case2 _ _ _ _ _ rest ih=>simp only[Gy,Jw];exact ih h
 |case3=>exact An h
set_option tactic.hygienic true in
theorem oB {pos:Ek}{i:Aj}{c v:Ac}(l:Aa Ac)(h:Jw l)(e:Mn pos (l++[Ft i,Ft j,c])=Ab v):Mn pos l=Ab v∨v=c:=by
 fun_induction Jw l with
 |case1 =>
  simp only[Hi,Mn,Ft] at e
  split at e
  ·exact .inr (Cm e).symm
  ·cases e
 |case2 _ _ _ _ _ rest ih =>
  simp only[Gy,Mn] at e ⊢
  split at e
  ·rename_i hc;rw[Bh hc];exact .inl e
  ·rename_i hc;rw[Bn hc];exact ih h e
 |case3=>exact An h
theorem MOk.at {K:Ai}{H P:Hp}{α:Aa Af}{a:Af}(e:H' a=H a):∀ {o:MO},MOk K H P α a o→MOk K H' P α a o
 |.dead,_=>trivial
 |.lst _,⟨vs,q,r⟩=>⟨vs,e.trans q,r⟩
 |.dct _,⟨vs,q,r⟩=>⟨vs,e.trans q,r⟩
 |.ins _ _,⟨dx,vs,q,r⟩=>⟨dx,vs,e.trans q,r⟩
section
variable {X:Cx}{pins:Aa (Af × Cg)}{σ : _L.St}{H P:Hp}{α : Aa Af}{s:Ag}{S:Sto}{y:As}{c T:Af}
theorem Rel.grown {ps:Bl Ac}{ws:Bl Ac}{t:OQ}{i:Aj}(r:Rel X.K H P α S)(m:Mod X.K X.mg X.base)(hy:y∈w9)(ht:Dk X.K y=Ab (c,T))(e:H T=Ab (.tbl ps))(pn:P T=none)(an:T ∉ α)(ok:Jw ps.toList)
  (cd:∀ pos cv,Mn pos ps.toList=Ab cv→∃ c oc vs t,cv=.ref c∧H c=Ab (.frz oc (.frz oc (.own 0)))∧oc.data=.fields vs∧vs[1]? = Ab (.str (y ++ ".<locals>." ++ "<lambda>") t)) (hn:H c'=none) (hd:oc.data=.fields ws) (hs:ws[1]? = Ab (.str (y ++ ".<locals>." ++ "<lambda>") t)) :
  Rel X.K (upd (upd H T (.tbl (ps++#[Ft i,Ft j,.ref c']))) c' (.frz oc (.frz oc (.own 0)))) P α S:=by
 have ne:T≠c':=qR e hn;have go:∀ b u,b≠T→H b=Ab u→upd (upd H T (.tbl (ps++#[Ft i,Ft j,.ref c']))) c' (.frz oc (.frz oc (.own 0))) b=Ab u:=fun b u h q=>by rw[qF (qR q hn),qF h];exact q
 have nT:∀ b∈α,b≠T:=fun b h z=>an (z▸h);have nc:∀ (k:Aj) b,α[k]? = Ab b→b≠c':=fun k b h z=>r.own k b h (z▸hn);have at':∀ (k:Aj) b,α[k]? = Ab b→upd (upd H T (.tbl (ps++#[Ft i,Ft j,.ref c']))) c' (.frz oc (.frz oc (.own 0))) b=H b:=fun k b h=>by rw[qF (nc k b h),qF (nT b (Bm h))]
 refine⟨fun x hx d U hU=>?_,fun b u q=>go b u (fun z=>by rw[z,pn] at q;cases q) (r.sub b u q),r.len,r.nd,r.sep,fun k b o h1 h2=>MOk.at (at' k b h1) (r.at' k b o h1 h2),fun k b h=>by rw[at' k b h];exact r.own k b h⟩
 by_cases hT:U=T
 ·subst hT
  cases m.inj x hx y hy d c U hU ht;refine⟨_,by rw[qF ne];exact qQ,pn,an,?_,fun pos cv q=>?_⟩
  ·rw[Tr];exact eQ _ ok
  ·rw[Tr] at q
   rcases oB _ ok q with q|q
   ·obtain⟨d,od,vs,t,a1,a2,a3⟩:=cd pos cv q
    exact⟨d,od,vs,t,a1,go d _ (fun z=>by rw[z,e] at a2;cases a2) a2,a3⟩
   ·exact⟨c',oc,ws,t,q,qQ,hd,hs⟩
 ·obtain⟨qs,e1,p1,a1,ok1,cd1⟩:=r.tb x hx d U hU
  exact⟨qs,go U _ hT e1,p1,a1,ok1,fun pos cv q=>let ⟨d,od,vs,t,b1,b2,b3⟩:=cd1 pos cv q;⟨d,od,vs,t,b1,go d _ (fun z=>by rw[z,e] at b2;cases b2) b2,b3⟩⟩
theorem Inv.pinned {a:Af}{o:Cg}{h':Bk}{tk:Aj}(I:Inv X pins σ H' { s with heap:=h'.push o,toks:=tk })(ha:a=h'.objs.size)(hs:s.heap.objs.size≤h'.objs.size)(I0:Inv X pins σ H s)(hn:H' a=none)(hd:∀ v,o.data≠.cell v)(hfr:o.isFreed=false:=by rfl):Inv X ((a,o)::pins) σ H' { s with heap:=h'.push o,toks:=tk }:=by
 refine I.pins_of fun p hp=>?_;rcases Ay.mp hp with rfl|hp
 ·subst ha
  exact⟨Ba _ hfr,hn,Fn (Bf I0.lt hs),I0.nofs hs,hd⟩
 ·exact I.pin p (Bv _ hp)
theorem YI {M:Ls}{params:Mm}{body:Bp}{scope:Ei}{lpos:Ek}{cl:Aa (As × Af)}{Q:Ac→Ag→Prop}(I:Inv X pins σ H s)(r:Rel X.K H P α S)(hy:y∈w9)(ht:Dk X.K y=Ab (c,T))(hc:X.env.code=.ref c)(hq:X.env.qual=y ++ ".<locals>.")
  (hdef:Xr params X.env=([],[])) (hcl:Pg scope X.env=pure cl)
  (h:∀ (a:Af) (H':Hp) (s':Ag) (pm ctv:Ac) (c':Af) (oc:Cg) (ws:Bl Ac) (t:OQ),Inv X ((a,Kk "<lambda>" (y ++ ".<locals>." ++ "<lambda>") params body scope cl pm c' ctv)::pins) σ H' s'→Rel X.K H' P α S →
   H' c'=Ab (.frz oc (.frz oc (.own 0)))→oc.data=.fields ws→ws[1]? = Ab (.str (y ++ ".<locals>." ++ "<lambda>") t)→Q (.ref a) s'):Ao M X.A (eval (.Lambda params body scope lpos) X.env) Q E s:=by
 obtain⟨ps,e,pn,an,ok,cd⟩:=r.tb y hy c T ht;have hP:s.heap.get? T=Ab (Jj ps):=I.hok T _ e;have hC:Rw s.heap c T:=(I.mod.code y hy c T ht).keeps I.bk;have hg:s.heap.Ns Cf X.mg:=I.mod.glob.keeps I.bk;have hgP:Cf≠T:=fun z=>by
  obtain⟨o,es,ep,e1,d1,_⟩:=hg;rw[z,hP] at e1;cases e1;cases d1
 have hb:s.heap.BuiltinsAt X.mg T:=by
  obtain⟨bm,o,b1,b2,b3,b4,b5,b6⟩:=I.mod.bm;have b3':=I.bk _ _ b3;refine⟨bm,o,b1,b2,fun z=>?_,fun z=>?_,b3',b4,b5,b6⟩
  ·obtain⟨o',es,ep,e1,d1,_⟩:=hg
   rw[← z,b3'] at e1;cases e1;rw[b6] at d1;cases d1
  ·rw[z,hP] at b3';cases b3';cases b4
 refine PySem.W.kla_eval hdef ?_;rw[hq];cases hf:Mn lpos ps.toList with
 |none =>
  refine PySem.W.kla_makeFunction (mg:=X.mg) hcl I.ok.glob hg hc hC hP ok hf hgP hb fun c' ctv h' tk hx hge hlt hrec htb=>?_;obtain⟨c2,oc,ws,t,z,hoc,hd,hs⟩:=hrec;cases z;have hn:H c'=none:=I.hok.fresh hge;have ne:T≠c':=qR e hn;have hsz:s.heap.objs.size≤h'.objs.size:=Cr hge (Fm hlt)
  let o:=Kk "<lambda>" (y ++ ".<locals>." ++ "<lambda>") params body scope cl ((X.mg "__name__").getD .none) c' ctv
  have kp:∀ b u,b≠T→s.heap.get? b=Ab u→(h'.push o).get? b=Ab u:=fun b u hb q=>Ah _ (hx b u hb q);have eT:(h'.push o).get? T=Ab (Jj (ps++#[Ft lpos.line,Ft lpos.col,.ref c'])):=Ah _ htb
  let H2:=upd (upd H T (.tbl (ps++#[Ft lpos.line,Ft lpos.col,.ref c']))) c' (.frz oc (.frz oc (.own 0)))
  have go:∀ b u,b≠T→H b=Ab u→H2 b=Ab u:=fun b u h q=>by show upd _ _ _ b=_;rw[qF (qR q hn),qF h];exact q
  have go0:∀ b,b≠T→b≠c'→H b=none→H2 b=none:=fun b h h' q=>by show upd _ _ _ b=_;rw[qF h',qF h];exact q
  have nT:∀ b,H b=none→b≠T:=fun b q z=>by rw[z,e] at q;cases q
  have eH:H2 T=Ab (.tbl (ps++#[Ft lpos.line,Ft lpos.col,.ref c'])):=by show upd _ _ _ T=_;rw[qF ne];exact qQ
  have un:Un X.fs [] H H2 s.heap (h'.push o):=by
   refine⟨fun b u q n _ _=>kp b u (nT b n) q,fun b u q n _ _=>⟨u.slots,kp b u (nT b n) q⟩,fun b u q n _=>go0 b (nT b n) (Cd (Bf (Ax q) hge)) n,fun b u q _=>?_,fun b xs q=>go b _ (fun z=>by rw[z,e] at q;cases q) q,fun b u xs q=>go b _ (fun z=>by rw[z,e] at q;cases q) q,fun b qs q=>?_⟩
   ·by_cases hb:b=T
    ·rw[hb];exact⟨_,eT⟩
    ·exact⟨u,kp b u hb q⟩
   ·by_cases hb:b=T
    ·rw[hb,e] at q;cases q
     exact⟨_,by rw[hb];exact eH⟩
    ·exact⟨#[],by rw[go b _ hb q];simp⟩
  have hok:HOk X.prog X.w H2 (h'.push o):=fun b u q=>by
   by_cases hb:b=c'
   ·have q':Ab (HO.frz oc (.frz oc (.own 0)))=Ab u:=by rw[← q,hb];exact qQ.symm
    cases q';have z:(h'.push o).get? b=Ab oc:=by rw[hb];exact Ah _ hoc
    exact⟨z,z,_,z⟩
   ·by_cases hb2:b=T
    ·rw[hb2,eH] at q;cases q
     rw[hb2];exact eT
    ·have q':H b=Ab u:=by have q2:upd _ _ _ b=Ab u:=q;rw[qF hb,qF hb2] at q2;exact q2
     refine(I.hok b u q').stay (fun d v hd q=>kp d v ?_ q) (fun d q=>go d _ (fun z=>by rw[z,e] at q;cases q) q) fun d xs q=>go d _ (fun z=>by rw[z,e] at q;cases q) q
     rcases hd with z|z
     ·rw[z];exact hb2
     ·intro w;rw[w,e] at z;cases z
  have I2:=I.un (t':=tk) un hok;refine h h'.objs.size H2 _ _ ctv c' oc ws t (Inv.pinned I2 rfl hsz I (go0 _ (fun z=>?_) (Fn hlt) (I.hok.fresh hsz)) fun v z=>by cases z) (r.grown I.mod hy ht e pn an ok cd hn hd hs) qQ hd hs
  rw[← z] at e;exact absurd (Bf (I.hok.lt e) hsz) (Ea _)
 |some cv =>
  obtain⟨c',oc,ws,t,rfl,a2,a3,a4⟩:=cd lpos cv hf;refine PySem.W.kla_makeFunctionHit (mg:=X.mg) hcl I.ok.glob hg hc hC hP ok hf hb fun ctv h' tk hk hsz=>?_;have I2:=I.kept (t':=tk) (h':=h'.push (Kk "<lambda>" (y ++ ".<locals>." ++ "<lambda>") params body scope cl ((X.mg "__name__").getD .none) c' ctv)) fun b u q=>Ah _ (hk b u q);exact h h'.objs.size H _ _ ctv c' oc ws t (Inv.pinned I2 rfl hsz I (I.hok.fresh hsz) fun v z=>by cases z) r a2 a3 a4
end
def bO:Aa Aj→qG→Am (Aa D)
 |[],_=>Ab []
 |i::r,env=>match env[i]? with
  |some (Ab d)=>(bO r env).map (d::·)
  |_=>none
set_option tactic.hygienic true in
theorem eU {K:Ai}{P:Hp}{α:Aa Af}{σ:_L.St}(re:qZ K P α σ env):∀ (cap:Aa Aj) (caps:Aa D),bO cap env=Ab caps→∃ cv,qD K P α caps cv∧cv.length=cap.length∧∀ (j i:Aj) v,cap[j]? = Ab i→cv[j]? = Ab v→σ[i]? = Ab (Ab v)
 |[],caps,h=>by cases h;exact⟨[],.nil,rfl,fun j i v e=>by simp at e⟩
 |i::r,caps,h=>by
  unfold bO at h
  split at h
  ·rename_i d e
   obtain⟨ds,h1,rfl⟩:=Cs.mp h;obtain⟨cv,a1,a2,a3⟩:=eU re r ds h1;obtain⟨v,b1,b2⟩:=re.2 i d e;refine⟨v::cv,.cons b2 a1,by simp[a2],fun j k w e1 e2=>?_⟩
   cases j with
   |zero=>cases e1;cases e2;exact b1
   |succ j=>exact a3 j k w (by simpa using e1) (by simpa using e2)
  ·cases h
open Classical in
def uni (f:Af→Aa V→Res D):Res D:=if ∀ a cv,f a cv=f 0 [] then f 0 [] else .bad
theorem DC {f:Af→Aa V→Res D}{R:Res D}(h:∀ a cv,f a cv=R):uni f=R:=by
 unfold uni;rw[Bh fun a cv=>(h a cv).trans (h 0 []).symm];exact h 0 []
set_option tactic.hygienic true in
theorem DB {f:Af→Aa V→Res D}(h:uni f≠.bad)(a:Af)(cv:Aa V):f a cv=uni f:=by
 unfold uni at h ⊢
 split at h
 ·rename_i z;rw[Bh z];exact z a cv
 ·exact absurd rfl h
def exO (nx:Ar)(R:Res D):Res D:=match nx,R with
 |true,.ex _ _ _=>.bad
 |_,R=>R
def gU (nx:Ar)(cap:Aa Aj)(n N:Aj)(fa:DA)(g:Af→Aa V→DS):DE:=fun env S=>match bO cap env with
 |none=>.bad
 |some caps=>(fa env S).bind fun ds S1=>if ds.length+1=n then exO nx (uni fun a cv=>qT N (g a cv) (.clo a cv caps::ds) S1) else .bad
def BV (P:Be)(w:Bt)(K:Ai)(mg:As→Am Ac)(base:Bk)(cm:Ar)(k kl m:Aj)(x:As)(n N:Aj)(g:(Aa D→DF)→Af→Aa V→DS):Prop:=
 ∃ f fd st Ns ps,ps.length=n∧Ns.length=N∧mg x=Ab (.ref f)∧Fun K x x st f fd∧vL K fd ps [] ∧ FnScope Ns ps (qH st)∧∀ (L:LamT) (G:Aa D→DF) (a:Af) (cv:Aa V),mU P w K mg base cm kl L m G →
  ∀ (cdv:Ac) (A:Bu) (outer:Aa Ht) (s:Ag) (H:Hp) (E:XK),CloAt s.heap H (frs outer) L a cv→RoomC cm k (A.deeper (Fv x (qH st) s.heap.objs.size f cdv))→QB (cxC cm P w K mg base Ns x (qH st) f cdv A outer s H E) (zH st) (g G a cv)
def p6 (scX:Ei)(NX:Aa As)(sc:Ei)(cap:Aa Aj):Ar:=decide ((xQ sc).length=cap.length)&&(cap.zip (xQ sc)).all fun p=>NX[p.1]? == Ab p.2&&(scX.names.lookup p.2 == Ab .cell||scX.names.lookup p.2 == Ab .free)
section
variable {X:Cx}{pins:Aa (Af × Cg)}{σ : _L.St}{H P:Hp}{α : Aa Af}{s:Ag}{S:Sto}{y x:As}{c T:Af}{params:Mm}{body:Bp}{scope:Ei}{lpos p pos:Ek}{es:Aa Bp}{fa:DA}{nx cm:Ar}{k kl m n N:Aj}{cap:Aa Aj}{G:Aa D→DF}{g:(Aa D→DF)→Af→Aa V→DS}
theorem ME {R:Res D}{Ok:D→Sto→Prop}(h:qI X P α (exO nx R) Ok):R≠.bad∧qI X P α R Ok∧((∃ c x S',R=.ex c x S')→nx=false):=by
 cases R with
 |ok d S'=>exact⟨nofun,by cases nx <;> exact h,fun ⟨_,_,_,z⟩=>nomatch z⟩
 |bad=>cases nx <;> exact An h
 |ex c x S' =>
  cases nx with
  |true=>exact An h
  |false=>exact⟨nofun,h,fun _=>rfl⟩
theorem Rel.know {K:Ai}(r:Rel K H P α S)(h:H c'=Ab (.frz oc (.frz oc (.own 0)))):Rel K H (upd P c' (.frz oc (.frz oc (.own 0)))) α S∧qE P (upd P c' (.frz oc (.frz oc (.own 0)))):=by
 have sP:qE P (upd P c' (.frz oc (.frz oc (.own 0)))):=fun b u q=>by
  by_cases hb:b=c'
  ·have z:=r.sub b u q
   rw[hb,h] at z;cases z;rw[hb];exact qQ
  ·rw[qF hb];exact q
 refine⟨⟨fun x hx d T hT=>let ⟨ps,e,pn,an,ok,cd⟩:=r.tb x hx d T hT;⟨ps,e,(qF fun (z:T=c')=>by rw[z,h] at e;cases e).trans pn,an,ok,cd⟩,fun b u q=>?_,r.len,r.nd,fun i a o h1 h2 h3=>?_,fun i a o h1 h2=>(r.at' i a o h1 h2).mono sP (Bb _),r.own⟩,sP⟩
 ·by_cases hb:b=c'
  ·rw[hb,qQ] at q;cases q;rw[hb];exact h
  ·rw[qF hb] at q;exact r.sub b u q
 ·have hb:a≠c':=by
   rintro rfl;have z:=r.at' i a o h1 h2;cases o with
   |dead=>exact h3 rfl
   |lst ds=>obtain⟨vs,z,_⟩:=z;rw[h] at z;cases z
   |dct kvs=>obtain⟨vs,z,_⟩:=z;rw[h] at z;cases z
   |ins C fs=>obtain⟨dx,vs,z,_⟩:=z;rw[h] at z;cases z
  rw[qF hb];exact r.sep i a o h1 h2 h3
theorem lC {z:As × Ha}(h:z∈sc.names)(hk:z.2=.free):z.1∈xQ sc:=Gg.mpr ⟨z,h,by rw[hk];rfl⟩
set_option tactic.hygienic true in
theorem YZ {z:As}(h:z∈xQ sc):(z,Gb)∈sc.names:=by
 obtain⟨⟨n,k⟩,h1,h2⟩:=Gg.mp h
 split at h2
 ·rename_i e
  have:k=Gb:=by simpa using e
  cases h2;subst this;exact h1
 ·cases h2
theorem tO (hB:p6 X.env.scope X.N scope cap=true){j:Aj}{z:As}(h:(xQ scope)[j]? = Ab z):∃ i,cap[j]? = Ab i∧X.N[i]? = Ab z∧(X.env.scope.names.lookup z=Ab .cell∨X.env.scope.names.lookup z=Ab .free):=by
 simp only[p6,AT,Ch] at hB;obtain⟨hl,ha⟩:=hB;have hj:j<cap.length:=by rw[← hl];exact(Av.mp h).1
 have e:=Ap hj;have hz:(cap[j],z)∈cap.zip (xQ scope):=IY.mpr ⟨j,by rw[OB];exact⟨e,h⟩⟩
 have q:=Bq.mp ha _ hz;simp only[AT,Mp,Pf] at q;exact⟨_,e,q.1,q.2⟩
theorem YH (hB:p6 X.env.scope X.N scope cap=true)(ok:X.Ok):Pg scope X.env=pure (wR X.env.cells scope.names []):=gK fun z hz hk=>by
 obtain⟨j,hj⟩:=IY.mp (lC hz hk);obtain⟨i,_,_,q⟩:=tO hB hj;exact ok.has z.1 q
theorem uO (hB:p6 X.env.scope X.N scope cap=true)(ok:X.Ok){z:As}{d:Af}(h:(wR X.env.cells scope.names []).lookup z=Ab d):X.env.cells.lookup z=Ab d:=by
 rcases jF _ _ h with h|⟨hm,hc⟩
 ·cases h
 ·obtain⟨j,hj⟩:=IY.mp (lC hm rfl)
  obtain⟨i,_,_,q⟩:=tO hB hj;obtain⟨d',e⟩:=ok.has z q;rw[e,Ly] at hc;rw[e,hc]
theorem FB {a:Af}{ws:Bl Ac}{t:OQ}{pm ctv:Ac}{cv:Aa V}{s':Ag}(hB:p6 X.env.scope X.N scope cap=true)(I:Inv X ((a,Kk "<lambda>" (y ++ ".<locals>." ++ "<lambda>") params body scope (wR X.env.cells scope.names []) pm c' ctv)::pins) σ H' s')
  (hc:H' c'=Ab (.frz oc (.frz oc (.own 0)))) (hd:oc.data=.fields ws) (hs:ws[1]? = Ab (.str (y ++ ".<locals>." ++ "<lambda>") t)) (hl:cv.length=cap.length) (hv:∀ (j i:Aj) v,cap[j]? = Ab i→cv[j]? = Ab v→σ[i]? = Ab (Ab v)) :
  CloAt s'.heap H' (frs X.stack) ⟨y ++ ".<locals>." ++ "<lambda>",params,body,scope⟩ a cv:=by
 obtain⟨e1,n1,n2,n3,_⟩:=I.pin _ (Bv _ (.head _));refine⟨_,pm,ctv,c',oc,ws,t,e1,hc,hd,hs,fun z z' d h1 h2=>I.ok.inj z z' d (uO hB I.ok h1) (uO hB I.ok h2),fun z d h=>⟨I.freeC z d (uO hB I.ok h),I.cell z d (uO hB I.ok h)⟩,fun z hz=>j3 _ _ (.inl (Ey hz)),?_,fun j z v h1 h2=>?_,n1,fun z=>?_⟩
 ·simp only[p6,AT,Ch] at hB
  rw[hl,← hB.1]
 ·obtain⟨i,q1,q2,q3⟩:=tO hB h1
  obtain⟨m,hm,hlk⟩:=I.loc;obtain⟨u,ru,lk⟩:=hlk i z v q2 (hv j i v q1 h2) (q3.elim (fun k=>.inr (.inl k)) fun k=>.inr (.inr k));rcases lk with⟨kl,_⟩|⟨_,d,hcl,hcell⟩
  ·have kl':X.env.scope.names.lookup z=Ab .local:=kl
   rcases q3 with k|k <;> (rw[kl'] at k;cases k)
  ·obtain⟨d',hd'⟩:=j3 (cells:=X.env.cells) scope.names [] (.inl (YZ (Bm h1)))
   have:=uO hB I.ok hd';rw[hcl] at this;cases this;exact⟨d,u,hd',ru,hcell⟩
 ·rcases Ay.mp (I.stkSub a z) with z|z
  ·exact n2 z
  ·exact n3 z
theorem WE (D:BV X.prog X.w X.K X.mg X.base cm k kl m x n N g)(LX:mU X.prog X.w X.K X.mg X.base cm kl ⟨y ++ ".<locals>." ++ "<lambda>",params,body,scope⟩ m G)(hr:RoomC cm (k+1) X.A)(hF:nx=false→Fn1 X)(hg:Gl X x)(hdb:(x == ("__debug__" : As))=false)
  (hy:y∈w9) (ht:Dk X.K y=Ab (c,T)) (hc:X.env.code=.ref c) (hq:X.env.qual=y ++ ".<locals>.") (hdef:Xr params X.env=([],[])) (hB:p6 X.env.scope X.N scope cap=true) (ha:PA X es (tDA X fa))
  (he:Bi (.Lambda params body scope lpos::es) X.env=(false,eval (.Lambda params body scope lpos) X.env)::Bi es X.env) (hpl:(Fq pos (Bi es X.env)).any (·.1)=false) :
  PE X (.Call (.Name x p) (.Lambda params body scope lpos::es) [] pos) (tD X (gU nx cap n N fa (g G))):=by
 intro pins s σ H Q I h;obtain⟨P,α,env,S,r,re,af⟩:=h;obtain⟨f,fd,st,Ns,ps,hn,hN,hm,F,hb,hS,hbody⟩:=D;subst hn;subst hN;have af:qI X P α (match bO cap env with
  |none=>.bad
  |some caps=>(fa env S).bind fun ds S1=>if ds.length+1=ps.length then exO nx (uni fun a cv=>qT Ns.length (g G a cv) (.clo a cv caps::ds) S1) else .bad) (OkV X P α Q):=af
 cases hcap:bO cap env with
 |none=>rw[hcap] at af;exact An af
 |some caps =>
  rw[hcap] at af;obtain⟨cv,rc,hcl,hv⟩:=eU re cap caps hcap;refine Hb (uE I hg hm ?_ hdb);refine Oe (h₀:=X.base) I.ok.mod.kin F.kp ?_ he hpl;rw[he];show Ao _ _ (spliced ((false,eval (.Lambda params body scope lpos) X.env)::Fq pos (Bi es X.env))) _ _ s;refine Ko (YI I r hy ht hc hq hdef (YH hB I.ok) fun a H1 s1 pm ctv c' oc ws t I1 r1 hc' hd hs=>?_);obtain⟨rk,sk⟩:=Rel.know r1 hc';refine thn (wV ha I1 rk (re.mono sk (Bb _)) (qV.base sk (Bb _) af) pos) fun us s2 ⟨vs,H2,P2,α2,ds,S2,I2,rv,r2,re2,rp,q1,q2,af2⟩=>⟨I2.kIn,?_⟩;obtain⟨hl,af3⟩:=xS af2;obtain⟨nb,af4,nf⟩:=ME af3;have e1:=DB nb a cv;rw[← e1] at af4 nf;have C:=FB hB I2 (r2.sub _ _ (q1 _ _ qQ)) hd hs hcl hv;have I3:Inv X pins σ H2 s2:=I2.pins_of fun p hp=>I2.pin p (Bv _ (By _ hp));obtain⟨oc',od,kV,doc,pm',an,cdv,ct,osl,rfl,lk,hcd⟩:=F.ex;have hz:(Cb a::us).length=ps.length:=by rw[← hl,rp.length,rv.length];rfl
  have hb':=hb s2 (.ref a::us) I2.kIn (by rw[Gs];exact hz)
  rw[Gs] at hb';have rc2:=qD.mono (sk.trans q1) q2 _ _ rc;have af5:=qV.base q1 q2 af4;have rv2:qJ (V.ref a::vs) (Cb a::us):=.cons rfl rv;exact bN (fun z=>hF (nf z)) I3 af5 (Q9 lk hcd hS (by rw[← hz];exact rv2.length) hr I3.env0 hb' rv2 (dU (hbody _ G a cv LX cdv X.A X.stack s2 H2 _ C (hr.deeper _)).1 r2 (.cons (by simp only[Rep];exact⟨trivial,rc2⟩) rp) (rT af5)))
end
section
variable {X:Cx}{pins:Aa (Af × Cg)}{σ : _L.St}{H P:Hp}{α : Aa Af}{s:Ag}{S:Sto}
def kK:DF:=fun ds S=>match ds with
 |[d,.tup [.ty b,.ty c]]=>if uR b=true∧uR c=true then match tyD d S with
   |some a=>.ok (.bl (w8 a b||w8 a c)) S
   |none=>.bad
  else .bad
 |_=>.bad
inductive KitAt (X:Cx)(u:Ac)(t:Ac)(h:Bk):Prop
 |mk (Hh:Bk→Prop) (Z:PySem.W.KitX X.K u t Hh) (p:Hh h) (ne:u≠.builtin "__main__.__loader__#opaque"):KitAt X u t h
theorem T7 {v:V}{u:Ac}{d:D}{a:Ed}(I:Inv X pins σ H s)(r:Rel X.K H P α S)(q:qL v u)(p:Rep X.K P α d v)(ha:tyD d S=Ab a):KitAt X u (.type a) s.heap:=by
 cases JC r p ha with
 |tup p' ws e sq ea =>
  subst e ea;cases (show u=Cb p' from q)
  obtain⟨its,rv',⟨o,h1,h2,_⟩,_⟩:=I.tuple sq;exact⟨_,Kn,⟨o,h1,h2⟩,fun z=>nomatch z⟩
 |lst p' ws e sq ea =>
  subst e ea;cases (show u=Cb p' from q)
  obtain⟨its,rv',⟨o,_,h1,h2,_⟩,_⟩:=I.list sq;exact⟨_,Ib,⟨o,h1,h2⟩,fun z=>nomatch z⟩
 |of ty =>
  cases ty with
  |non=>cases (show u=Ez from q);exact⟨_,Uw,Gm,fun z=>nomatch z⟩
  |bl y=>cases (show u=Fg y from q);exact⟨_,Ux,Gm,fun z=>nomatch z⟩
  |int i=>obtain⟨t,q⟩:=(show ∃ t,u=Mj i t from q);cases q;exact⟨_,Vw,Gm,fun z=>nomatch z⟩
  |str y=>obtain⟨t,q⟩:=(show ∃ t,u=Rc y t from q);cases q;exact⟨_,Vx,Gm,fun z=>nomatch z⟩
  |flt y=>cases d <;> first|(exact nn ha)|(simp only[Rep] at p;cases p;done)|(simp only[Rep] at p;obtain⟨_,p⟩:=p;cases p.1;done)|(simp only[Rep] at p;obtain⟨_,_,p⟩:=p;cases p.1;done)
  |@lst b xs ea =>
   cases (show u=Cb b from q)
   obtain⟨_,_,n,_,h1⟩:=(show zA X.prog X.w H s.heap b (.lst xs) from I.hok b _ ea)
   exact⟨_,Ib,⟨_,h1,rfl⟩,fun z=>nomatch z⟩
  |@frz b ob xs ea =>
   cases (show u=Cb b from q)
   obtain⟨_,_,_,n,_,h1⟩:=(show zA X.prog X.w H s.heap b (.frz ob (.lst xs)) from I.hok b _ ea)
   exact⟨_,Ib,⟨_,h1,rfl⟩,fun z=>nomatch z⟩
  |@tup b xs ea =>
   cases (show u=Cb b from q)
   obtain⟨_,_,_,p⟩:=(show zA X.prog X.w H s.heap b (.tup xs) from I.hok b _ ea)
   obtain⟨o,h1,h2,_⟩:=p;exact⟨_,Kn,⟨o,h1,h2⟩,fun z=>nomatch z⟩
  |@dK b kvs ea =>
   cases (show u=Cb b from q)
   obtain⟨_,_,vs,_,p⟩:=(show zA X.prog X.w H s.heap b (.dK kvs) from I.hok b _ ea)
   obtain⟨o,es,ep,h1,h2,_⟩:=p;exact⟨_,Ld,⟨o,h1,h2.1⟩,fun z=>nomatch z⟩
  |@dT b kvs ea =>
   cases (show u=Cb b from q)
   obtain⟨_,_,xs,_,o,es,ep,h1,h2,_⟩:=(show zA X.prog X.w H s.heap b (.dT kvs) from I.hok b _ ea)
   exact⟨_,Ld,⟨o,h1,h2.1⟩,fun z=>nomatch z⟩
set_option tactic.hygienic true in
theorem Y9 {ds:Aa D}{Ok:D→Sto→Prop}(h:qI X P α (kK ds S) Ok):∃ d b c a,ds=[d,.tup [.ty b,.ty c]]∧uR b=true∧uR c=true∧tyD d S=Ab a∧Ok (.bl (w8 a b||w8 a c)) S:=by
 unfold kK at h
 split at h
 ·rename_i d b c
  obtain⟨⟨h1,h2⟩,h⟩:=xS h
  split at h
  ·rename_i a ha
   exact⟨d,b,c,a,rfl,h1,h2,ha,h⟩
  ·exact An h
 ·exact An h
theorem JK:wQ X (.builtin "isinstance") kK:=by
 intro pins σ H s P α S vs us ds Q I r rv rp af;obtain⟨d,b,c,a,rfl,hb,hc,ha,ok⟩:=Y9 af;obtain⟨v,w,u,x,rfl,rfl,p,p',q,q'⟩:=gA rp rv;simp only[Rep] at p';obtain⟨tp,ws,rfl,sq,t⟩:=p';obtain⟨w1,ws1,rfl,z1,t⟩:=t.cons_inv;obtain⟨w2,ws2,rfl,z2,t⟩:=t.cons_inv;cases t.nil_inv;simp only[Rep] at z1 z2;subst z1 z2;cases (show x=Cb tp from q')
 obtain⟨its,rvi,⟨o,h1,h2,n,h3⟩,_⟩:=I.tuple (xG r.sub sq);obtain⟨i1,i2,rfl,y1,y2⟩:=dM rvi;cases (show i1=Gi b from y1)
 cases (show i2=Gi c from y2)
 obtain⟨Hh,Z,hp,ne⟩:=T7 I r q p ha;obtain⟨oc,od,odt,osl⟩:=o;cases h2;cases h3;have k1:=tN (K:=X.K) (rY ha) hb;have k2:=tN (K:=X.K) (rY ha) hc;refine PySem.W.kia_tup (its:=[.type b,.type c]) (b:=w8 a b||w8 a c) Z I.kIn hp h1 ?_ ne fun tk=>⟨.bl _,H,I.tok tk,rfl,xr ok r (by simp only[Rep])⟩
 cases z:w8 a b with
 |true=>rw[z] at k1;simp only[Sf,k1];rfl
 |false =>
  rw[z] at k1;cases z':w8 a c with
  |true=>rw[z'] at k2;simp only[Sf,k1,k2];rfl
  |false=>rw[z'] at k2;simp only[Sf,k1,k2];rfl
end
def okV (X:Cx)(i:Aj)(x:As):Ar:=decide (X.N[i]? = Ab x)&&(isV (X.env.scope.names.lookup x)&&okN x)
def bZ (fe:DE):Aa D→DF:=fun caps ds S=>fe ((ds++caps).map Ab) S
def YG (sc:Ei)(ps:Aa As):Ar:=decide (sc.kind=.function)&&(decide (sc.isCoroutine=false)&&(decide (sc.isGenerator=false)&&(decide (∀ y∈sc.names,y.2≠.cell)&&(decide (∀ x∈ps,sc.names.lookup x=Ab .local)&&decide (∀ x∈xQ sc,sc.names.lookup x=Ab .free)))))
structure LmX (G:Aa D→DF)(P:Be)(w:Bt)(K:Ai)(mg:As→Am Ac)(base:Bk)(cm:Ar)(k:Aj)(L:LamT)(n:Aj):Prop where
 get:mU P w K mg base cm k L n G
structure DfL (g:(Aa D→DF)→Af→Aa V→DS)(P:Be)(w:Bt)(K:Ai)(mg:As→Am Ac)(base:Bk)(cm:Ar)(k kl m:Aj)(x:As)(n N:Aj):Prop where
 get:BV P w K mg base cm k kl m x n N g
structure ClA (X:Cx)(L:LamT)(a:Af)(cv:Aa V):Prop where
 get:CloAt X.s₀.heap X.H₀ X.fs L a cv
structure LmK (X:Cx)(y:As):Prop where
 get:y∈w9∧kE X.K y X.env.code∧X.env.qual=y ++ ".<locals>." ∧ ∃ c T,Dk X.K y=Ab (c,T)
section
variable {X:Cx}{cm nx:Ar}{k kl m n N i:Aj}{x y:As}{p pos lpos:Ek}{e:Bp}{es:Aa Bp}{fA:DA}{fe:DE}{L:LamT}{G:Aa D→DF}{a:Af}{cv:Aa V}{g:(Aa D→DF)→Af→Aa V→DS}{Fs:FnL}{cap:Aa Aj}{params:Mm}{body:Bp}{scope:Ei}
theorem NC (h:Ck (okV X i x)):X.N[i]? = Ab x∧Vis X.env.scope x∧(x == ("__debug__" : As))=false∧(x == ("__classdict__" : As))=false:=by
 unfold Ck okV at h;simp only[AT,Ch] at h;exact⟨h.1,cE h.2.1,(jV h.2.2).1,(jV h.2.2).2.1⟩
theorem aK0 (LX:LmX G X.prog X.w X.K X.mg X.base cm k L n)(C:ClA X L a cv)(hr:RoomC cm k X.A)(F:Fn1 X)(h:Ck (okV X i x)):QE X (.Call (.Name x p) [] [] pos) (kJ i qB a cv n G):=
 have h:=NC h
 ⟨JV LX.1 hr F C.1 h.1 h.2.1 h.2.2.1 h.2.2.2⟩
theorem CG {ps:Aa As}{q:As}(h:Ck (YG scope ps))(one:ps.length≤1):LamSc ⟨q,params,body,scope⟩ ps:=by
 unfold Ck at h;simp only[YG,AT,Ch] at h;obtain⟨a,b,c,d,e,f⟩:=h;exact⟨a,b,c,d,e,one,f⟩
theorem HB (D:DfL g X.prog X.w X.K X.mg X.base cm k (kl+1) 0 x n N)(M:LmK X y)(hr:RoomC cm (k+1) X.A)(hF:nx=false→Fn1 X)(h:Ck (okG X x&&p6 X.env.scope X.N scope cap))(hs:Ck (YG scope []))(hdef:Xr params X.env=([],[]))
  (hb:∀ (q:As) (b:Bp) (cl:Aa (As × Af)) (pm cdv ctv:Ac),Qj (Xv "<lambda>" q params b scope cl pm cdv ctv) ⟨[],[]⟩ = pure [])
  (hbody:∀ (cl:Aa (As × Af)) (f:Af) (cd:Ac) (A:Bu) (outer:Aa Ht) (s:Ag) (H:Hp) (E:XK),RoomC cm kl (A.deeper (Jm (y ++ ".<locals>." ++ "<lambda>") scope s.heap.objs.size f cd cl)) →
   QE (YF cm X.prog X.w X.K X.mg X.base ([] ++ xQ scope) ⟨y ++ ".<locals>." ++ "<lambda>",params,body,scope⟩ cl f cd A outer s H E) body fe)
  (ha:QA X es fA) (s:St1 X (.Lambda params body scope lpos) es pos):QE X (.Call (.Name x p) (.Lambda params body scope lpos::es) [] pos) (gU nx cap n N fA (g (bZ fe))):=by
 unfold Ck at h;rw[AT] at h;obtain⟨m1,m2,m3,c,T,m4⟩:=M.1;have hg:=wG h.1;exact⟨WE D.1 (TB (ps:=[]) (CG hs (by decide)) (fun cl pm cdv ctv us hl=>by cases us with|nil=>exact hb _ _ _ _ _ _|cons _ _=>cases hl) hbody) hr hF hg.1 hg.2.1 m1 m4 (m2 c T m4) m3 hdef h.2 ha.1 s.1 s.2⟩
theorem ClA.tr {pn:Aa (Af × Cg)}(h:ClA X L a cv):ClA (Cx.tryIn X E pn) L a cv:=⟨h.1⟩
theorem lmK {ls:Aa As}(h:(ls.all fun y=>(Dk X.K y).isSome)=true)(hc:kE X.K y X.env.code)(hy:Ck (ls.contains y&&w9.contains y))(hq:X.env.qual=y ++ ".<locals>."):LmK X y:=by
 unfold Ck at hy;rw[AT] at hy;obtain⟨⟨c,T⟩,e⟩:=Ik.mp (Bq.mp h y (by simpa using hy.1))
 exact⟨by simpa using hy.2,hc,hq,c,T,e⟩
theorem XS:ZCall X (.builtin "isinstance") kK:=⟨JK⟩
end
section
variable {P:Be}{w:Bt}{K:Ai}{mg:As→Am Ac}{base:Bk}{cm:Ar}{tp:Aj→El}{tab:Aa (As × Aj × Aa As)}{bl:Aa As}{clt plt:Aa (As × Af)}{cs:Aa Ac}{exl:Aa Af}{cst:Aa (As × Al)}{x:As}{i:Aj}{ps:Aa As}{N:Aj}
theorem dqL {g:(Aa D→DF)→Af→Aa V→DS}(P:Be)(w:Bt)(base:Bk)(k kl m j:Aj)(T:TxS K mg tp tab bl clt plt cs exl cst)(hj:tab[j]? = Ab (x,i,ps))(h:Ck (fnB (jK (qH (tp i))) ps (qH (tp i))&&decide ((jK (qH (tp i))).length=N)))
  (hb:∀ (L:LamT) (G:Aa D→DF) (a:Af) (cv:Aa V),LmX G P w K mg base cm kl L m→∀ (f:Af) (cdv:Ac) (A:Bu) (outer:Aa Ht) (s:Ag) (H:Hp) (E:XK),ClA (cxC cm P w K mg base (jK (qH (tp i))) x (qH (tp i)) f cdv A outer s H E) L a cv→RoomC cm k (A.deeper (Fv x (qH (tp i)) s.heap.objs.size f cdv)) →
   QB (cxC cm P w K mg base (jK (qH (tp i))) x (qH (tp i)) f cdv A outer s H E) (zH (tp i)) (g G a cv)):DfL g P w K mg base cm k kl m x ps.length N:=by
 unfold Ck at h;simp only[AT,Ch] at h;obtain⟨h,rfl⟩:=h;obtain⟨f,fd,hm,F,hbd⟩:=T.src j hj;exact⟨f,fd,tp i,_,ps,rfl,rfl,hm,F,hbd,sN h,fun L G a cv LX cdv A outer s H E C hr=>hb L G a cv ⟨LX⟩ f cdv A outer s H E ⟨C⟩ hr⟩
end
section
variable {X:Cx}{pins:Aa (Af × Cg)}{σ : _L.St}{H P:Hp}{α : Aa Af}{s:Ag}{S:Sto}
def A7:D→Aa D→Sto→Res D:=fun a ds S=>match a,ds with
 |.loc i,[.lst ys]=>pW S i fun xs=>if xs.length+ys.length≤lim then .ok .non (S.set i (.lst (xs++ys))) else .bad
 |_,_=>.bad
def gX:D→Aa D→Sto→Res D:=fun a ds S=>match a,ds with
 |.loc i,[.int k]=>pW S i fun xs=>if 0≤k∧k<1000000 then (match xs[k.toNat]? with|some d=>.ok d (S.set i (.lst (xs.eraseIdx k.toNat)))|none=>.bad) else .bad
 |_,_=>.bad
theorem mM {K:Ai}:∀ {ds:Aa D} {vs:Aa V} (k:Aj),qD K P α ds vs→qD K P α (ds.eraseIdx k) (vs.eraseIdx k)
 |[],vs,k,r=>by rw[r.nil_inv];exact .nil
 |d::ds,vs,0,r=>by
  obtain⟨w,ws,rfl,_,r2⟩:=r.cons_inv;exact r2
 |d::ds,vs,k+1,r=>by
  obtain⟨w,ws,rfl,r1,r2⟩:=r.cons_inv;exact .cons r1 (mM k r2)
set_option tactic.hygienic true in
theorem YR:MtD X "list.pop" gX:=by
 intro pins σ H s P α S v vv vs us a ds Q I r rv p rvs rps af;unfold gX at af
 split at af
 ·rename_i i k
  obtain⟨xs,hS,af⟩:=uS af;obtain⟨hk,af⟩:=xS af;have af2:∃ d,xs[k.toNat]? = Ab d∧OkV X P α Q d (S.set i (.lst (xs.eraseIdx k.toNat))):=by
   cases hx:xs[k.toNat]? with
   |none=>rw[hx] at af;exact An af
   |some d=>rw[hx] at af;exact⟨d,rfl,af⟩
  obtain⟨d,hd,ok⟩:=af2;obtain⟨w,u,rfl,rfl,p',q'⟩:=yI rps rvs;cases xF p';simp only[Rep] at p;obtain⟨l,rfl,q⟩:=p;obtain⟨ws,z,t⟩:=r.at' i l _ q hS;obtain⟨y,hy,ry⟩:=t.get hd;have hlt:=(Av.mp hy).1;refine YS pins s σ H (.ref l) [.int k] vv [u] Q I rv (.cons q' .nil) ⟨l,ws,k,k.toNat,y,rfl,rfl,z,by omega,by omega,?_,hy,?_⟩
  ·unfold Uy
   show (if (0≤(if k<0 then k+(ws.length:Al) else k)&&(if k<0 then k+(ws.length:Al) else k)<(ws.length:Al))=true then Ab (if k<0 then k+(ws.length:Al) else k).toNat else none)=_
   rw[Bn (show ¬ k<0 by omega),Bh (by simp;omega)]
  ·exact ok _ _ _ _ (r.put (m':=.lst (xs.eraseIdx k.toNat)) q hS (by intro z;cases z) ⟨ws.eraseIdx k.toNat,qQ,mM _ t⟩) (qE.refl _) (Bb _) ry
 ·exact An af
theorem BP:ZMt X "list.pop" gX:=⟨YR⟩
end
def kM:G2:=fun a b S=>match lstM a S,lstM b S with
 |some xs,Ab ys=>if xs.length+ys.length≤lim then .ok (.loc S.length) (S++[.lst (xs++ys)]) else .bad
 |_,_=>.bad
section
variable {X:Cx}
theorem YE {pins:Aa (Af × Cg)}{σ:_L.St}{H P:Hp}{α:Aa Af}{S:Sto}{s:Ag}{xs:Aa D}{vs:Aa V}{its:Aa Ac}{Q:VK}(I:Inv X pins σ H s)(r:Rel X.K H P α S)(t:qD X.K P α xs vs)(rv:qJ vs its)(hz:xs.length≤lim)
  (ok:OkV X P α Q (.loc S.length) (S++[.lst xs])):EP X pins σ Q (.ref s.heap.objs.size) { s with heap:=s.heap.push { cls:=.type "list",data:=.seq its.toArray } }:=by
 refine⟨.ref s.heap.objs.size,_,I.laid (t':=s.toks) (o:=.lst vs) (fun b ob q=>Ah _ q) (Az _) ⟨by rw[← t.length,← zJ];exact hz,its,0,rv,Ba _ rfl⟩,rfl,pR r (I.hok.fresh (Az _)) t ok⟩
theorem GO:OpD X (Dz .Add) kM:=by
 intro pins σ H s P α S v u vv uu a b Q I r rv ru pa pb af;unfold kM at af;cases h1:lstM a S with
 |none=>rw[h1] at af;exact An af
 |some xs =>
  cases h2:lstM b S with
  |none=>rw[h1,h2] at af;exact An af
  |some ys =>
   rw[h1,h2] at af;obtain⟨hl,af⟩:=xS (X:=X) af;obtain⟨a,vs,its,n,rfl,t1,rv1,e1,l1⟩:=pQ I r h1 pa;obtain⟨b,ws,its2,n2,rfl,t2,rv2,e2,l2⟩:=pQ I r h2 pb;cases rv;cases ru;refine Ph e1 e2 ?_ (by rw[Aw,Aw,← l1,← l2,← zJ];exact hl)
   rw[Na];exact YE I r (t1.append t2) (rv1.append rv2) (by rw[Ca];exact hl) af
theorem DJ:ZOp X (Dz .Add) kM:=⟨GO⟩
end
def Iti (a:Af)(o:Cg)(vs:Aa (Key × V)):It:=
 ⟨fun i H=>(∃ u,H a=Ab (.frz o u))∧i<vs.length,fun i H v H'=>∃ T q,v=.ref T∧H T=none∧H'=upd H T (.tup [kV q.1,q.2])∧vs[i]? = Ab q,fun i H=>(∃ u,H a=Ab (.frz o u))∧vs.length≤i⟩
theorem o3 {P:Be}{w:Bt}{K:Ai}{elts:Aa Bp}{x1:Aj}{tpos:Ek}{a it:Af}{o:Cg}{us:Aa (Key × Ac)}{ep:Aj}(kv:KV vs us)(at':∀ h:Bk,h.get? a=Ab o→h.DictAt (zI P w) a us ep) :
  Turn P w K (.Tuple elts x1 tpos) (Iti a o vs) [it] it (fun i h=>∃ ok ov,IsItemIter h it a i us.length ep ok ov) where
 mem:=by simp
 obj:=fun i h st b hb=>by
  have e:b=it:=by simpa using hb
  subst e;obtain⟨ok,ov,e⟩:=st;exact⟨_,e,fun v z=>by cases z⟩
 keep:=fun i h h' st k=>by
  obtain⟨ok,ov,e⟩:=st;exact⟨ok,ov,k it (by simp) _ e⟩
 item:=by
  intro X hP hw hK hc i pins s σ H E I hf st hg;subst hP hw hK;obtain⟨⟨u0,hu⟩,hlt⟩:=hg;obtain⟨ok,ov,st⟩:=st;have ho:s.heap.get? a=Ab o:=(I.hok a _ hu).1;obtain⟨u,e1,e2⟩:=QU kv (Ap hlt);refine wpAny_pyNext_items_item st (at' _ ho) e1 fun key h' hk a1 a2 a3 a4=>?_;refine⟨_,rfl,wpAny_letOwnedTupleGo_items (s:={ s with heap:=h' }) a1 fun h2 b1 b2=>?_⟩
  have up:∀ c o,c≠it→h'.get? c=Ab o→h2.get? c=Ab o:=fun c o n q=>(b2.2 c n).trans q;have el:it<s.heap.objs.size:=Ax st;have T2:=up _ _ (Fn el) a2;refine⟨.ref s.heap.objs.size,upd H s.heap.objs.size (.tup [kV (vs[i]).1,(vs[i]).2]),?_,rfl,⟨_,vs[i],rfl,I.hok.fresh (Az _),rfl,Ap hlt⟩,⟨_,_,b1⟩,fun c hc=>?_⟩
  ·have:=Inv.turnLay (s:=s) (fp:=[it]) (its:=[key,u]) (h':=h2) (xs:=[kV (vs[i]).1,(vs[i]).2]) I hf (fun c o hc q=>by
    have hc:c≠it:=by simpa using hc
    exact up c o hc (a4 c o hc q)) (fun c hc=>by
    have:c=it:=by simpa using hc
    subst this;exact⟨_,b1⟩) (Az _) (.cons (SZ hk) (.cons e2 .nil)) ⟨_,T2,rfl,_,rfl⟩ (by show 2≤sizeLine;decide)
   exact this
  ·have hn:=(hf c hc).1
   rw[qF ?_]
   ·exact hn
   ·rintro rfl
    have:s.heap.objs.size=it:=by simpa using hc
    rw[this] at el;exact absurd el (Ea _)
 done:=by
  intro X hP hw hK hc i pins s σ H E I hf st hg;subst hP hw hK;obtain⟨⟨u0,hu⟩,hle⟩:=hg;obtain⟨ok,ov,st⟩:=st;have ho:s.heap.get? a=Ab o:=(I.hok a _ hu).1;obtain⟨f0,f1,f2,f3,f4,f5⟩:=hf it (by simp)
  have hl:=kv.length;exact wpAny_pyNext_items_end (I.ok.hd hc) st (at' _ ho) (by simp;omega) fun h' eb=>⟨rfl,I.turned (t':=s.toks) (fun b o hb e=>eb b o hb e) f0 f1 f3 f4 f5⟩
 self:=fun _ _ _ _ _ st h=>by
  obtain⟨ok,ov,st⟩:=st;exact PySem.W.kcp_self st h
def tM (kvs:Aa (Key × D)):Aa D:=kvs.map fun p=>D.tup [kD p.1,p.2]
def fP (f:DE):DI:=fun env S=>(f env S).bind fun d S1=>match d with
 |.loc n=>match S1[n]? with
  |some (.dct kvs)=>.ok (tM kvs) (S1.set n .dead)
  |_=>.bad
 |_=>.bad
theorem cI {K:Ai}{P:Hp}{α:Aa Af}:∀ {kvs:Aa (Key × D)} {vs:Aa (Key × V)},KVs K P α kvs vs→∀ {i:Aj} {q:Key × D},kvs[i]? = Ab q→∃ v,vs[i]? = Ab (q.1,v)∧Rep K P α q.2 v
 |_,_,.nil,i,q,h=>by simp at h
 |_,_,.cons (a:=x) (b:=y) z t,i,q,h=>by
  cases i with
  |zero =>
   simp at h;subst h;exact⟨y.2,by simp;exact Kc z.1.symm rfl,z.2⟩
  |succ i =>
   obtain⟨v,e1,e2⟩:=cI t (i:=i) (q:=q) (by simpa using h)
   exact⟨v,by simpa using e1,e2⟩
theorem QM {K:Ai}{P:Hp}{α:Aa Af}{a:Af}{o:Cg}{u:HO}{kvs:Aa (Key × D)}(q:P a=Ab (.frz o u))(t:KVs K P α kvs vs)(hl:kvs.length=vs.length):ItD K (Iti a o vs) P α (tM kvs) where
 go:=fun i H P1 α1 S hi r e _=>⟨⟨u,r.sub _ _ (e _ _ q)⟩,by unfold tM at hi;rw[Aq] at hi;omega⟩
 yld:=fun i H x H' P1 α1 S hi r e e2 y=>by
  obtain⟨T,p,rfl,hT,rfl,hp⟩:=y;unfold tM at hi;rw[Aq] at hi;obtain⟨v,h1,h2⟩:=cI t (Ap hi);rw[hp] at h1;cases h1;obtain⟨r1,s1⟩:=r.pure (o:=.tup [kV (kvs[i]).1,v]) hT;refine⟨_,.tup [kD (kvs[i]).1,(kvs[i]).2],?_,r1,s1,?_⟩
  ·unfold tM;rw[Dg,Ap hi];rfl
  ·exact b0 (.of qQ) (.cons (MX _) (.cons (Rep.mono (e.trans s1) e2 _ _ h2) .nil))
 stop:=fun i H P1 α1 S hi r e _=>⟨⟨u,r.sub _ _ (e _ _ q)⟩,by unfold tM at hi;rw[Aq] at hi;omega⟩
section
variable {X:Cx}{o:Bp}{fo:DE}{apos cpos:Ek}{elts:Aa Bp}{x1:Aj}{tpos:Ek}
set_option tactic.hygienic true in
theorem WL (ho:PE X o (tD X fo))(hbase:OD o "items" X.env (eval o X.env)=eval o X.env:=by rfl)(hline:(apos.endLine == cpos.line)=true:=by rfl):PI X (.Tuple elts x1 tpos) (.Call (.Attribute o "items" apos) [] [] cpos) (tDI X (fP fo)):=by
 intro pins s σ H R I h;obtain⟨P,α,env,S,r,re,af⟩:=h;refine wpAny_Call_method0_late hbase hline (thn (zL ho I r re af) fun vv s1 ⟨v,H1,P1,α1,d,S1,G1,af1⟩=>?_);cases d with
 |loc n =>
  simp only at af1
  split at af1
  ·rename_i kvs hS
   have rp:=G1.rep;have I1:=G1.inv;have r1:=G1.rel;have ht:tyD (.loc n) S1=Ab "dict":=XN hS;obtain⟨h1,h2⟩:=XJ I1 G1.val (XM r1 rp ht (by simp))
   simp only[Rep] at rp;obtain⟨a,rfl,ha⟩:=rp;cases (show vv=Cb a from G1.val)
   obtain⟨vs,z,t⟩:=r1.at' n a _ ha hS;obtain⟨hz,hd,us,rel,dd⟩:=iB I1.hok z;refine⟨"dict","dict.items",Kx,Qb,PySem.F.type_dict_items,h1,h2,Qq rfl (PySem.evalArgs_none ?_)⟩;refine call_meetsIn Qb dd.typeIs PySem.F.entry_dict_items (PySem.F.args_dict_items_1 _) (meets_dict_items (zI X.prog X.w) a hd) ⟨⟨us,dd⟩,?_⟩;obtain⟨ep,oa,es,hoa,rest⟩:=dd.dictAt;have at':∀ h:Bk,h.get? a=Ab oa→h.DictAt (zI X.prog X.w) a us ep:=fun h e=>⟨oa,es,e,rest⟩;obtain⟨r2,e2⟩:=r1.still (o:=.frz oa (.dK vs)) ha hS (by intro q;cases q)
   have I2:Inv X pins σ (upd H1 a (.frz oa (.dK vs))) { s1 with heap:=s1.heap,toks:=s1.toks }:=I1.write (x:=a) (e:=a) (by rw[z];exact Gm) (.inl rfl) (fun b q hb e=>e) ⟨oa,hoa⟩ ⟨hoa,hz,hd,us,rel,dd⟩
   have I3:=I2.kept (t':=s1.toks) (h':=s1.heap.push { cls:=.type "dict_items",data:=.fields #[.ref a] }) fun b u e=>Ah _ e;refine wpAny_pyIter_items (s:={ s1 with heap:=s1.heap.push { cls:=.type "dict_items",data:=.fields #[.ref a] } }) (knd:=zI X.prog X.w) (d:=a) (kvs:=us) (ep:=ep) ⟨_,Ba _ rfl,rfl,rfl⟩ (at' _ (Ah _ hoa)) ?_
   have I4:=I3.kept (t':=s1.toks) (h':=(s1.heap.push { cls:=.type "dict_items",data:=.fields #[.ref a] }).push { cls:=.type "dict_itemiterator",data:=.fields #[.none,.bool false,.ref a,.int 0 0,.int us.length 0,.int ep 0,.none,.none] }) fun b u e=>Ah _ e;refine⟨_,[_],_,_,_,rfl,I4,o3 rel at',⟨_,_,Ba _ rfl⟩,fun b hb=>?_,af1 _ _ _ α1 r2 (G1.same.trans e2) G1.pre (QM (u:=.dK vs) qQ (KVs.mono e2 (Bb _) t) (by have:=cL t;have:=this.length;simpa using this))⟩
   have e:b=(s1.heap.push { cls:=.type "dict_items",data:=.fields #[.ref a] }).objs.size:=by simpa using hb
   subst e;exact I3.fpOk (Az _) (I3.hok.fresh (Az _))
  ·exact An af1
 |_=>exact An af1
theorem VC (ho:QE X o fo)(hbase:OD o "items" X.env (eval o X.env)=eval o X.env:=by rfl)(hline:(apos.endLine == cpos.line)=true:=by rfl):QI X (.Tuple elts x1 tpos) (.Call (.Attribute o "items" apos) [] [] cpos) (fP fo):=⟨WL ho.1 hbase hline⟩
end
def fS (d:D)(S:Sto):Am (Aa (Key × D)):=match d with
 |.loc n=>match S[n]? with
  |some (.dct kvs)=>Ab kvs
  |_=>none
 |_=>none
def bU:G2:=fun a b S=>match fS a S,wX b with
 |some kvs,Ab k=>match zP kvs k with
  |some d=>.ok d S
  |none=>.bad
 |_,_=>.bad
section
variable {X:Cx}{pins:Aa (Af × Cg)}{σ : _L.St}{H P:Hp}{α : Aa Af}{S:Sto}{s:Ag}
set_option tactic.hygienic true in
theorem oV (r:Rel X.K H P α S){d:D}{kvs:Aa (Key × D)}{v:V}(h:fS d S=Ab kvs)(p:Rep X.K P α d v):∃ a ws,v=.ref a∧H a=Ab (.dK ws)∧KVs X.K P α kvs ws:=by
 unfold fS at h
 split at h
 ·split at h
  ·rename_i hS
   cases h;simp only[Rep] at p;obtain⟨b,rfl,q⟩:=p;obtain⟨ws,z,t⟩:=r.at' _ b _ q hS;exact⟨b,ws,rfl,z,t⟩
  ·cases h
 ·cases h
set_option tactic.hygienic true in
theorem FO {o i:Bp}{fo fi:DE}{pos:Ek}(hu:X.A.units+1<Ex)(ho:PE X o (tD X fo))(hi:PE X i (tD X fi))(hs:XY i:=by intro _ _;rfl):PE X (.Subscript o i pos) (tD X (d2 bU fo fi)):=by
 intro pins s σ H Q I h;obtain⟨P,α,env,S,r,re,af⟩:=h;refine BD PySem.F.slot_dict_getitem.lookup hs (thn (zL ho I r re af) fun vv s1 ⟨v,H1,P1,α1,a,S1,G1,af1⟩=>?_);refine thn (zL hi G1.inv G1.rel G1.env (P:=P1) (α:=α1) (Ok:=OkV X P1 α1 Q) (g:=fun y S2=>bU a y S2) (qV.base G1.same G1.pre af1)) fun uu s2 ⟨u,H2,P2,α2,b,S2,G2,af2⟩=>?_;have pa:=Rep.mono G2.same G2.pre _ _ G1.rep;have pb:=G2.rep;have I2:=G2.inv;have r2:=G2.rel;have af3:=qV.base G2.same G2.pre af2;unfold bU at af3
 split at af3
 ·rename_i kvs k hd hk
  split at af3
  ·rename_i d hv
   obtain⟨p,ws,rfl,z,t⟩:=oV r2 hd pa;have ei:=m8 hk pb;subst ei;cases (show vv=Cb p from G1.val)
   obtain⟨w,h1,h2⟩:=(pL t).1 d hv;have g:kF H2 p (kV k) (Ab w):=.inl ⟨_,k,.inl z,rfl,h1.symm⟩;exact⟨eF I2 g,oT hu I2 g G2.val fun w' s3 I3 rw'=>⟨w,H2,I3,rw',xr af3 r2 h2⟩⟩
  ·exact An af3
 ·exact An af3
end
def tH:G2:=fun a b S=>match fS b S,wX a with
 |some kvs,Ab k=>.ok (.bl (zP kvs k).isSome) S
 |_,_=>.bad
section
variable {X:Cx}
set_option tactic.hygienic true in
theorem N6 (hu:X.A.units+1<Ex):OpD X (Dc .In) tH:=by
 intro pins σ H s P α S v u vv uu a b Q I r rv ru pa pb af;unfold tH at af
 split at af
 ·rename_i kvs k hd hk
  obtain⟨p,ws,rfl,z,t⟩:=oV r hd pb;have ei:=m8 hk pa;subst ei;cases (show uu=Cb p from ru)
  obtain⟨k1,k2⟩:=pL (k:=k) t;have g:kF H p (kV k) (yB ws k):=.inl ⟨_,k,.inl z,rfl,rfl⟩;refine HN hu I g rv fun s' I'=>⟨.bl _,H,I',rfl,?_⟩;cases hv:zP kvs k with
  |none=>rw[hv] at af;rw[k2 hv];exact xr af r (by simp only[Rep];rfl)
  |some d =>
   obtain⟨w',e1,e2⟩:=k1 d hv;rw[hv] at af;rw[e1];exact xr af r (by simp only[Rep];rfl)
 ·exact An af
end
section
variable {X:Cx}{cm:Ar}{k:Aj}{o i:Bp}{fo fi:DE}{pos:Ek}
theorem L7 (hr:RoomC cm k X.A)(ho:QE X o fo)(hi:QE X i fi)(hs:XY i:=by intro _ _;rfl):QE X (.Subscript o i pos) (d2 bU fo fi):=⟨FO (hu1 hr) ho.1 hi.1 hs⟩
end
section
variable {X:Cx}{cm:Ar}{k:Aj}{e ei ek:Bp}{fe fi fk:DE}{p2 pos:Ek}
theorem EN (hr:RoomC cm k X.A):ZOp X (Dc .In) tH:=⟨N6 (hu1 hr)⟩
end
def fF:D→Sto→Am (Aa D)
 |.lst xs,_=>Ab xs
 |.tup xs,_=>Ab xs
 |.loc n,S=>match S[n]? with
  |some (.lst xs)=>Ab xs
  |_=>none
 |_,_=>none
def w5 (mu:Ar)(f:DE):DE:=fun env S=>(f env S).bind fun d S1=>match (fF d S1).bind uW with
 |some ys=>if mu then .ok (.loc S1.length) (S1++[.lst ys]) else .ok (.lst ys) S1
 |none=>.bad
section
variable {X:Cx}{pins:Aa (Af × Cg)}{σ : _L.St}{H P:Hp}{α : Aa Af}{S:Sto}{s:Ag}
theorem bG {K:Type}{is:K→Ac→Prop}{hash:K→Al}{lt':K→K→Ar}{d:K}{Fit:K→Prop}(kd:_S.Kind X.prog X.w is hash lt' d Fit s.heap)(ad:_S.AddS X.prog X.w is hash s.heap)(hc:X.calm=true)(hu:X.A.units+64<Ex)(I:Inv X pins σ H s)(r:Rel X.K H P α S){a:Af}{its:Aa Ac}
  (ha:s.heap.IsList a its.toArray∨s.heap.IsTuple a its.toArray) (ks:Aa K) (hl:ks.length=its.length) (hk:∀ i v,its[i]? = Ab v→is (ks.getD i d) v) (hn:(_S.srt lt' ks).length≤63) (hf:∀ k∈ks,Fit k) (enc:K→D)
  (back:∀ k v,is k v→v∈its→∃ vv,qL vv v∧Rep X.K P α (enc k) vv) {E:Ac→Ag→Prop} :
  Ao (Au X.prog X.w) X.A (call (.type "set") [.ref a]) (fun u s1=>Ao (Au X.prog X.w) X.A (call (.builtin "sorted") [u]) (NewR X pins σ H P α ((_S.srt lt' ks).map enc)) E s1) E s:=by
 have hsz:its.toArray.size=ks.length:=by rw[Aw,hl]
 have mem:∀ k,k∈_S.srt lt' ks↔k∈ks:=fun k=>_S.vK kd.ord k ks;have inn:∀ i,i<ks.length→ks.getD i d∈ks:=fun i hi=>by simp[IZ,hi]
 refine _S.i3 (U:=_S.srt lt' ks) ad (I.ok.hd hc) om ha (fun i=>ks.getD i d) (fun i v hv=>hk i v (by simpa using hv)) om (fun i hi=>(mem _).mpr (inn i (by rw[← hsz];exact hi))) fun h1 tk1 Z kp=>?_
 have seen:∀ k∈_S.y8 (fun i=>ks.getD i d) its.toArray.size,k∈ks:=fun k hk'=>by
  obtain⟨i,hi,rfl⟩:=_S.j9.mp hk';exact inn i (by rw[← hsz];exact hi)
 have I1:Inv X pins σ H { s with heap:=h1,toks:=tk1 }:=I.kept kp
 refine _S.iZ (s:={ s with heap:=h1,toks:=tk1 }) kd (I.ok.hd hc) om kp Z (fun k hk'=>hf k (seen k hk')) (U:=_S.srt lt' ks) om (fun k hk'=>(mem k).mpr (seen k hk')) fun h2 tk2 D c ps kp2 hD hob hps hp hpl=>?_
 rw[hsz,VX kd.ord] at hps;have vv:∀ (ps:Aa (K × Ac)),(∀ p∈ps,is p.1 p.2∧p.2∈its)→∃ vs,qJ vs (ps.map (·.2))∧qD X.K P α ((ps.map (·.1)).map enc) vs:=by
  intro ps
  induction ps with
  |nil=>exact fun _=>⟨[],.nil,.nil⟩
  |cons p ps ih =>
   intro h;obtain⟨vs,a1,a2⟩:=ih fun q hq=>h q (by simp[hq])
   obtain⟨v,b1,b2⟩:=back p.1 p.2 (h p (by simp)).1 (h p (by simp)).2
   exact⟨v::vs,.cons b1 a1,.cons b2 a2⟩
 obtain⟨vs,a1,a2⟩:=vv ps fun p hpm=>by simpa using hp p hpm
 rw[hps] at a2;have nd:([(D,HO.lst vs)].map (·.1)).Nodup:=by simp
 have I2:Inv X pins σ (jM H [(D,HO.lst vs)]) { s with heap:=h2,toks:=tk2 }:=Inv.laidL (s:={ s with heap:=h1,toks:=tk1 }) (L:=[(D,HO.lst vs)]) (t':=tk2) I1 kp2 (fun p hpm=>by
  have:p=(D,HO.lst vs):=by simpa using hpm
  subst this;exact hD) fun p hpm=>by
  have:p=(D,HO.lst vs):=by simpa using hpm
  subst this;refine⟨?_,ps.map (·.2),c,a1,hob⟩
  have:=a1.length;rw[Aq] at this;rw[this,Ew];omega
 exact⟨D,vs,rfl,I1.hok.fresh hD,I2,a2⟩
set_option tactic.hygienic true in
theorem B6 {d:D}{xs:Aa D}{v:V}{vv:Ac}(I:Inv X pins σ H s)(r:Rel X.K H P α S)(p:Rep X.K P α d v)(q:qL v vv)(h:fF d S=Ab xs) :
  ∃ a vs its,vv=.ref a∧qD X.K P α xs vs∧qJ vs its∧(s.heap.IsList a its.toArray∨s.heap.IsTuple a its.toArray)∧xs.length=its.length:=by
 cases d with
 |lst ys=>exact rR I r p q h
 |tup ys=>exact rR I r p q h
 |loc n =>
  have hS:S[n]? = Ab (.lst xs):=by
   have h:(match S[n]? with|some (.lst xs)=>Ab xs|_=>none)=Ab xs:=h
   split at h
   ·rename_i e;cases h;exact e
   ·cases h
  simp only[Rep] at p;obtain⟨a,rfl,ha⟩:=p;cases (show vv=Cb a from q)
  obtain⟨vs,z,t⟩:=r.at' n a _ ha hS;obtain⟨its,rv,p,hz⟩:=I.list (SqL.of z);exact⟨a,vs,its,rfl,t,rv,.inl p.isList,by rw[t.length,rv.length]⟩
 |_=>cases h
end
section
variable {X:Cx}{e:Bp}{fa:DE}{p1 p2 pos1 pos2:Ek}{mu:Ar}
set_option tactic.hygienic true in
theorem eE (hc:X.calm=true)(hu:X.A.units+64<Ex)(hg:Gl X "sorted")(hm:X.mg "sorted" = none)(hg2:Gl X "set")(hm2:X.mg "set" = none)(ha:PE X e (tD X fa))(he:Bi [e] X.env=(false,eval e X.env)::Bi [] X.env:=by rfl) :
  PE X (.Call (.Name "sorted" p1) [.Call (.Name "set" p2) [e] [] pos2] [] pos1) (tD X (w5 mu fa)):=by
 intro pins s σ H Q I h;obtain⟨P,α,env,S,r,re,af⟩:=h;refine Hb (vT I hg hm oG ?_);refine Mf ?_ rfl rfl;refine Ko ?_;refine Call_ (vT I hg2 hm2 W0 (Go ?_ he rfl));rw[he];refine Ko (thn (zL ha I r re af) fun vv s1 ⟨v,H1,P1,α1,d,S1,G1,af1⟩=>Oy ?_);cases hq:(fF d S1).bind uW with
 |none=>simp only[hq] at af1;exact An af1
 |some ys =>
   simp only[hq] at af1;obtain⟨xs,hd,hs⟩:=Eh.mp hq;obtain⟨a,vs,its,rfl,t1,rv1,e1,l1⟩:=B6 G1.inv G1.rel G1.rep G1.val hd;have main:Ao (Au X.prog X.w) X.A (call (.type "set") [.ref a]) (fun u s1=>Ao (Au X.prog X.w) X.A (call (.builtin "sorted") [u]) (NewR X pins σ H1 P1 α1 ys) X.xe s1) X.xe s1:=by
    unfold uW at hs;cases hi:xR xs with
    |some ns =>
     rw[hi] at hs;dsimp only at hs
     split at hs
     ·rename_i hlt
      cases hs;have:=uN hi;subst this;have:=yQ t1;subst this;refine bG (d:=0) (_S.UP X.prog X.w s1.heap) (_S.BZ s1.heap) hc hu G1.inv G1.rel e1 ns (by simpa using l1) (fun i u hu'=>?_) hlt (fun _ _=>trivial) D.int fun k u hk _=>?_
      ·have hi:Ip its ns:=by simpa using kR rv1
       obtain⟨t,rfl⟩:=Ny hi i u hu';exact Tk _ _ _ _
      ·obtain⟨t,rfl⟩:=_S.wK hk
       exact⟨.int k,⟨t,rfl⟩,by simp only[Rep]⟩
     ·cases hs
    |none =>
     rw[hi] at hs;dsimp only at hs;cases ht:xW xs with
     |none=>rw[ht] at hs;cases hs
     |some ks =>
      rw[ht] at hs;dsimp only at hs
      split at hs
      ·rename_i hlt
       cases hs;have hlt':=EQ.mp hlt;have:=fK ht;subst this;have at':∀ (i:Aj) (u:Ac),its[i]? = Ab u→∃ b,u=.ref b∧Ng (Bd X.prog X.w) s1.heap (ks.getD i []) b∧∃ vv,qL vv u∧Rep X.K P1 α1 (tpD (ks.getD i [])) vv:=fun i u hu'=>by
        have hii:i<its.length:=(Av.mp hu').1;have hik:i<ks.length:=by rw[Aq] at l1;omega
        obtain⟨v,p,q,_⟩:=vE t1 rv1 (j:=i) (by rw[Aw];exact hii)
        have hd:(ks.map tpD).getD i D.non=tpD (ks.getD i []):=by simp[IZ,hik]
        rw[hd] at p;have hu2:its.toArray[i]'(by rw[Aw];exact hii)=u:=by
         rw[Ap hii] at hu';simpa using hu'
        rw[hu2] at q;obtain⟨b,ws,us,rfl,sq,t,rv,⟨o,ho,hcl,m,hd⟩,_,_⟩:=vY G1.inv G1.rel (show Rep X.K P1 α1 (.tup ((ks.getD i []).map D.int)) v from p)
        cases (show u=Cb b from q)
        have:=yQ t;subst this;exact⟨b,rfl,⟨o,us.toArray,m,ho,hcl,hd,by simpa using tL rv⟩,.ref b,rfl,p⟩
       refine bG (d:=[]) (_S.UQ X.prog X.w s1.heap) (_S.F0 s1.heap) hc hu G1.inv G1.rel e1 ks (by simpa using l1) (fun i u hu'=>?_) (Bw hlt'.1) (fun k hk=>?_) tpD fun k u hk hm'=>?_
       ·obtain⟨b,rfl,q,_⟩:=at' i u hu'
        exact⟨b,rfl,q⟩
       ·have:=Bq.mp hlt'.2 k hk
        intro z;subst z;cases this
       ·obtain⟨i,hi',rfl⟩:=De.mp hm'
        obtain⟨b,eb,q,w,rw',pw⟩:=at' i _ (Ap hi');have:k=ks.getD i []:=_S.isT.inj hk ⟨b,eb,q⟩;rw[this];exact⟨w,rw',pw⟩
      ·cases hs
   refine thn main fun u s2 h2=>Oy (thn h2 fun u' s3 ⟨D,vs',e,hn,I',rp'⟩=>?_);subst e;cases mu with
   |true=>exact⟨.ref D,_,I',rfl,pR G1.rel hn rp' fun v' H' P' α' r' e1 e2 rp=>af1 v' H' P' α' r' (G1.same.trans e1) (G1.pre.trans e2) rp⟩
   |false=>exact⟨.ref D,_,I',rfl,wA G1.rel hn rp' fun v' H' P' α' r' e1 e2 rp=>af1 v' H' P' α' r' (G1.same.trans e1) (G1.pre.trans e2) rp⟩
end
section
variable {X:Cx}{cm:Ar}{k:Aj}{e:Bp}{fa:DE}{p1 p2 pos1 pos2:Ek}{mu:Ar}
theorem eP (hc:X.calm=true)(hr:RoomC cm k X.A)(hg:Gl X "sorted")(hm:X.mg "sorted" = none)(hg2:Gl X "set")(hm2:X.mg "set" = none)(ha:QE X e fa)(he:Bi [e] X.env=(false,eval e X.env)::Bi [] X.env:=by rfl) :
  QE X (.Call (.Name "sorted" p1) [.Call (.Name "set" p2) [e] [] pos2] [] pos1) (w5 mu fa):=⟨eE hc hr.units hg hm hg2 hm2 ha.1 he⟩
end
end _D
namespace _D
open PySem
variable {cap:Aa (Am Aj)}{kvs:Aa (_L.Key × D)}{ds xs:Aa D}{v:Ac}{n p M:Aj}{a b:Al}{lo hi:Am Al}{F:DF}{S1 S':Sto}{env':qG}
def Ok {β:Type}(r:Res β)(Q:β→Sto→Prop):Prop:=∃ d S,r=.ok d S∧Q d S
theorem z0 {β:Type}{r:Res β}{Q:β→Sto→Prop}{d:β}{S:Sto}(h:r=.ok d S)(q:Q d S):Ok r Q:=⟨d,S,h,q⟩
theorem YD {fe:DE}{env:qG}{S:Sto}{acc:Aa D}{x:D}(h:fe env S=.ok x S1)(hl:acc.length<lim):zT fe env S acc=.ok (env,acc++[x]) S1:=by
 unfold zT;rw[h];simp[Res.bind,hl]
theorem oS {fi:DI2}{g:DG}{t:DT}{k:DK}{env:qG}{S:Sto}{o:Am (Aj × MO)}{items:Aa D}(h:fi env S=.ok (o,items) S1)(e:goL o g t k items (wH cap env) S1 [] = .ok (env',ds) S'):zE false cap fi g t k env S=.ok (.lst ds) S':=by
 unfold zE;rw[h];simp only[Res.bind,e,mkM];rfl
theorem pI {S:Sto}{i:Aj}{m:MO}(h:S[i]? = Ab m)(e:S<+:S'):S'[i]? = Ab m:=by
 obtain⟨r,rfl⟩:=e;rw[Bg (Av.mp h).1];exact h
theorem goT {α:Type}{enc:α→D}{o:Am (Aj × MO)}{g:DG}{t:DT}{k:DK}(out:α→Aa D)(C:qG→Sto→Prop)(hC:∀ env S,C env S→stn o S) :
  ∀ (xs:Aa α) (env:qG) (S:Sto) (acc:Aa D),C env S→acc.length+(xs.flatMap out).length≤lim →
  (∀ x∈xs,∀ env S acc,C env S→acc.length+(out x).length≤lim→∃ env1 S1 b S2,g (enc x) env S=.ok env1 S1∧t env1 S1=.ok b S2∧((b=false∧out x=[]∧C env1 S2)∨(b=true∧∃ env3 S3,k env1 S2 acc=.ok (env3,acc++out x) S3∧C env3 S3))) →
  ∃ env' S',goL o g t k (xs.map enc) env S acc=.ok (env',acc++xs.flatMap out) S'∧C env' S'
 |[],env,S,acc,h,hl,_=>⟨env,S,by simp[goL,uX.mpr (hC _ _ h)],h⟩
 |x::xs,env,S,acc,h,hl,step=>by
  rw[Lj,Ca] at hl;obtain⟨env1,S1,b,S2,e1,e2,r⟩:=step x (Cn ..) env S acc h om;have hst:=uX.mpr (hC _ _ h);rcases r with⟨rfl,h0,h2⟩|⟨rfl,env3,S3,e3,h3⟩
  ·obtain⟨env',S',e,q⟩:=goT out C hC xs env1 S2 acc h2 om fun d hd=>step d (By _ hd)
   refine⟨env',S',?_,q⟩;simp only[Dv,goL,hst,Eb,e1,e2,Res.bind,Br,DL,Lj,h0,Hi];exact e
  ·obtain⟨env',S',e,q⟩:=goT out C hC xs env3 S3 (acc++out x) h3 (by rw[Ca];omega) fun d hd=>step d (By _ hd)
   refine⟨env',S',?_,q⟩;simp only[Dv,goL,hst,Eb,e1,e2,Res.bind,e3,Lj];rw[e,Gr]
theorem fO {f1:DE}{env:qG}{S:Sto}{a:D}(h1:f1 env S=.ok a S1):qO 1 F (qA f1 (qB)) env S=F [a] S1:=by
 simp only[qO,qA,qB,h1,Res.bind,Cj,Et,Eb]
theorem FG {f1:DE}{env:qG}{S:Sto}{a:D}(h1:f1 env S=.ok a S1):qA f1 (qB) env S=.ok [a] S1:=by
 simp only[qA,qB,h1,Res.bind]
theorem eB {env:qG}{i:Aj}{d:D}{S:Sto}(h:env[i]? = Ab (Ab d)):qC i env S=.ok d S:=by simp only[qC,h]
theorem oF {α:Type}(p:α→Ar)(l:Aa α) : zX (l.map fun x=>D.bl (p x))=Ab (l.map p):=by
 induction l with
 |nil=>rfl
 |cons x l ih =>
  show (zX (l.map fun x=>D.bl (p x))).map (p x::·)=_
  rw[ih];rfl
section
variable {β γ:Type}{env:qG}{S:Sto}
theorem qW {r:Res β}{k:β→Sto→Res γ}{Q:γ→Sto→Prop}(h:Ok r fun d S1=>Ok (k d S1) Q):Ok (r.bind k) Q:=by
 obtain⟨d,S1,rfl,h⟩:=h;exact h
theorem xU {r:Res β}{d:β}(h:Ok r fun d' S'=>d'=d∧S'=S):r=.ok d S:=by
 obtain⟨_,_,e,rfl,rfl⟩:=h;exact e
theorem zD {r:Res β}{Q Q':β→Sto→Prop}(h:Ok r Q)(k:∀ d S,Q d S→Q' d S):Ok r Q':=by
 obtain⟨d,S,e,q⟩:=h;exact⟨d,S,e,k d S q⟩
variable {Q:D→Sto→Prop}{f g:DE}{fa:DA}{o:G2}{i j:Aj}
theorem o_c {d:D}(h:Q d S):Ok (dC d env S) Q:=⟨_,_,rfl,h⟩
theorem o_v {d:D}(e:env[i]? = Ab (Ab d))(h:Q d S):Ok (qC i env S) Q:=⟨_,_,eB e,h⟩
theorem o_2 (h:Ok (f env S) fun a S1=>Ok (g env S1) fun b S2=>Ok (o a b S2) Q):Ok (d2 o f g env S) Q:=qW (zD h fun _ _=>qW)
theorem o_1 {u:D→Sto→Res D}(h:Ok (f env S) fun a S1=>Ok (u a S1) Q):Ok (d1 u f env S) Q:=qW h
theorem dB {Q:Aa D→Sto→Prop}(h:Q [] S):Ok (qB env S) Q:=⟨_,_,rfl,h⟩
theorem jU {Q:Aa D→Sto→Prop}(h:Ok (f env S) fun a S1=>Ok (fa env S1) fun as S2=>Q (a::as) S2):Ok (qA f fa env S) Q:=qW (zD h fun _ _ k=>qW (zD k fun _ _ q=>⟨_,_,rfl,q⟩))
theorem AV (h:Ok (fa env S) fun as S1=>as.length≤lim∧Q (.tup as) S1):Ok (qN fa env S) Q:=qW (zD h fun _ _ k=>⟨_,_,Bh k.1,k.2⟩)
theorem RK (h:Ok (fa env S) fun as S1=>as.length≤lim∧Q (.lst as) S1):Ok (zG fa env S) Q:=qW (zD h fun _ _ k=>⟨_,_,Bh k.1,k.2⟩)
theorem AC (h:Ok (fa env S) fun as S1=>as.length≤lim∧Q (.loc S1.length) (S1++[.lst as])):Ok (j6 fa env S) Q:=qW (zD h fun _ _ k=>⟨_,_,Bh k.1,k.2⟩)
theorem AK (h:Q (.loc S.length) (S++[.dct []])) : Ok (sF env S) Q:=⟨_,_,rfl,h⟩
theorem A8 (h:Q .dct0 S):Ok (lZ env S) Q:=⟨_,_,rfl,h⟩
theorem ZH (h:Ok (fa env S) fun as S1=>as.length=n∧Ok (F as S1) Q):Ok (qO n F fa env S) Q:=qW (zD h fun _ _ k=>by rw[Bh k.1];exact k.2)
theorem AQ {as:Aa D}(h:Ok (F as S) Q):Ok (okO F as S) Q:=by
 obtain⟨d,S1,e,q⟩:=h;exact⟨d,S1,NB e,q⟩
theorem IC (h:Ok (fa env S) fun as S1=>Ok (F as S1) Q):Ok (qK F fa env S) Q:=qW h
theorem AJ (h:Q (.int (a+b)) S):Ok (qU (.int a) (.int b) S) Q:=⟨_,_,rfl,h⟩
theorem vV {a b:Aa D}(l:a.length+b.length≤lim)(h:Q (.tup (a++b)) S):Ok (qU (.tup a) (.tup b) S) Q:=⟨_,_,Bh l,h⟩
theorem w4 {a b:Aa D}(l:a.length+b.length≤lim)(h:Q (.lst (a++b)) S):Ok (qU (.lst a) (.lst b) S) Q:=⟨_,_,Bh l,h⟩
theorem AU (h:Q (.int (a-b)) S):Ok (zW (.int a) (.int b) S) Q:=⟨_,_,rfl,h⟩
theorem AO (h:Q (.int (-a)) S):Ok (jI (.int a) S) Q:=⟨_,_,rfl,h⟩
theorem AN (l : -(2 ^ 64)<a∧a<2 ^ 64)(h:Q (.int (a*b)) S):Ok (zN (.int a) (.int b) S) Q:=by
 refine⟨_,_,?_,h⟩;unfold zN i2;rw[dX];unfold dW;simp only[l,and_self,decide_true,Yt,Eb]
theorem AM (l:0<b)(h:Q (.int (a % b)) S):Ok (jH (.int a) (.int b) S) Q:=by
 refine⟨_,_,?_,h⟩;unfold jH i2;simp[l]
theorem AL (l:0<b∧b<1073741824)(h:Q (.int (a/b)) S):Ok (bT (.int a) (.int b) S) Q:=by
 refine⟨_,_,?_,h⟩;unfold bT i2 F6;simp[l]
theorem IJ (h:Q (.bl (decide (a<b))) S):Ok (gLt (.int a) (.int b) S) Q:=⟨_,_,rfl,h⟩
theorem II (h:Q (.bl (decide (a≤b))) S):Ok (gLe (.int a) (.int b) S) Q:=⟨_,_,rfl,h⟩
theorem IG (h:Q (.bl (decide (b≤a))) S):Ok (gGe (.int a) (.int b) S) Q:=⟨_,_,rfl,h⟩
theorem TU (h:Q (.bl (decide (a=b))) S):Ok (gEq (.int a) (.int b) S) Q:=⟨_,_,by kernel_rfl!,h⟩
theorem IK (h:Q (.bl (!decide (a=b))) S):Ok (gNe (.int a) (.int b) S) Q:=⟨_,_,by kernel_rfl!,h⟩
theorem pV {a:Aa D}{k:Al}{d:D}(e:_L.atI a k=Ab d)(h:Q d S):Ok (gIx (.tup a) (.int k) S) Q:=⟨d,S,by show _D.vG (_L.atI a k) S=_;rw[e];rfl,h⟩
theorem dA {a:Aa D}{k:Al}{d:D}(e:_L.atI a k=Ab d)(h:Q d S):Ok (gIx (.lst a) (.int k) S) Q:=⟨d,S,by show _D.vG (_L.atI a k) S=_;rw[e];rfl,h⟩
theorem AB {a:Aa D}(h:Q (.int a.length) S):Ok (xP [.tup a] S) Q:=⟨_,_,rfl,h⟩
theorem AA {a:Aa D}(h:Q (.int a.length) S):Ok (xP [.lst a] S) Q:=⟨_,_,rfl,h⟩
theorem AF {a:Aa D}(h:Q (.tup a) S):Ok (yD [.lst a] S) Q:=⟨_,_,rfl,h⟩
theorem AD {a:Aa D}(h:Q (.lst a) S):Ok (fU [.tup a] S) Q:=⟨_,_,rfl,h⟩
theorem d9 (h:Ok (f env S) fun d S1=>∃ b,d=.bl b∧(b=true→Ok (g env S1) Q)∧(b=false→Q (.bl false) S1)):Ok (kI f g env S) Q:=qW (zD h fun d S1 ⟨b,e,k1,k2⟩=>by
 subst e;cases b with
 |true=>exact k1 rfl
 |false=>exact⟨_,_,rfl,k2 rfl⟩)
theorem IR {fl fh:DO}(h:Ok (f env S) fun d S1=>Ok (fl env S1) fun lo S2=>Ok (fh env S2) fun hi S3=>Ok (gSl d lo hi S3) Q):Ok (dSl f fl fh env S) Q:=qW (zD h fun _ _ k=>qW (zD k fun _ _=>qW))
theorem AS {a:Aa D}(h:Q (.tup (zS a lo hi)) S):Ok (gSl (.tup a) lo hi S) Q:=⟨_,_,rfl,h⟩
theorem AR {a:Aa D}(h:Q (.lst (zS a lo hi)) S):Ok (gSl (.lst a) lo hi S) Q:=⟨_,_,rfl,h⟩
theorem ID {Q:Am Al→Sto→Prop}(h:Q none S):Ok (xI env S) Q:=⟨_,_,rfl,h⟩
theorem IE {Q:Am Al→Sto→Prop}(h:Ok (f env S) fun d S1=>∃ k,d=.int k∧Q (Ab k) S1):Ok (zR f env S) Q:=qW (zD h fun _ _ ⟨_,e,q⟩=>by subst e;exact⟨_,_,rfl,q⟩)
theorem IB {T:Ed}{m:D→Aa D→Sto→Res D}(h:Ok (f env S) fun a S1=>tyD a S1=Ab T∧Ok (fa env S1) fun as S2=>Ok (m a as S2) Q):Ok (dBm T m f fa env S) Q:=qW (zD h fun _ _ k=>by rw[k.1,Bh (by simp)];exact qW k.2)
theorem ZG {a b:D}{ys:Aa D}(e1:lstM a S=Ab xs)(e2:lstM b S=Ab ys)(l:xs.length+ys.length≤lim)(h:Q (.loc S.length) (S++[.lst (xs++ys)])):Ok (kM a b S) Q:=⟨_,_,by unfold kM;rw[e1,e2];exact Bh l,h⟩
theorem TN {a b:D}{ys:Aa D}(e1:lstM a S=Ab xs)(e2:lstM b S=Ab ys)(l:xs.length+ys.length≤lim)(h:Q (.lst (xs++ys)) S):Ok (pG a b S) Q:=⟨_,_,by unfold pG;rw[e1,e2];exact Bh l,h⟩
theorem pT {d:D}(e:S[i]? = Ab (.lst xs))(l:xs.length<lim)(h:Q .non (S.set i (.lst (xs++[d])))):Ok (x9 (.loc i) [d] S) Q:=by
 refine⟨_,_,?_,h⟩;show (match S[i]? with|some (.lst xs)=>(if xs.length<lim then Res.ok D.non (S.set i (.lst (xs++[d]))) else .bad)|_=>.bad)=_
 rw[e];exact Bh l
variable {Q:Ar→Sto→Prop}{t u:DT}
theorem N2 (h:Ok (f env S) fun d S1=>∃ b,xN d S1=Ab b∧Q b S1):Ok (dTr f env S) Q:=qW (zD h fun d S1 ⟨b,e,k⟩=>by
 rw[e];exact⟨_,_,rfl,k⟩)
theorem ZI (h:Ok (t env S) fun b S1=>Q (!b) S1):Ok (vN t env S) Q:=qW (zD h fun _ _ k=>⟨_,_,rfl,k⟩)
theorem AW (h:Q true S):Ok (wM env S) Q:=⟨_,_,rfl,h⟩
theorem dD (h:Ok (t env S) fun b S1=>(b=true→Q true S1)∧(b=false→Ok (u env S1) Q)):Ok (bQ t u env S) Q:=qW (zD h fun b S1 k=>by
 cases b with
 |true=>exact⟨_,_,rfl,k.1 rfl⟩
 |false=>exact k.2 rfl)
theorem TR (h:Ok (t env S) fun b S1=>(b=true→Ok (u env S1) Q)∧(b=false→Q false S1)):Ok (lY t u env S) Q:=qW (zD h fun b S1 k=>by
 cases b with
 |true=>exact k.1 rfl
 |false=>exact⟨_,_,rfl,k.2 rfl⟩)
theorem bK {a:Aj}(h:a<xs.length):_L.atI xs (a:Al)=Ab xs[a]:=by
 have e:_L.ixN xs.length (a:Al)=Ab a:=by simp[_L.ixN];omega
 simp[_L.atI,e,h]
theorem zZ (S:Sto)(m:MO):(S++[m])[S.length]? = Ab m:=by simp
theorem gC (S:Sto)(m m':MO):(S++[m]).set S.length m'=S++[m']:=by simp
theorem jD (h:S[j]? = Ab (.lst xs)):tyD (.loc j) S=Ab "list":=by
 show (match S[j]? with|some (.lst _)=>Ab "list" | some (.dct _)=>Ab "dict" | _=>none)=_
 rw[h]
theorem R0 (h:S[j]? = Ab (.lst xs)):lstM (.loc j) S=Ab xs:=by
 show (match S[j]? with|some (.lst xs)=>Ab xs|_=>none)=_
 rw[h]
theorem pU {Q:D→Sto→Prop}{a:Aa D}{k:Aj}(h:k<a.length)(q:∀ d∈a,Q d S):Ok (gIx (.lst a) (.int (k:Al)) S) Q:=dA (bK h) (q _ (Jq h))
theorem A9 {Q:Aa D→Sto→Prop}(h:Ok (f env S) fun d S1=>∃ xs,d=.tup xs∧Q (yF xs) S1):Ok (d0 (qA f qB) env S) Q:=qW (jU (zD h fun _ _ ⟨xs,e,q⟩=>dB ⟨_,_,by rw[e];rfl,q⟩))
theorem GK {Q:Aa D→Sto→Prop}(h:Ok (f env S) fun d S1=>∃ ds,zV d=Ab ds∧Q ds S1):Ok (vS f env S) Q:=qW (zD h fun d S1 ⟨ds,e,k⟩=>⟨ds,S1,by rw[e];rfl,k⟩)
theorem UV {Q:Aa D→Sto→Prop}(h:Ok (fa env S) fun as S1=>∃ ds,p8 as=Ab ds∧Q ds S1):Ok (yJ fa env S) Q:=qW (zD h fun d S1 ⟨ds,e,k⟩=>⟨ds,S1,by rw[e];rfl,k⟩)
theorem J3 (n:Aj)(h:n≤1000000):p8 [.int (n:Al)]=Ab ((Ce n).map fun (i:Aj)=>D.int (i:Al)):=by
 unfold p8;have : -(2 ^ 62)≤(n:Al)∧(n:Al)<2 ^ 62:=⟨by omega,by omega⟩
 refine(Bh this).trans ?_;unfold wZ;rw[Em]
 congr 2
 funext i
 rw[Int.zero_add]
theorem AE {Q:Aa D→Sto→Prop}(h:Ok (f env S) fun d S1=>∃ k:Al,d=.int k∧0≤k∧k≤1000000∧Q ((Ce k.toNat).map fun (i:Aj)=>D.int (i:Al)) S1):Ok (yJ (qA f qB) env S) Q:=UV (jU (zD h fun _ _ ⟨k,e,h0,h1,q⟩=>dB ⟨_,by
 have:=J3 k.toNat om;rw[Int.toNat_of_nonneg h0] at this;rw[e,this],q⟩))
theorem kX {Q:D→Sto→Prop}{k:Al}{d:D}(e:S[i]? = Ab (.lst xs))(e':_L.atI xs k=Ab d)(h:Q d S):Ok (gIx (.loc i) (.int k) S) Q:=by
 refine⟨d,S,?_,h⟩;show (match S[i]? with|some (.lst xs)=>_D.vG (_L.atI xs k) S|_=>.bad)=_
 rw[e];show _D.vG (_L.atI xs k) S=_;rw[e'];rfl
theorem sZ {Q:D→Sto→Prop}(e:S[i]? = Ab (.lst xs))(h:Q (.int xs.length) S):Ok (xP [.loc i] S) Q:=by
 refine⟨_,_,?_,h⟩;have e':iK (.loc i) S=Ab xs.length:=by
  show (match S[i]? with|some (.lst xs)=>Ab xs.length|_=>none)=_
  rw[e]
 show (match iK (.loc i) S with|some n=>Res.ok (D.int n) S|none=>.bad)=_
 rw[e']
theorem RM {Q:D→Sto→Prop}{k:Aj}(e:S[i]? = Ab (.lst xs))(hk:k<xs.length)(hb:k<1000000)(h:Q xs[k] (S.set i (.lst (xs.eraseIdx k)))):Ok (gX (.loc i) [.int (k:Al)] S) Q:=by
 refine⟨_,_,?_,h⟩;show pW S i (fun xs=>if 0≤(k:Al)∧(k:Al)<1000000 then (match xs[(k:Al).toNat]? with|some d=>Res.ok d (S.set i (.lst (xs.eraseIdx (k:Al).toNat)))|none=>.bad) else .bad)=_
 unfold pW;rw[e];show (if 0≤(k:Al)∧(k:Al)<1000000 then _ else _)=_
 rw[Bh ⟨by omega,by omega⟩,Em,Ap hk]
theorem N0 {Q:Ow→Sto→Prop}{d:D}{n:Al}(e:S[i]? = Ab (.dct kvs))(hl:kvs.length<lim)(h:Q () (S.set i (.dct (wB kvs (.inl n) d)))):Ok (yG (.loc i) (.int n) d S) Q:=by
 refine⟨_,_,?_,h⟩;show (match S[i]? with|some (.dct kvs)=>(match wX (.int n) with|some k=>(if kvs.length<lim then Res.ok () (S.set i (.dct (wB kvs k d))) else .bad)|none=>.bad)|_=>bV (.loc i) (.int n) d S)=_
 rw[e];exact Bh hl
theorem ZJ {Q:Ow→Sto→Prop}{d:D}{n:Al}(e:S[i]? = Ab (.lst xs))(e':_L.ixN xs.length n=Ab j)(h:Q () (S.set i (.lst (xs.set j d)))):Ok (yG (.loc i) (.int n) d S) Q:=by
 refine⟨_,_,?_,h⟩;simp[yG,bV,e,e']
theorem oW (h:S[i]? = Ab (.dct kvs)):fS (.loc i) S=Ab kvs:=by
 show (match S[i]? with|some (.dct kvs)=>Ab kvs|_=>none)=_
 rw[h]
theorem RE {Q:D→Sto→Prop}{n:Al}(e:S[i]? = Ab (.dct kvs))(h:Q (.bl (zP kvs (.inl n)).isSome) S):Ok (tH (.int n) (.loc i) S) Q:=⟨_,_,by unfold tH;rw[oW e];rfl,h⟩
theorem RH {Q:D→Sto→Prop}{n:Al}{d:D}(e:S[i]? = Ab (.dct kvs))(e':zP kvs (.inl n)=Ab d)(h:Q d S):Ok (bU (.loc i) (.int n) S) Q:=by
 refine⟨d,S,?_,h⟩;unfold bU;rw[oW e];show (match zP kvs (.inl n) with|some d=>Res.ok d S|none=>.bad)=_
 rw[e']
theorem MV (h:env[i]? = Ab (Ab (.tup xs))):dIt (qC i) env S=.ok (none,xs) S:=by
 unfold dIt;rw[eB h];rfl
theorem MU (h:env[i]? = Ab (Ab (.loc j)))(e:S[j]? = Ab (.lst xs)):dIt (qC i) env S=.ok (Ab (j,.lst xs),xs) S:=by
 unfold dIt;rw[eB h];show (match S[j]? with|some (.lst xs)=>Res.ok (Ab (j,MO.lst xs),xs) S|_=>.bad)=_
 rw[e]
theorem HZ (h:n≤1000000):xT (yJ (qA (dC (.int (n:Al))) qB)) env S=.ok (none,(Ce n).map fun (i:Aj)=>D.int (i:Al)) S:=xU (qW (UV (jU (o_c (dB ⟨_,J3 n h,_,_,rfl,rfl,rfl⟩)))))
theorem sM {α:Type}(f:α→β):∀ l:Aa α,l.flatMap (fun x=>[f x])=l.map f
 |[]=>rfl
 |x::l=>by rw[Lj,sM f l];rfl
theorem vW {α:Type}{enc:α→D}{o:Am (Aj × MO)}{fi:DI2}{tg:DG}{fe:DE}{Q:D→Sto→Prop}(xs:Aa α)(val:α→D)(C:qG→Sto→Prop)(hi:fi env S=.ok (o,xs.map enc) S1)(h0:C (wH cap env) S1)(hl:xs.length≤lim)(hst:∀ env S,C env S→stn o S)
  (step:∀ x∈xs,∀ env S,C env S→Ok (tg (enc x) env S) fun env1 S1=>Ok (t env1 S1) fun b S2=>b=true∧Ok (fe env1 S2) fun d S3=>d=val x∧C env1 S3) (q:∀ env' S',C env' S'→Q (.lst (xs.map val)) S'):Ok (zE false cap fi tg t (zT fe) env S) Q:=by
 have fm:=sM val xs;obtain⟨env',S',e,c⟩:=goT (enc:=enc) (o:=o) (g:=tg) (t:=t) (k:=zT fe) (fun x=>[val x]) C hst xs (wH cap env) S1 [] h0 (by rw[fm,Aq];simpa using hl) (fun x hx env S acc hC hl=>by
  obtain⟨env1,S1,e1,b,S2,e2,rfl,d,S3,e3,rfl,c3⟩:=step x hx env S hC;exact⟨env1,S1,true,S2,e1,e2,.inr ⟨rfl,env1,S3,YD e3 (by simp at hl;omega),c3⟩⟩)
 rw[fm,Hi] at e;exact⟨_,_,oS hi e,q env' S' c⟩
theorem mD {α:Type}{Q:D→Sto→Prop}{l:Aa α}{p:α→Ar}(h:Q (.bl (l.all p)) S):Ok (jG false [.lst (l.map fun x=>.bl (p x))] S) Q:=by
 refine⟨_,_,?_,h⟩;show (match (zV (.lst (l.map fun x=>D.bl (p x)))).bind zX with|some bs=>Res.ok (D.bl (bs.all id)) S|none=>.bad)=_
 rw[show (zV (.lst (l.map fun x=>D.bl (p x)))).bind zX=Ab (l.map p) from oF p l]
 simp only[Hx];rfl
theorem TX {Q:D→Sto→Prop}{gg:G2}{a b x y:D}{z:D}(e1:vF bR S a=Ab x)(e2:vF bR S b=Ab y)(e3:gg x y (u9 S)=.ok z (u9 S))(ha:aX z=true)(h:Q z S):Ok (pP gg a b S) Q:=by
 refine⟨z,S,?_,h⟩;unfold pP;rw[e1,e2];show iL (gg x y (u9 S)) S=_;rw[e3];exact Bh ha
theorem GG {f:D→Am D}(h:∀ x∈xs,f x=Ab x):mapO f xs=Ab xs:=by
 induction xs with
 |nil=>rfl
 |cons x xs ih=>simp[mapO,h x (Cn ..),ih fun y hy=>h y (By _ hy)]
theorem rO (e:S[i]? = Ab (.lst xs))(h:∀ x∈xs,vF 19 S x=Ab x):vF bR S (.loc i)=Ab (.lst xs):=by
 show (match S[i]? with|some (.lst xs)=>(mapO (vF 19 S) xs).map D.lst|_=>none)=_
 rw[e];show (mapO (vF 19 S) xs).map D.lst=_;rw[GG h];rfl
theorem IQ {Q:qG→Sto→Prop}{h:G3}{d:D}(k:Ok (f env S) fun a S1=>Ok (g env S1) fun b S2=>Ok (h a b d S2) fun _ S3=>Q env S3):Ok (gSb f g h d env S) Q:=qW (zD k fun _ _ k=>qW (zD k fun _ _ k=>qW (zD k fun _ _ q=>⟨_,_,rfl,q⟩)))
variable {Q:qG→Sto→Prop}
theorem IL {d:D}(h:Q (env.set i (Ab d)) S):Ok (gNm i d env S) Q:=⟨_,_,rfl,h⟩
theorem CI {gs:DGs}(h:xs.length=n∧Ok (gs xs env S) Q):Ok (gTp n gs (.tup xs) env S) Q:=by
 obtain⟨d,S1,e,q⟩:=h.2;exact⟨d,S1,by show (if xs.length=n then gs xs env S else .bad)=_;rw[Bh h.1];exact e,q⟩
theorem IH (h:Q env S):Ok (uA [] env S) Q:=⟨_,_,rfl,h⟩
theorem IF {t:DG}{gs:DGs}{x:D}(h:Ok (t x env S) fun env1 S1=>Ok (gs xs env1 S1) Q):Ok (xJ t gs (x::xs) env S) Q:=qW h
def Wo (P:Out→Prop)(o:Out):Prop:=P o
def VS (g:DS)(P:Out→Prop):Out→Prop
 |.nx env S=>P (g env S)
 |o=>P o
def cD (b:Ar)(f g:DS):DS:=match b with
 |true=>f
 |false=>g
def HQ (Q:D→Sto→Prop):Out→Prop
 |.rt d S=>Q d S
 |.nx _ S=>Q .non S
 |_=>Ev
def iO {α:Type}(I:Aa α → qG→Sto→Prop)(xs:Aa α)(P:Out→Prop):Out→Prop
 |.nx env S=>I xs env S
 |.ct env S=>I xs env S
 |.bk env S=>P (.nx env S)
 |o=>P o
variable {P:Out→Prop}{sf sg:DS}{fi:DI}{tg:DG}{d:D}
theorem dN (h:Wo (VS sg P) (sf env S)):Wo P (qM sf sg env S):=by
 unfold qM;unfold Wo at h ⊢;cases e:sf env S <;> rw[e] at h <;> exact h
theorem EI (R:qG→Sto→Prop)(h:∀ P':Out→Prop,(∀ env S,R env S→Wo P' (.nx env S))→Wo P' (sf env S))(k:∀ env S,R env S→Wo P (sg env S)):Wo P (qM sf sg env S):=dN (h _ k)
theorem o8 (h:Wo P (sg env S)):Wo (VS sg P) (.nx env S):=h
theorem IT (h:Wo P (.rt d S)):Wo (VS sg P) (.rt d S):=h
theorem AH (h:Wo P (.nx env S)):Wo P (zO env S):=h
theorem gE {r:Res β}{k:β→Sto→Out}(h:Ok r fun d S1=>Wo P (k d S1)):Wo P (r.toS env k):=by
 obtain⟨d,S1,rfl,h⟩:=h;exact h
theorem AX (h:Ok (f env S) fun d S1=>Ok (tg d env S1) fun env' S2=>Wo P (.nx env' S2)):Wo P (qS f tg env S):=gE (zD h fun _ _=>gE)
theorem AG (h:Ok (f env S) fun _ S1=>Wo P (.nx env S1)):Wo P (wD f env S):=gE h
theorem JE (h:Ok (f env S) fun d S1=>Wo P (.rt d S1)):Wo P (z9 f env S):=gE h
theorem AZ (h:Ok (fa env S) fun ds S1=>∃ a b,ds=[a,b]∧Wo P (.nx ((env.set i (Ab a)).set j (Ab b)) S1)):Wo P (uU i j fa env S):=gE (zD h fun _ _ ⟨_,_,e,q⟩=>by subst e;exact q)
theorem A2 (h:Ok (t env S) fun b S1=>Wo P (cD b sf sg env S1)):Wo P (sIf t sf sg env S):=gE (zD h fun b S1 q=>by cases b <;> exact q)
theorem w_t (h:Wo P (sf env S)):Wo P (cD true sf sg env S):=h
theorem w_f (h:Wo P (sg env S)):Wo P (cD false sf sg env S):=h
theorem AY {b:Ar}(h:Wo P (cD b sg sf env S)):Wo P (cD (!b) sf sg env S):=by cases b <;> exact h
theorem xY {p:Prop}[Lc p](h1:p→Wo P (sf env S))(h2:¬ p→Wo P (sg env S)):Wo P (cD (decide p) sf sg env S):=by
 by_cases h:p
 ·rw[Cu h];exact h1 h
 ·rw[Cq h];exact h2 h
theorem EJ (h:Ok (fi env S) fun ds S1=>Wo P (uB tg sf ds env S1)):Wo P (u4 fi tg sf env S):=gE h
theorem y0 {α:Type}{enc:α→D}(I:Aa α → qG→Sto→Prop)(turn:∀ x xs env S,I (x::xs) env S→Ok (tg (enc x) env S) fun env1 S1=>Wo (iO I xs P) (sf env1 S1))(last:∀ env S,I [] env S→Wo P (.nx env S)) :
  ∀ {xs:Aa α} {env:qG} {S:Sto},I xs env S→Wo P (uB tg sf (xs.map enc) env S)
 |[],env,S,h=>last env S h
 |x::xs,env,S,h=>by
  obtain⟨env1,S1,e1,h1⟩:=turn x xs env S h;rw[Dv,uB];unfold Wo at h1 ⊢;simp only[e1,Res.toS];cases e2:sf env1 S1 with
  |nx env2 S2=>rw[e2] at h1;exact y0 I turn last h1
  |ct env2 S2=>rw[e2] at h1;exact y0 I turn last h1
  |bk env2 S2=>rw[e2] at h1;exact h1
  |rt d2 S2=>rw[e2] at h1;exact h1
  |ex c2 x2 env2 S2=>rw[e2] at h1;exact h1
  |bad=>rw[e2] at h1;exact h1
theorem BI (I:Aa D→qG→Sto→Prop)(turn:∀ x xs env S,I (x::xs) env S→Ok (tg x env S) fun env1 S1=>Wo (iO I xs P) (sf env1 S1))(last:∀ env S,I [] env S→Wo P (.nx env S)){xs:Aa D}{env:qG}{S:Sto}(h:I xs env S):Wo P (uB tg sf xs env S):=by
 have:=y0 (enc:=id) I turn last h
 rwa [Ot] at this
def whQ (I:Aj→qG→Sto→Prop)(n:Aj)(P:Out→Prop):Out→Prop
 |.nx env S=>∃ m,m<n∧I m env S
 |.ct env S=>∃ m,m<n∧I m env S
 |.bk env S=>P (.nx env S)
 |o=>P o
theorem BJ (I:Aj→qG→Sto→Prop)(turn:∀ n env S,I n env S→Ok (t env S) fun b S1=>(b=true→Wo (whQ I n P) (sf env S1))∧(b=false→Wo P (.nx env S1))){n:Aj}(hn:n<big)(h:I n env S):Wo P (mO t sf env S):=by
 have key:∀ N n env S,n<N→I n env S→Wo P (vZ t sf N env S):=by
  intro N
  induction N with
  |zero=>intro n env S h;omega
  |succ N ih =>
   intro n env S h hI;obtain⟨b,S1,e1,k1,k2⟩:=turn n env S hI;unfold vZ;rw[e1];cases b with
   |false=>exact k2 rfl
   |true =>
    have k:=k1 rfl;unfold Wo at k ⊢;simp only[Res.toS,Eb];cases e2:sf env S1 with
    |nx env2 S2=>rw[e2] at k;obtain⟨m,hm,hI2⟩:=k;exact ih m env2 S2 om hI2
    |ct env2 S2=>rw[e2] at k;obtain⟨m,hm,hI2⟩:=k;exact ih m env2 S2 om hI2
    |bk env2 S2=>rw[e2] at k;exact k
    |rt d2 S2=>rw[e2] at k;exact k
    |ex c2 x2 env2 S2=>rw[e2] at k;exact k
    |bad=>rw[e2] at k;exact k
 exact key big n env S hn h
theorem DD {I:Aj→qG→Sto→Prop}(m:Aj)(hm:m<n)(h:I m env S):Wo (whQ I n P) (.nx env S):=⟨m,hm,h⟩
theorem rP {x:D}(hs:yZ n ds=env)(h:sf env S=.ex v x env' S'):qT n sf ds S=.ex v x S':=by
 subst hs;unfold qT;rw[h];rfl
theorem MG {x:D}(h:f env S=.ex v x S'):qM (wD f) sg env S=.ex v x env S':=by
 simp only[qM,wD,h,Res.toS]
theorem MF {x:D}(h:f env S=.ex v x S'):qM (qS f tg) sg env S=.ex v x env S':=by
 simp only[qM,qS,h,Res.toS]
theorem SW {x:D}(h:t env S=.ok true S1)(k:sf env S1=.ex v x env' S'):sIf t sf sg env S=.ex v x env' S':=by
 simp only[sIf,h,Res.toS,Eb];exact k
theorem VL (v:Ac)(x:As)(env:qG)(S:Sto):jY v (qA (dC (.str x)) (qB)) env S=.ex v .non env S:=by
 unfold jY;rw[FG (show dC (.str x) env S=.ok (.str x) S from rfl)]
 show (if ([D.str x]:Aa D).length≤lim then Out.ex v D.non env S else Out.bad)=_
 exact Bh (Bj rfl)
theorem v7 {α:Type}{I:Aa α → qG→Sto→Prop}{xs:Aa α}(h:I xs env S):Wo (iO I xs P) (.nx env S):=h
theorem zC {Q:D→Sto→Prop}(hs:yZ n ds=env)(h:Wo (HQ Q) (sf env S)):Ok (qT n sf ds S) Q:=by
 subst hs;unfold qT;unfold Wo at h;cases e:sf (yZ n ds) S <;> rw[e] at h <;> first|exact⟨_,_,rfl,h⟩|exact An h
end
abbrev Pt:=Al × Al
variable {ps:Aa Pt}
def ptD (p:Pt):D:=.tup [.int p.1,.int p.2]
def yA (l:Aa Pt):D:=.tup (l.map ptD)
def kP (p:Pt):Aa Al:=[p.1,p.2]
def pK (k:Aa Al):Pt:=(k.getD 0 0,k.getD 1 0)
theorem uP (ps:Aa Pt):ps.map ptD=(ps.map kP).map tpD:=by
 rw[Gn];rfl
def ltP (p q:Pt):Ar:=_H.lexLt [p.1,p.2] [q.1,q.2]
abbrev Up (l:Aa Pt):Prop:=l.Pairwise fun p q=>ltP p q=true
def xM (ps:Aa Pt):Aa Pt:=(_S.srt _H.lexLt (ps.map kP)).map pK
theorem pD {ks:Aa (Aa Al)}(h:∀ k∈ks,k∈ps.map kP):ks.map tpD=(ks.map pK).map ptD∧(ks.map pK).map kP=ks:=by
 have e:∀ k∈ks,kP (pK k)=k:=fun k hk=>by
  obtain⟨p,_,rfl⟩:=Ci.mp (h k hk);rfl
 have e2:(ks.map pK).map kP=ks:=by
  rw[Gn]
  conv=>rhs;rw[← Ot ks]
  exact Nj e
 exact⟨by rw[uP,e2],e2⟩
theorem QP {p q:Pt}(h:kP p=kP q):p=q:=by
 injection h with h1 h2
 injection h2 with h2 _
 exact Kc h1 h2
theorem rV (ps:Aa Pt):∀ k∈_S.srt _H.lexLt (ps.map kP),k∈ps.map kP:=fun k hk=>(_S.vK _S.yK k _).mp hk
theorem vJ (ps:Aa Pt)(p:Pt):p∈xM ps↔p∈ps:=by
 unfold xM;constructor
 ·intro h
  obtain⟨k,hk,rfl⟩:=Ci.mp h;obtain⟨q,hq,rfl⟩:=Ci.mp (rV ps k hk);exact hq
 ·intro h
  exact Ci.mpr ⟨kP p,(_S.vK _S.yK _ _).mpr (Ci.mpr ⟨p,h,rfl⟩),rfl⟩
theorem aG (ps:Aa Pt):Up (xM ps):=by
 have h:=_S.p9 _S.yK (ps.map kP);rw[← (pD (rV ps)).2,Dx] at h;exact h
theorem sS {K:Type}(lt':K→K→Ar)(x:K):∀ l:Aa K,(_S.uM lt' x l).length≤l.length+1
 |[]=>by simp[_S.uM]
 |y::l=>by
  have:=sS lt' x l;unfold _S.uM
  split
  ·simp
  ·split <;> simp <;> omega
theorem nD {K:Type}(lt':K→K→Ar):∀ l:Aa K,(_S.srt lt' l).length≤l.length
 |[]=>by simp[_S.srt]
 |x::l=>by
  have h1:=sS lt' x (_S.srt lt' l);have h2:=nD lt' l;rw[_S.srt,Cj];omega
theorem fG (ps:Aa Pt):(xM ps).length≤ps.length:=by
 unfold xM;rw[Aq];exact Cr (nD _ _) (by simp)
theorem bH (ps:Aa Pt)(hl:ps.length≤63):uW (ps.map ptD)=Ab ((xM ps).map ptD):=by
 unfold uW xM;rw[← (pD (rV ps)).1];cases ps with
 |nil=>rfl
 |cons p ps =>
  have h0:xR ((p::ps).map ptD)=none:=rfl;rw[h0,uP,yT];have h2:(((p::ps).map kP).all fun k=>!k.isEmpty)=true:=by
   rw[Hx,Bq];intro q _;rfl
  have h1:(_S.srt _H.lexLt ((p::ps).map kP)).length≤63:=Cr (nD _ _) (by rw[Aq];exact hl)
  exact Bh (by rw[h2,Cu h1];rfl)
def wO (ps:Aa Pt):Aa Pt:=(_S.wN _H.lexLt (ps.map kP)).map pK
theorem aF (ps:Aa Pt):∀ k∈_S.wN _H.lexLt (ps.map kP),k∈ps.map kP:=fun k hk=>(_S.xD _).mem_iff.mp hk
theorem D0 (ps:Aa Pt):(wO ps).map kP=_S.wN _H.lexLt (ps.map kP):=(pD (aF ps)).2
theorem yS (ps:Aa Pt):(wO ps).Perm ps:=by
 have h:=(_S.xD (lt':=_H.lexLt) (ps.map kP)).map pK;rw[Gn] at h;have e:ps.map (pK∘kP)=ps:=by
  conv=>rhs;rw[← Ot ps]
  exact Nj fun q _=>rfl
 rw[e] at h;exact h
theorem aH (nd:ps.Nodup):Up (wO ps):=by
 have h:=_S.jZ _S.yK (ps.map kP);unfold _S.Nf at h;rw[← D0,Dx] at h;have nd':(wO ps).Nodup:=(yS ps).nodup_iff.mpr nd;refine(List.pairwise_and_iff.mpr ⟨h,nd'⟩).imp fun {a b} ⟨h1,h2⟩=>?_;rcases _S.yK.tri h1 with z|z
 ·exact absurd (QP z).symm h2
 ·exact z
theorem VU (ps:Aa Pt)(hl:ps.length≤63):vR (ps.map ptD)=Ab ((wO ps).map ptD):=by
 unfold wO;rw[← (pD (aF ps)).1];unfold vR;cases ps with
 |nil =>
  have e1:_S.wN _S.ltI [] = []:=Kq;have e2:_S.wN _H.lexLt [] = []:=Kq;show (if ([] : Aa Al).length≤63 then Ab ((_S.wN _S.ltI []).map D.int) else none)=_
  rw[e1];show Ab [] = Ab ((_S.wN _H.lexLt []).map tpD);rw[e2];rfl
 |cons p ps =>
  have h0:xR ((p::ps).map ptD)=none:=rfl;rw[h0,uP,yT];have h2:(((p::ps).map kP).all fun k=>!k.isEmpty)=true:=by
   rw[Hx,Bq];intro q _;rfl
  exact Bh (by rw[h2,Cu (by rw[Aq];exact hl)];rfl)
theorem IM {Q:D→Sto→Prop}{p:Pt}{S:Sto}(h:Q (.int p.1) S):Ok (gIx (ptD p) (.int 0) S) Q:=⟨_,_,rfl,h⟩
theorem IP {Q:D→Sto→Prop}{p:Pt}{S:Sto}(h:Q (.int p.2) S):Ok (gIx (ptD p) (.int 1) S) Q:=⟨_,_,rfl,h⟩
theorem dF {Q:D→Sto→Prop}{S:Sto}(l:ps.length≤63)(h:Q (.lst ((wO ps).map ptD)) S):Ok (wI [.lst (ps.map ptD)] S) Q:=by
 refine⟨_,_,?_,h⟩;show (match (Ab (ps.map ptD)).bind vR with|some ys=>Res.ok (D.lst ys) S|none=>.bad)=_
 rw[Md,VU ps l]
theorem rE (ps:Aa Pt):pl wW (.lst (ps.map ptD))=true:=by
 show ((ps.map ptD).all (pl 29))=true;rw[Hx];exact Bq.mpr fun p _=>rfl
theorem Q4:∀ (a b:Aa Pt),zK (a.map ptD) (b.map ptD)=decide (a=b)
 |[],[]=>rfl
 |[],_::_=>by simp[zK]
 |_::_,[]=>by simp[zK]
 |x::a,y::b=>by
  show ((x.1 == y.1&&(x.2 == y.2&&true))&&zK (a.map ptD) (b.map ptD))=_;rw[Q4 a b,Xe];simp[Prod.ext_iff,and_assoc]
theorem RC {Q:D→Sto→Prop}{a b:Aa Pt}{S:Sto}(h:Q (.bl (decide (a=b))) S):Ok (gEq (.lst (a.map ptD)) (.lst (b.map ptD)) S) Q:=by
 refine⟨_,_,?_,h⟩;unfold gEq;rw[rE,rE];show Res.ok (D.bl (zK (a.map ptD) (b.map ptD))) S=_;rw[Q4]
theorem YX {Q:D→Sto→Prop}{f:DE}{env:qG}{S:Sto}(h:Ok (f env S) fun d S1=>∃ ps:Aa Pt,fF d S1=Ab (ps.map ptD)∧ps.length≤63∧Q (.lst ((xM ps).map ptD)) S1):Ok (w5 false f env S) Q:=qW (zD h fun d S1 ⟨ps,e,l,q⟩=>⟨_,_,by rw[e,Md,bH ps l];rfl,q⟩)
theorem RO {Q:D→Sto→Prop}{f:DE}{env:qG}{S:Sto}(h:Ok (f env S) fun d S1=>∃ ps:Aa Pt,fF d S1=Ab (ps.map ptD)∧ps.length≤63∧Q (.loc S1.length) (S1++[.lst ((xM ps).map ptD)])):Ok (w5 true f env S) Q:=qW (zD h fun d S1 ⟨ps,e,l,q⟩=>⟨_,_,by rw[e,Md,bH ps l];rfl,q⟩)
theorem B7 {S:Sto}{a:Aj}(h:S[a]? = Ab (.lst xs)):fF (.loc a) S=Ab xs:=by
 show (match S[a]? with|some (.lst xs)=>Ab xs|_=>none)=_
 rw[h]
def InB (B:Al)(q:Pt):Prop:=-B≤q.1∧q.1≤B ∧ -B≤q.2∧q.2≤B
instance (B:Al)(q:Pt):Lc (InB B q):=by unfold InB;exact inferInstance
structure Lot (M:Aj)(l:Aa Pt):Prop where
 ne:l≠[]
 len:l.length≤M
 up:Up l
 box:∀ q∈l,InB 1000 q
theorem o7 {l:Aa Pt}(h:Up l):l.Nodup:=h.imp fun {a b} h e=>by
 subst e;rw[show ltP a a=false from _S.yK.irr _] at h
 cases h
theorem UR (ne:ps≠[])(hl:ps.length≤M)(hb:∀ q∈ps,InB 1000 q):Lot M (xM ps):=by
 refine⟨fun z=>?_,Cr (fG ps) hl,aG ps,fun q hq=>hb q ((vJ ps q).mp hq)⟩;cases ps with
 |nil=>exact ne rfl
 |cons q qs =>
  have:q∈xM (q::qs):=(vJ _ q).mpr (by simp)
  rw[z] at this;cases this
theorem iP (ne:ps≠[])(hl:ps.length≤M)(nd:ps.Nodup)(hb:∀ q∈ps,InB 1000 q):Lot M (wO ps):=by
 have p:=yS ps;refine⟨fun z=>?_,by rw[p.length_eq];exact hl,aH nd,fun q hq=>hb q (p.mem_iff.mp hq)⟩
 rw[z] at p;exact ne p.symm.eq_nil
theorem R6 {l:Aa Pt}{a:Aj}(h:Lot M l)(h2:2≤l.length):Lot M (l.eraseIdx a):=by
 have s:=Rr l a;have hl:=h.len;refine⟨fun z=>?_,Cr s.length_le hl,h.up.sublist s,fun q hq=>h.box q (s.subset hq)⟩;have:=congrArg Rg z;rw[Jo,Et] at this
 split at this <;> omega
def yE (S:Sto)(p:Aj):Prop:=∃ v f:Al,S[p]? = Ab (.lst [.int v,.int f])
theorem tX {S:Sto}(h:yE S p)(e:S<+:S'):yE S' p:=by
 obtain⟨v0,f0,hp⟩:=h;obtain⟨r,rfl⟩:=e;exact⟨v0,f0,by rw[Bg (Av.mp hp).1];exact hp⟩
structure Kp (p:Aj)(S S':Sto):Prop where
 pen:yE S' p
 len:S.length≤S'.length
 same:∀ m,m<S.length→m≠p→S'[m]? = S[m]?
theorem Kp.trans {S S2:Sto}(a:Kp p S S1)(b:Kp p S1 S2):Kp p S S2:=⟨b.pen,Cr a.len b.len,fun m hm hp=>(b.same m (Bf hm a.len) hp).trans (a.same m hm hp)⟩
theorem ZN {S:Sto}(h:yE S p):p<S.length:=by
 obtain⟨v,f,e⟩:=h;exact(Av.mp e).1
theorem Kp.pre {S:Sto}(h:yE S p)(e:S<+:S'):Kp p S S':=⟨tX h e,e.length_le,fun m hm _=>(Pa.mp e m hm).trans (Ap hm).symm⟩
theorem Kp.set {j:Aj}{S:Sto}(h:Kp p S S')(hj:S.length≤j)(m:MO)(hp:p≠j):Kp p S (S'.set j m):=by
 obtain⟨v,f,e⟩:=h.pen;exact⟨⟨v,f,by rw[Bz (Fx hp)];exact e⟩,by rw[Ql];exact h.len,fun i hi hn=>by rw[Bz om];exact h.same i hi hn⟩
end _D
local macro_rules|`(tactic|array_get_dec)=>`(tactic| first | (with_reducible first | apply _D.dN | apply _D.o8 | apply _D.AX | apply _D.o_2 | apply _D.o_c | apply _D.jU | apply _D.dB | apply _D.AJ | apply _D.AU | apply _D.AV | apply _D.RK | apply _D.ZH | apply _D.IC | apply _D.AQ | apply _D.N2 | apply _D.ZI | apply _D.A2 | apply _D.w_t | apply _D.w_f | apply _D.AY | apply _D.AH | apply _D.AG | apply _D.JE | apply _D.IT | apply _D.AZ | apply _D.EJ | apply _D.IJ | apply _D.II | apply _D.IG | apply _D.TU | apply _D.IK | apply _D.o_1 | apply _D.AO | apply _D.AB | apply _D.AA | apply _D.AF | apply _D.AD | apply _D.AC | apply _D.IR | apply _D.AS | apply _D.AR | apply _D.ID | apply _D.IE | apply _D.IB | apply _D.AK | apply _D.CI | apply _D.IF | apply _D.IH | apply _D.AW | apply _D.A8 | apply _D.IM | apply _D.IP | apply _D.IQ | apply _D.A9 | apply _D.GK | apply _D.AE) | ((with_reducible apply _D.o_v); exact rfl) | ((with_reducible apply _D.IL); dsimp only [List.set_cons_succ, List.set_cons_zero]) | ((with_reducible (first | apply _D.AN | apply _D.AM | apply _D.AL)); omega) | ((with_reducible apply And.intro); (first | exact rfl | exact Nat.le_of_ble_eq_true rfl)) | ((with_reducible apply Exists.intro); (with_reducible apply And.intro); exact rfl) | ((with_reducible apply Exists.intro); (with_reducible apply Exists.intro); (with_reducible apply And.intro); exact rfl; dsimp only [List.set_cons_succ, List.set_cons_zero]) | ((with_reducible apply Exists.intro); (with_reducible apply Exists.intro); (with_reducible apply Exists.intro); (with_reducible apply And.intro); exact rfl; dsimp only [List.set_cons_succ, List.set_cons_zero]))
local macro_rules|`(tactic|rfl')=>`(tactic| repeat array_get_dec)
namespace _D
open PySem
variable {kvs:Aa (_L.Key × D)}{ks:Aa Al}{xs:Aa D}{n:Aj}{i:D}{Q:D→Sto→Prop}{S:Sto}
def Pn (d:D):Prop:=∃ p,pyD d=Ab p
theorem pns:∀ {ps:Aa PyData},fD xs=Ab ps→∀ x∈xs,Pn x:=by
 induction xs with
 |nil=>intro ps _ x hx;cases hx
 |cons d ds ih =>
  intro ps h x hx;simp only[fD] at h;obtain⟨p,h1,h2⟩:=Eh.mp h;obtain⟨ps',h3,_⟩:=Cs.mp h2;rcases Ay.mp hx with rfl|hx
  ·exact⟨p,h1⟩
  ·exact ih h3 x hx
theorem ZP (h:Pn (.tup xs)):∀ x∈xs,Pn x:=by
 obtain⟨p,h⟩:=h;simp only[pyD] at h;obtain⟨ps,h1,_⟩:=Cs.mp h;exact pns h1
theorem rF:∀ {xs:Aa D},(∀ x∈xs,Pn x)→∃ l,fD xs=Ab l
 |[],_=>⟨[],rfl⟩
 |x::xs,h=>by
  obtain⟨l,e⟩:=rF (xs:=xs) fun y hy=>h y (By _ hy);obtain⟨q,e'⟩:=h x (Cn ..);refine⟨q::l,?_⟩;show (pyD x).bind (fun x=>(fD xs).map (x::·))=_
  rw[e,e'];rfl
theorem fB (h:∀ x∈xs,Pn x):Pn (.tup xs):=by
 obtain⟨l,e⟩:=rF h;exact⟨.tuple l,by simp only[pyD,e,Mr]⟩
theorem CN (h:∀ x∈xs,Pn x):Pn (.lst xs):=by
 obtain⟨l,e⟩:=rF h;exact⟨.list l,by simp only[pyD,e,Mr]⟩
theorem mH (q:Pt):Pn (ptD q):=⟨.tuple [.int q.1,.int q.2],rfl⟩
theorem NT (l:Aa Pt):Pn (yA l):=fB fun x hx=>by
 obtain⟨q,_,rfl⟩:=Ci.mp hx;exact mH q
def inR (a b:Al):D→Ar
 |.int i=>decide (a≤i∧i≤b)
 |_=>false
def isW:D→Ar
 |.int _=>true
 |_=>false
def isT:D→Ar
 |.tup _=>true
 |_=>false
theorem UM {d:D}(h:Pn d)(S:Sto):zY [d,.ty "tuple"] S=.ok (.bl (isT d)) S:=by
 obtain⟨p,h⟩:=h;cases d <;> first|kernel_rfl!|simp[pyD] at h
theorem cP {fa fb fc:DE}{env:qG}{a b c:Al}(h1:fa env S=.ok (.int a) S)(h2:fb env S=.ok (.int b) S)(h3:fc env S=.ok (.int c) S)(q:Q (.bl (decide (a≤b∧b≤c))) S):Ok (wU gLe gLe fa fb fc env S) Q:=by
 refine⟨_,_,?_,q⟩;unfold wU;rw[h1,Res.bind_ok,h2,Res.bind_ok];show (match xN (.bl (decide (a≤b))) S with|some true=>(fc env S).bind fun w S4=>gLe (.int b) w S4|some false=>Res.ok (.bl (decide (a≤b))) S|none=>.bad)=_
 by_cases h:a≤b
 ·rw[Cu h]
  show (fc env S).bind _=_;rw[h3];simp only[h,true_and];rfl
 ·rw[Cq h,Cq fun z=>h z.1]
  rfl
abbrev isI:D→Ar:=inR (-1000) 1000
def xK:D→Ar
 |.tup [a,b]=>isI a&&isI b
 |_=>false
theorem KS (q:Pt):xK (ptD q)=decide (InB 1000 q):=by
 show (decide (-1000≤q.1∧q.1≤1000)&&decide (-1000≤q.2∧q.2≤1000))=_;rw[← Bool.decide_and];exact decide_eq_decide.mpr ⟨fun h=>⟨h.1.1,h.1.2,h.2.1,h.2.2⟩,fun h=>⟨⟨h.1,h.2.1⟩,h.2.2.1,h.2.2.2⟩⟩
theorem MP (h:xs.length=2):xK (.tup xs)=xs.all isI:=by
 match xs,h with
 |[a,b],_=>simp[xK]
theorem MQ (h:xs.length≠2):xK (.tup xs)=false:=by
 match xs,h with
 |[],_=>rfl
 |[_],_=>rfl
 |[_,_],h=>exact absurd rfl h
 |_::_::_::_,_=>rfl
theorem MR {d:D}(h:isT d=false):xK d=false:=by
 cases d <;> first|rfl|cases h
def upB (ks:Aa (Aa Al)):Ar:=(ks.zip (ks.drop 1)).all fun p=>_H.lexLt p.1 p.2
def vP:D→Ar
 |.tup xs=>decide (1≤xs.length∧xs.length≤40)&&xs.all xK&&(match xW xs with|some ks=>upB ks|none=>false)
 |_=>false
theorem c9 {a b:Al}{d:D}(h:inR a b d=true):∃ i,d=.int i∧a≤i∧i≤b:=by
 cases d <;> first|exact⟨_,rfl,Bw h⟩|cases h
theorem Y8 {d:D}(h:xK d=true):∃ q,d=ptD q∧InB 1000 q:=by
 unfold xK at h
 split at h
 ·rw[AT] at h
  obtain⟨x,rfl,hx⟩:=c9 h.1;obtain⟨y,rfl,hy⟩:=c9 h.2;exact⟨(x,y),rfl,hx.1,hx.2,hy.1,hy.2⟩
 ·cases h
theorem rG:∀ {xs:Aa D},xs.all xK=true→∃ qs:Aa Pt,xs=qs.map ptD∧∀ q∈qs,InB 1000 q
 |[],_=>⟨[],rfl,fun _ h=>by cases h⟩
 |d::ds,h=>by
  rw[OC,AT] at h;obtain⟨qs,rfl,hq⟩:=rG h.2;obtain⟨q,rfl,hb⟩:=Y8 h.1;refine⟨q::qs,rfl,fun z hz=>?_⟩;rcases Ay.mp hz with rfl|hz
  ·exact hb
  ·exact hq z hz
theorem R7 (a b:Aa Al)(S:Sto):tI (tpD a) (tpD b) S=.ok (.bl (_H.lexLt a b)) S:=by
 unfold tI tpD;simp only[nX]
theorem mR:∀ (ks:Aa (Aa Al)),upB ks=true↔ks.Pairwise (fun a b=>_H.lexLt a b=true)
 |[]=>by simp[upB]
 |[a]=>by simp[upB]
 |a::b::r=>by
  have ih:=mR (b::r);have e:upB (a::b::r)=(_H.lexLt a b&&upB (b::r)):=by simp[upB]
  rw[e,AT,ih,Ep (a:=a)];constructor
  ·rintro⟨h1,h2⟩
   refine⟨fun x hx=>?_,h2⟩;rcases Ay.mp hx with rfl|hx
   ·exact h1
   ·exact _S.yK.tr h1 ((Ep.mp h2).1 x hx)
  ·rintro⟨h1,h2⟩
   exact⟨h1 b (by simp),h2⟩
theorem DW (ks ms:Aa (Aa Al)):v8 (ks.map tpD) (ms.map tpD)=(ks.zip ms).map fun p=>D.tup [tpD p.1,tpD p.2]:=by
 unfold v8
 induction ks generalizing ms with
 |nil=>rfl
 |cons k ks ih =>
  cases ms with
  |nil=>rfl
  |cons m ms=>exact congrArg (_::·) (ih ms)
theorem KR {d:D}(h:isT d=false):vP d=false:=by
 cases d <;> first|rfl|cases h
theorem Y7 {M:Aj}(hM:M≤40){l:Aa Pt}(h:Lot M l):vP (yA l)=true:=by
 show (decide (1≤(l.map ptD).length∧(l.map ptD).length≤40)&&(l.map ptD).all xK&&(match xW (l.map ptD) with|some ks=>upB ks|none=>false))=true
 have h1:1≤(l.map ptD).length∧(l.map ptD).length≤40:=by
  rw[Aq];exact⟨Nk.mpr h.ne,by have:=h.len;omega⟩
 have h2:(l.map ptD).all xK=true:=by
  rw[Hx];exact Bq.mpr fun q hq=>(KS q).trans (Cu (h.box q hq))
 have h3:upB (l.map kP)=true:=by
  rw[mR,Dx];exact h.up
 rw[Cu h1,h2,uP,yT];exact h3
theorem tU (h:¬ xs.Nodup):vP (.tup xs)=false:=by
 cases e:vP (.tup xs) with
 |false=>rfl
 |true =>
  have e':(decide (1≤xs.length∧xs.length≤40)&&xs.all xK&&(match xW xs with|some ks=>upB ks|none=>false))=true:=e
  rw[AT,AT] at e';obtain⟨qs,rfl,_⟩:=rG e'.1.2;have e2:=e'.2;rw[uP,yT] at e2;refine absurd ?_ h;have u:=(mR _).mp e2;rw[Dx] at u;rw[Pj,Dx];refine u.imp fun {a b} hab z=>?_;have:kP a=kP b:=by
   injection z with z
   injection z with z1 z2
   injection z1 with z1
   injection z2 with z2 _
   injection z2 with z2
   show [a.1,a.2]=[b.1,b.2];rw[z1,z2]
  rw[this,_S.yK.irr] at hab;cases hab
theorem tS {x:D}(hx:x∈xs)(h:xK x=false):vP (.tup xs)=false:=by
 show (decide (1≤xs.length∧xs.length≤40)&&xs.all xK&&(match xW xs with|some ks=>upB ks|none=>false))=false
 have:xs.all xK=false:=by
  rw[List.all_eq_false];exact⟨x,hx,by rw[h];simp⟩
 rw[this,Ji,Gc]
theorem GF (h:40<xs.length):vP (.tup xs)=false:=by
 show (decide (1≤xs.length∧xs.length≤40)&&xs.all xK&&(match xW xs with|some ks=>upB ks|none=>false))=false
 rw[Cq om,Gc,Gc]
def NoL (d:D):Prop:=Pn d∧vP d=false
theorem SB (xs:Aa D):zS xs (Ab 1) none=xs.drop 1:=by
 unfold zS;have h1:_H.sIx xs.length 0 (Ab 1)=min 1 xs.length:=rfl;have h2:_H.sIx xs.length xs.length none=xs.length:=rfl;rw[h1,h2];cases xs with
 |nil=>rfl
 |cons x r=>simp
theorem JQ (xs:Aa D)(x:D):zS (xs++[x]) (Ab (-1)) none=[x]:=by
 unfold zS;have h1:_H.sIx (xs++[x]).length (xs++[x]).length none=(xs++[x]).length:=rfl;have h2:_H.sIx (xs++[x]).length 0 (Ab (-1))=xs.length:=by
  show (if (-1:Al)<0 then ((-1:Al)+((xs++[x]).length:Al)).toNat else min (-1:Al).toNat (xs++[x]).length)=_
  rw[Bh om,Ca];simp only[Cj,Et];omega
 rw[h1,h2];simp
theorem oO (xs:Aa D)(n:Aj)(h:n≤xs.length):zS xs (Ab (n:Al)) none=xs.drop n:=by
 unfold zS;have h1:_H.sIx xs.length xs.length none=xs.length:=rfl;have h2:_H.sIx xs.length 0 (Ab (n:Al))=min n xs.length:=by
  show (if (n:Al)<0 then ((n:Al)+(xs.length:Al)).toNat else min (n:Al).toNat xs.length)=_
  rw[Bn om,Em]
 rw[h1,h2,IX h];exact Rb (by rw[Iq];exact Az _)
theorem oP (xs:Aa D)(n:Aj)(h:n≤xs.length):zS xs none (Ab (n:Al))=xs.take n:=by
 unfold zS;have h1:_H.sIx xs.length 0 none=0:=rfl;have h2:_H.sIx xs.length xs.length (Ab (n:Al))=min n xs.length:=by
  show (if (n:Al)<0 then ((n:Al)+(xs.length:Al)).toNat else min (n:Al).toNat xs.length)=_
  rw[Bn om,Em]
 rw[h1,h2,IX h];rfl
theorem gD (n:Aj):_H.stepN n (-1)=n:=by
 unfold _H.stepN _H.stepLo _H.stepHi Fc Fy;simp
 split <;> omega
theorem XH (xs:Aa D)(x:D):x∈_H.stepL (xs++[x]) (-1):=by
 unfold _H.stepL;refine Gg.mpr ⟨0,Ej.mpr (by rw[gD];simp),?_⟩
 have h:_H.stepLo (xs++[x]).length (-1)=(xs.length:Al):=by
  unfold _H.stepLo Fc;simp
 rw[h];simp
theorem XG {k:Al}{x:D}(h:x∈_H.stepL xs k):x∈xs:=by
 unfold _H.stepL at h;obtain⟨m,_,e⟩:=Gg.mp h;exact Bm e
theorem TY {a:Aa D}{k:Aj}(l:a.length*k≤lim∧k<1000)(h:Q (.lst (Ct k a).flatten) S):Ok (pH (.lst a) (.int (k:Al)) S) Q:=by
 refine⟨_,_,?_,h⟩;unfold pH;have c:0≤(k:Al)∧(k:Al)<2 ^ 62∧a.length*(k:Al).toNat≤lim:=⟨by omega,by omega,by rw[Em];exact l.1⟩
 refine(Bh c).trans ?_;rw[Em]
theorem N1 {a:Aa D}(l:a.length≤1000)(h:Q (.tup (_H.stepL a (-1))) S):Ok (d8 (.tup a) (.int (-1)) S) Q:=⟨_,_,Bh ⟨by omega,by omega,by rw[gD];unfold lim;omega⟩,h⟩
theorem W9 (xs:Aa D)(i:Aj):zS xs (Ab ((i:Al)+1)) none=xs.drop (i+1):=by
 unfold zS;have e1:_H.sIx xs.length 0 (Ab ((i:Al)+1))=min (i+1) xs.length:=by
  have:((i:Al)+1)=((i+1:Aj):Al):=by omega
  rw[this,_H.sIx_nat]
 rw[e1,_H.sIx_none];by_cases h:i+1≤xs.length
 ·rw[IX h,Rb (by simp)]
 ·have:xs.drop (i+1)=[]:=Ln om
  rw[this,Pm om];simp
def eL:Aj→Aa D→Aa D
 |_,[]=>[]
 |k,x::xs=>D.tup [.int (k:Al),x]::eL (k+1) xs
theorem WV (xs:Aa D):yF xs=eL 0 xs:=by
 have key:∀ (xs:Aa D) (k:Aj),(xs.mapIdx fun i x=>D.tup [.int ((i+k:Aj):Al),x])=eL k xs:=by
  intro xs
  induction xs with
  |nil=>intro k;rfl
  |cons x xs ih =>
   intro k;rw[List.mapIdx_cons];show _::_=D.tup [.int (k:Al),x]::eL (k+1) xs
   congr 1
   ·simp
   ·rw[← ih (k+1)]
    congr 1
    funext i y
    congr 4
    omega
 have:=key xs 0;simpa [yF] using this
def far (p q:Pt):Al:=(p.1-q.1)*(p.1-q.1)+(p.2-q.2)*(p.2-q.2)
def wL:Aa Pt→Aa (Pt × Pt)
 |[]=>[]
 |p::ps=>ps.map (fun q=>(p,q))++wL ps
def gW (x:Pt × Pt):Al:=far x.1 x.2
def fars (l:Aa Pt):Aa Al:=(wL l).map gW
def prD (x:Pt × Pt):D:=.tup [ptD x.1,ptD x.2]
structure GI {β : Type}(key:β→Al)(enc:β→D)(n:Aj)(prs:Aa β)(kvs:Aa (_L.Key × D))(S:Sto):Prop where
 dict:S[n]? = Ab (.dct kvs)
 lists:∀ kv∈kvs,∃ (f:Al) (j:Aj),kv=(.inl f,.loc j)∧n<j∧S[j]? = Ab (.lst ((prs.filter fun x=>key x == f).map enc))
 nd:(kvs.map (·.2)).Nodup
 keys:kvs.map (·.1)=((prs.map key).foldl Bc []).map Ia
set_option tactic.hygienic true in
theorem VY {l:Aa Al}{k x:Al}:x∈Bc l k↔x∈l∨x=k:=by
 unfold Bc
 split
 ·rename_i h
  simp at h;constructor
  ·exact fun z=>.inl z
  ·rintro (z|rfl)
   ·exact z
   ·exact h
 ·simp
theorem kA {l:Aa Al}{k:Al}(h:k∈l):Bc l k=l:=by
 unfold Bc;rw[Bh (by simpa using h)]
theorem fH {l:Aa Al}{k:Al}(h:k ∉ l):Bc l k=l++[k]:=by
 unfold Bc;rw[Bn (by simpa using h)]
theorem bS:∀ {l:Aa Al} {x:Al},x∈ks.foldl Bc l↔x∈l∨x∈ks:=by
 induction ks with
 |nil=>intro l x;simp
 |cons k ks ih =>
  intro l x;rw[Kf,ih,VY,Ay];constructor
  ·rintro ((h|h)|h)
   ·exact .inl h
   ·exact .inr (.inl h)
   ·exact .inr (.inr h)
  ·rintro (h|h|h)
   ·exact .inl (.inl h)
   ·exact .inl (.inr h)
   ·exact .inr h
theorem sO:∀ {l:Aa Al},(ks.foldl Bc l).length≤l.length+ks.length:=by
 induction ks with
 |nil=>intro l;simp
 |cons k ks ih =>
  intro l;rw[Kf];have h1:=ih (l:=Bc l k);have h2:(Bc l k).length≤l.length+1:=by
   unfold Bc
   split <;> simp
  rw[Cj];omega
theorem U3 {k:_L.Key}{d:D}(h:zP kvs k=Ab d):(k,d)∈kvs:=by
 unfold zP at h;obtain⟨kv,h1,rfl⟩:=Cs.mp h;have h2:=Xf h1;have h3:=OO h1;have h4:kv.1=k:=by simpa using h2
 subst h4;exact h3
theorem U2 {k:_L.Key}(h:zP kvs k=none):∀ kv∈kvs,kv.1≠k:=by
 unfold zP at h;have h1:=Option.map_eq_none_iff.mp h;intro kv hk e;have:=Ub.mp h1 kv hk;simp[e] at this
theorem J7 {x:D}{k:_L.Key}(hd:S[n]? = Ab (.dct kvs))(hk:wX i=Ab k):wJ (.loc n) [i,x] S=(match zP kvs k with|some d=>.ok d S|none=>if kvs.length<lim then .ok x (S.set n (.dct (wB kvs k x))) else .bad):=by
 show (match S[n]? with|some (.dct kvs)=>(match wX i with|some k=>(match zP kvs k with|some d=>Res.ok d S|none=>if kvs.length<lim then .ok x (S.set n (.dct (wB kvs k x))) else .bad)|none=>.bad)|_=>.bad)=_
 rw[hd,hk]
theorem B5 {x d:D}{k:_L.Key}(hd:S[n]? = Ab (.dct kvs))(hk:wX i=Ab k)(hv:zP kvs k=Ab d):wJ (.loc n) [i,x] S=.ok d S:=by
 rw[J7 hd hk,hv]
theorem B4 {x:D}{k:_L.Key}(hd:S[n]? = Ab (.dct kvs))(hk:wX i=Ab k)(hv:zP kvs k=none)(hl:kvs.length<lim):wJ (.loc n) [i,x] S=.ok x (S.set n (.dct (wB kvs k x))):=by
 rw[J7 hd hk,hv];exact Bh hl
theorem Z9 {β γ:Type}{l:Aa β}{f:β→γ}(nd:(l.map f).Nodup){x y:β}(hx:x∈l)(hy:y∈l)(e:f x=f y):x=y:=by
 obtain⟨a,ha,rfl⟩:=De.mp hx;obtain⟨b,hb,rfl⟩:=De.mp hy;have:a=b:=(Lr nd (h₀:=by simpa using ha) (h₁:=by simpa using hb)).mp (by simpa using e)
 subst this;rfl
set_option tactic.hygienic true in
theorem c5:∀ (ks l:Aa Al),l.Nodup→(ks.foldl Bc l).Nodup:=by
 intro ks
 induction ks with
 |nil=>exact fun l h=>h
 |cons k ks ih =>
  intro l h;rw[Kf];apply ih;unfold Bc
  split
  ·exact h
  ·rename_i hn
   rw[Hf];refine⟨h,by simp,?_⟩
   intro a ha b hb hab;simp at hb hn;subst hb;subst hab;exact hn ha
theorem G0 (h:kvs.map (·.1)=(ks.foldl Bc []).map Ia):(kvs.map (·.1)).Nodup:=by
 rw[h,Pj,Dx];exact(c5 ks [] Lb).imp fun hne e=>hne (Re e)
theorem F4 {j:Aj}(h:S[j]? = Ab (.lst xs))(hl:xs.length<lim)(d:D):x9 (.loc j) [d] S=.ok .non (S.set j (.lst (xs++[d]))):=xU (pT h hl ⟨rfl,rfl⟩)
theorem KL {β:Type}{key:β→Al}{enc:β→D}{prs:Aa β}(I:GI key enc n prs kvs S)(x:β)(hl:prs.length<lim) :
  ∃ (j:Aj) (S1 S2:Sto) (kvs':Aa (_L.Key × D)),wJ (.loc n) [.int (key x),.loc S.length] (S++[.lst []]) = .ok (.loc j) S1∧tyD (.loc j) S1=Ab "list" ∧ x9 (.loc j) [enc x] S1=.ok .non S2∧GI key enc n (prs++[x]) kvs' S2∧∀ m,m<n→S2[m]? = S[m]?:=by
 have hnS:n<S.length:=(Av.mp I.dict).1;have hd:(S++[MO.lst []])[n]? = Ab (.dct kvs):=by rw[Bg hnS];exact I.dict
 have hkl:kvs.length≤prs.length:=by
  have h1:kvs.length=(kvs.map (·.1)).length:=by simp
  rw[h1,I.keys,Aq];have:=sO (ks:=prs.map key) (l:=[]);simpa using this
 have hlim:kvs.length<lim:=by omega
 have jlt:∀ {f:Al} {j:Aj},((Ia f:_L.Key),D.loc j)∈kvs→n<j∧j<S.length∧S[j]? = Ab (.lst ((prs.filter fun x=>key x == f).map enc)):=by
  intro f j hm;obtain⟨f',j',e,h1,h2⟩:=I.lists _ hm;cases e;exact⟨h1,(Av.mp h2).1,h2⟩
 cases hv:zP kvs (.inl (key x)) with
 |some d =>
  have hm:=U3 hv;obtain⟨f,j,e,h1,h2⟩:=I.lists _ hm;have e1:f=key x:=by
   have:=congrArg Yz e;exact(Re this).symm
  have e2:d=.loc j:=congrArg Za e;subst e1;subst e2;have hjS:=(Av.mp h2).1;have h2':(S++[MO.lst []])[j]? = Ab (.lst ((prs.filter fun y=>key y == key x).map enc)):=by rw[Bg hjS];exact h2
  have hll:((prs.filter fun y=>key y == key x).map enc).length<lim:=by
   rw[Aq];have:=List.length_filter_le (fun y=>key y == key x) prs;omega
  refine⟨j,S++[MO.lst []],(S++[MO.lst []]).set j (.lst ((prs.filter fun y=>key y == key x).map enc++[enc x])),kvs,?_,?_,?_,⟨?_,?_,I.nd,?_⟩,?_⟩
  ·exact B5 hd rfl hv
  ·exact jD h2'
  ·exact F4 h2' hll _
  ·rw[Bz om];exact hd
  ·intro kv hk
   obtain⟨f',j',rfl,h3,h4⟩:=I.lists kv hk;refine⟨f',j',rfl,h3,?_⟩;have hj':=(Av.mp h4).1;by_cases hjj:j=j'
   ·subst hjj
    have hff:f'=key x:=Re (congrArg Yz (Z9 (f:=(·.2)) I.nd hk hm rfl))
    subst hff;rw[Cw (by simp;omega)]
    rw[Kr];simp
   ·rw[Bz hjj,Bg hj',h4]
    have hne:(key x == f')=false:=by
     rw[Im];rintro rfl;exact hjj (D.loc.inj (congrArg Za (Z9 (f:=(·.1)) (G0 I.keys) hm hk rfl)))
    rw[Kr];simp[hne]
  ·rw[Dy,Vq]
   show _=(Bc ((prs.map key).foldl Bc []) (key x)).map Ia;have hin:key x∈(prs.map key).foldl Bc []:=by
    have:(Ia (key x):_L.Key)∈kvs.map (·.1):=Ci.mpr ⟨_,hm,rfl⟩
    rw[I.keys] at this;obtain⟨y,hy,e⟩:=Ci.mp this;cases e;exact hy
   rw[kA hin];exact I.keys
  ·intro m hm
   rw[Bz om,Bg om]
 |none =>
  have hno:=U2 hv;have hput:wB kvs (.inl (key x)) (.loc S.length)=kvs++[(.inl (key x),.loc S.length)]:=by
   unfold wB;rw[Bn];rw[Gz];rintro⟨kv,hk,e⟩;exact hno kv hk (by simpa using e)
  have hfn:key x ∉ prs.map key:=by
   intro hin;have:(Ia (key x):_L.Key)∈kvs.map (·.1):=by
    rw[I.keys];exact Ci.mpr ⟨_,bS.mpr (.inr hin),rfl⟩
   obtain⟨kv,hk,e⟩:=Ci.mp this;exact hno kv hk e
  have hS1:((S++[MO.lst []]).set n (.dct (kvs++[(Ia (key x),.loc S.length)])))[S.length]? = Ab (.lst []):=by
   rw[Bz om];simp
  refine⟨S.length,(S++[MO.lst []]).set n (.dct (kvs++[(.inl (key x),.loc S.length)])),((S++[MO.lst []]).set n (.dct (kvs++[(.inl (key x),.loc S.length)]))).set S.length (.lst [enc x]),kvs++[(.inl (key x),.loc S.length)],?_,?_,?_,⟨?_,?_,?_,?_⟩,?_⟩
  ·rw[← hput]
   exact B4 hd rfl hv hlim
  ·exact jD hS1
  ·have:(0:Aj)<lim:=by decide
   exact F4 hS1 this _
  ·rw[Bz om,Cw (by simp;omega)]
  ·intro kv hk
   rcases Co.mp hk with hk|hk
   ·obtain⟨f',j',rfl,h3,h4⟩:=I.lists kv hk
    have hj':=(Av.mp h4).1;refine⟨f',j',rfl,h3,?_⟩;rw[Bz om,Bz om,Bg hj',h4];have hne:(key x == f')=false:=by
     rw[Im];intro e;exact hno _ hk (by rw[e])
    rw[Kr];simp[hne]
   ·have:kv=(.inl (key x),.loc S.length):=by simpa using hk
    subst this;refine⟨key x,S.length,rfl,hnS,?_⟩;rw[Cw (by simp)]
    have:(prs.filter fun y=>key y == key x)=[]:=by
     rw[List.filter_eq_nil_iff];intro y hy e;exact hfn (by rw[← (by simpa using e:key y=key x)];exact Ci.mpr ⟨y,hy,rfl⟩)
    rw[Kr,this];simp
  ·rw[Dy,Hf]
   refine⟨I.nd,by simp,?_⟩
   intro a ha b hb hab;simp at hb;subst hb;subst hab;obtain⟨kv,hk,e⟩:=Ci.mp ha;obtain⟨f',j',rfl,h3,h4⟩:=I.lists kv hk;have hj':=(Av.mp h4).1;have:j'=S.length:=D.loc.inj e;omega
  ·rw[Dy,I.keys,Dy,Vq]
   show _=(Bc ((prs.map key).foldl Bc []) (key x)).map Ia;have hin:key x ∉ (prs.map key).foldl Bc []:=by
    intro h;rcases bS.mp h with h|h
    ·simp at h
    ·exact hfn h
   rw[fH hin,Dy];rfl
  ·intro m hm
   rw[Bz om,Bz om,Bg om]
theorem dQ (l:Aa Pt):(wL l).length≤l.length*l.length:=by
 induction l with
 |nil=>simp[wL]
 |cons p l ih =>
  have e:(p::l).length*(p::l).length=l.length*l.length+l.length+l.length+1:=by
   simp only[Cj,Nat.add_mul,Nat.mul_add];omega
  rw[e];simp only[wL,Ca,Aq];omega
theorem NU {S':Sto}(h:∀ m,m<S.length→S'[m]? = S[m]?):S<+:S':=by
 rw[Pa];intro i hi;rw[h i hi,Ap hi]
theorem R8 {l:Aa Pt}(h:l.length≤41):(wL l).length<4000:=by
 have h1:=dQ l;have h2:l.length*l.length≤41*41:=Sg h h;omega
def kys (fs:Aa Al):Aa Al:=fs.foldl Bc []
def tbK (fs:Aa Al):Aa (Aa Al):=(kys fs).map fun f=>[f,(fs.count f:Al)]
def tbl (fs:Aa Al):Aa (Aa Al):=_S.wN _H.lexLt (tbK fs)
theorem pM {fs:Aa Al}{x:Al}:x∈kys fs↔x∈fs:=by
 unfold kys;rw[bS];simp
theorem QV (fs:Aa Al):(kys fs).Nodup:=c5 fs [] Lb
theorem eO {α:Type}[Vs α]{a b:Aa α}(ha:a.Nodup)(hb:b.Nodup)(h:∀ x,x∈a↔x∈b):a.Perm b:=by
 rw[Ts];intro x;rw[ha.count,hb.count];simp only[h]
theorem VZ {fs gs:Aa Al}(h:fs.Perm gs):tbl fs=tbl gs:=by
 refine _S.pS _S.yK (_S.jZ _S.yK _) (_S.jZ _S.yK _) ((_S.xD _).trans (List.Perm.trans ?_ (_S.xD _).symm));have e:tbK gs=(kys gs).map fun f=>[f,(fs.count f:Al)]:=Nj fun f _=>by rw[h.count_eq]
 rw[e];exact(eO (QV fs) (QV gs) fun x=>by rw[pM,pM,h.mem_iff]).map _
theorem Y1 (prs:Aa (Pt × Pt))(f:Al):(prs.filter fun x=>gW x == f).length=(prs.map gW).count f:=by
 rw[List.count,Wv,List.countP_eq_length_filter];rfl
def ctD (fs:Aa Al)(k:_L.Key):D:=match k with
 |.inl f=>.tup [.int f,.int (fs.count f:Al)]
 |.inr _=>.non
theorem B9 (ks:Aa (Aa Al))(hl:ks.length≤63)(he:∀ k∈ks,k≠[]):vR (ks.map tpD)=Ab ((_S.wN _H.lexLt ks).map tpD):=by
 unfold vR;cases ks with
 |nil =>
  have e1:_S.wN _S.ltI [] = []:=Kq;have e2:_S.wN _H.lexLt [] = []:=Kq;show (if ([] : Aa Al).length≤63 then Ab ((_S.wN _S.ltI []).map D.int) else none)=_
  rw[e1,e2,Bh (by simp)]
  rfl
 |cons k r =>
  have h0:xR ((k::r).map tpD)=none:=rfl;rw[h0,yT];have h2:((k::r).all fun k=>!k.isEmpty)=true:=Bq.mpr fun q hq=>by
   have:=he q hq;cases q with
   |nil=>exact absurd rfl this
   |cons _ _=>rfl
  have h3:(decide ((k::r).length≤63)&&(k::r).all fun k=>!k.isEmpty)=true:=by rw[h2,Cu hl];rfl
  show (if (decide ((k::r).length≤63)&&(k::r).all fun k=>!k.isEmpty)=true then _ else _)=_
  rw[Bh h3]
theorem hZ {p q:Pt}(h:p≠q):0<far p q:=by
 unfold far;have s:∀ x:Al,0≤x*x:=fun x=>by rw[← Sl x];exact Xw om om
 have z:∀ x:Al,x≠0→0<x*x:=fun x hx=>by
  rcases Int.lt_trichotomy x 0 with y|y|y
  ·exact Int.mul_pos_of_neg_of_neg y y
  ·exact absurd y hx
  ·exact Wp y y
 have s1:=s (p.1-q.1);have s2:=s (p.2-q.2);by_cases h1:p.1=q.1
 ·have h2:p.2≠q.2:=fun e=>h (Kc h1 e)
  have:=z (p.2-q.2) om;omega
 ·have:=z (p.1-q.1) om
  omega
theorem xE (p q:Pt):far p q=far q p:=by
 have e:∀ a b:Al,(a-b)*(a-b)=(b-a)*(b-a):=fun a b=>by
  rw[← Int.neg_sub b a,Int.neg_mul_neg]
 unfold far;rw[e p.1 q.1,e p.2 q.2]
theorem yP (p:Pt)(l:Aa Pt):fars (p::l)=l.map (far p)++fars l:=by
 unfold fars;rw[wL,Dy,Gn];rfl
theorem Q8 {l m:Aa Pt}(h:l.Perm m):(fars l).Perm (fars m):=by
 induction h with
 |nil=>exact Nu _
 |cons x h ih=>rw[yP,yP];exact(h.map _).append ih
 |swap x y l =>
  rw[yP,yP,yP,yP,Dv,Dv,xE y x,Gy,Gy];refine List.Perm.cons _ ?_;rw[← Gr,← Gr];exact List.Perm.append_right _ List.perm_append_comm
 |trans _ _ h1 h2=>exact h1.trans h2
end _D
namespace _K
open PySem PySem.Spec PyProof.Rows _L _D
def top (i:Aj):El:=Nz.main.body.getD i (.Pass ⟨0,0,0,0⟩)
structure Cl where
 (FarError NoPoint NoLot NoNumber NoCircle NoMarks NoFars NoText NoLine NoDeed Alike TooMany:Af)
def xX (c:Cl):Aa Af:=[c.NoPoint,c.NoLot,c.NoNumber,c.NoCircle,c.NoMarks,c.NoFars,c.NoText,c.NoLine,c.NoDeed,c.Alike,c.TooMany]
def gQ (c:Cl):Aa Ac:=[.ref c.NoPoint,.ref c.NoLot,.ref c.NoNumber,.ref c.NoCircle,.ref c.NoMarks,.ref c.NoFars,.ref c.NoText,.ref c.NoLine,.ref c.NoDeed]
abbrev clt (c:Cl):Aa (As × Af):=[("FarError",c.FarError),("NoPoint",c.NoPoint),("NoLot",c.NoLot),("NoNumber",c.NoNumber),("NoCircle",c.NoCircle),("NoMarks",c.NoMarks),("NoFars",c.NoFars),("NoText",c.NoText),("NoLine",c.NoLine),("NoDeed",c.NoDeed),("Alike",c.Alike),("TooMany",c.TooMany)]
abbrev plt (c:Cl):Aa (As × Af):=[("NoPoint",c.NoPoint),("NoLot",c.NoLot),("NoNumber",c.NoNumber),("NoCircle",c.NoCircle),("NoMarks",c.NoMarks),("NoFars",c.NoFars),("NoText",c.NoText),("NoLine",c.NoLine),("NoDeed",c.NoDeed)]
abbrev cst:Aa (As × Al):=[("LEAST_NUMBER",-1000),("MOST_NUMBER",1000),("MOST_POINTS",40)]
abbrev bl:Aa As:=["ValueError","all","bool","enumerate","int","isinstance","len","list","range","set","sorted","str","tuple","zip"]
abbrev tab:Aa (As × Aj × Aa As):=[("is_whole",14,["thing"]),("is_within",15,["thing","least","most"]),("is_rising",16,["some"]),("is_point",21,["thing"]),("is_lot",22,["thing"]),("need_lot",23,["thing"]),("far_between",24,["one","other"]),("pairs_by_far",25,["points"]),("far_table",26,["lot"]),("is_square",28,["lot"]),("_law_kinds",30,["_law_e"]),("_law_refused",31,["_law_call"]),("_law_same",32,["_law_found","_law_due"]),("_law_cell",33,["_law_script","_law_k"]),("_law_pen",34,["_law_cell_here"]),("_law_draw",35,["_law_pen_here","_law_many"]),("_law_circle",36,["_law_number"]),("_law_rich",37,["_law_pen_here","_law_most"]),("_law_lot",38,["_law_pen_here","_law_most"]),("_law_no_lot",39,["_law_pen_here","_law_lot_here"]),("_law_point",40,["_law_pen_here"]),("_law_is_square",41,["_law_lot_here"]),("_law_right",42,["_law_lot_here"]),("law",43,["_law_script"])]
abbrev Txt (K:Ai)(mg:As→Am Ac)(c:Cl):Prop:=TxS K mg top tab bl (clt c) (plt c) (gQ c) (xX c) cst
abbrev T9:Aa As:=["law"]
@[reducible] def b_is_whole:DS:=z9 (kI (qK zY (qA (qC 0) (qA (dC (.ty "int")) (qB)))) (WC (qK zY (qA (qC 0) (qA (dC (.ty "bool")) (qB))))))
@[irreducible] def S_is_whole:DF:=sh (qT 1 b_is_whole)
theorem gI:S_is_whole=qT 1 b_is_whole:=by delta S_is_whole;exact zU _
@[reducible] def b_is_within:DS:=z9 (kI (qO 1 S_is_whole (qA (qC 0) (qB))) (wU gLe gLe (qC 1) (qC 0) (qC 2)))
@[irreducible] def S_is_within:DF:=sh (qT 3 b_is_within)
theorem jS:S_is_within=qT 3 b_is_within:=by delta S_is_within;exact zU _
@[reducible] def b_is_rising:DS:=z9 (qK (jG false) (qA (zE false [none,none] (xT (t7 (qA (qC 0) (qA (dSl (qC 0) (zR (dC (.int 1))) (xI)) (qB))))) (gTp 2 (xJ (gNm 0) (xJ (gNm 1) (uA)))) (wM) (zT (d2 tI (qC 0) (qC 1)))) (qB)))
@[irreducible] def S_is_rising:DF:=sh (qT 1 b_is_rising)
theorem jR:S_is_rising=qT 1 b_is_rising:=by delta S_is_rising;exact zU _
@[reducible] def b_is_point:DS:=qM (sIf (bQ (vN (dTr (qK zY (qA (qC 0) (qA (dC (.ty "tuple")) (qB)))))) (dTr (d2 gNe (qK xP (qA (qC 0) (qB))) (dC (.int 2))))) (z9 (dC (.bl false))) (zO)) (z9 (qK (jG false) (qA (zE false [none] (dIt (qC 0)) (gNm 0) (wM) (zT (qO 3 (okO S_is_within) (qA (qC 0) (qA (dC (.int (-1000))) (qA (dC (.int (1000))) (qB))))))) (qB))))
@[irreducible] def S_is_point:DF:=sh (qT 1 b_is_point)
theorem gH:S_is_point=qT 1 b_is_point:=by delta S_is_point;exact zU _
@[reducible] def b_is_lot:DS:=qM (sIf (bQ (vN (dTr (qK zY (qA (qC 0) (qA (dC (.ty "tuple")) (qB)))))) (vN (dTr (wU gLe gLe (dC (.int 1)) (qK xP (qA (qC 0) (qB))) (dC (.int (40))))))) (z9 (dC (.bl false))) (zO)) (z9 (kI (qK (jG false) (qA (zE false [none] (dIt (qC 0)) (gNm 0) (wM) (zT (qO 1 (okO S_is_point) (qA (qC 0) (qB))))) (qB))) (qO 1 S_is_rising (qA (qC 0) (qB)))))
@[irreducible] def S_is_lot:DF:=sh (qT 1 b_is_lot)
theorem bB:S_is_lot=qT 1 b_is_lot:=by delta S_is_lot;exact zU _
@[reducible] def b_need_lot (c:Cl):DS:=sIf (vN (dTr (qO 1 S_is_lot (qA (qC 0) (qB))))) (jY (.ref c.NoLot) (qA (dC (.str "a lot is needed")) (qB))) (zO)
@[irreducible] def S_need_lot (c:Cl):DF:=sh (qT 1 (b_need_lot c))
theorem u3 (c:Cl):S_need_lot c=qT 1 (b_need_lot c):=by delta S_need_lot;exact zU _
@[reducible] def b_far_between:DS:=qM (qS (d2 zW (d2 gIx (qC 0) (dC (.int 0))) (d2 gIx (qC 1) (dC (.int 0)))) (gNm 2)) (qM (qS (d2 zW (d2 gIx (qC 0) (dC (.int 1))) (d2 gIx (qC 1) (dC (.int 1)))) (gNm 3)) (z9 (d2 qU (d2 zN (qC 2) (qC 2)) (d2 zN (qC 3) (qC 3)))))
@[irreducible] def S_far_between:DF:=sh (qT 4 b_far_between)
theorem uI:S_far_between=qT 4 b_far_between:=by delta S_far_between;exact zU _
@[reducible] def b_pairs_by_far:DS:=qM (qS (sF) (gNm 1)) (qM (u4 (d0 (qA (qC 0) (qB))) (gTp 2 (xJ (gNm 2) (xJ (gNm 3) (uA)))) (u4 (vS (dSl (qC 0) (zR (d2 qU (qC 2) (dC (.int 1)))) (xI))) (gNm 4) (wD (dBm "list" x9 (dBm "dict" wJ (qC 1) (qA (qO 2 S_far_between (qA (qC 3) (qA (qC 4) (qB)))) (qA (j6 (qB)) (qB)))) (qA (qN (qA (qC 3) (qA (qC 4) (qB)))) (qB)))))) (z9 (qC 1)))
@[irreducible] def S_pairs_by_far:DF:=sh (qT 5 b_pairs_by_far)
theorem u7:S_pairs_by_far=qT 5 b_pairs_by_far:=by delta S_pairs_by_far;exact zU _
@[reducible] def b_far_table (c:Cl):DS:=qM (wD (qO 1 (S_need_lot c) (qA (qC 0) (qB)))) (z9 (qK wI (qA (zE false [none,none] (xT (fP (qO 1 S_pairs_by_far (qA (qC 0) (qB))))) (gTp 2 (xJ (gNm 0) (xJ (gNm 1) (uA)))) (wM) (zT (qN (qA (qC 0) (qA (qK xP (qA (qC 1) (qB))) (qB)))))) (qB))))
@[irreducible] def S_far_table (c:Cl):DF:=sh (qT 1 (b_far_table c))
theorem vB (c:Cl):S_far_table c=qT 1 (b_far_table c):=by delta S_far_table;exact zU _
@[reducible] def b_is_square (c:Cl):DS:=qM (qS (qO 1 (S_far_table c) (qA (qC 0) (qB))) (gNm 1)) (qM (sIf (dTr (d2 gNe (qK xP (qA (qC 0) (qB))) (dC (.int 4)))) (z9 (dC (.bl false))) (zO)) (qM (qS (d2 gIx (d2 gIx (qC 1) (dC (.int 0))) (dC (.int 0))) (gNm 2)) (z9 (d2 gEq (qC 1) (zG (qA (qN (qA (qC 2) (qA (dC (.int 4)) (qB)))) (qA (qN (qA (d2 zN (dC (.int 2)) (qC 2)) (qA (dC (.int 2)) (qB)))) (qB))))))))
@[irreducible] def S_is_square (c:Cl):DF:=sh (qT 3 (b_is_square c))
theorem vC (c:Cl):S_is_square c=qT 3 (b_is_square c):=by delta S_is_square;exact zU _
@[reducible] def b__law_kinds (c:Cl):DS:=qM (qS (zG (qA (qK (zM (xX c)) (qA (qC 0) (qA (dC (.obj c.NoPoint)) (qB)))) (qA (qK (zM (xX c)) (qA (qC 0) (qA (dC (.obj c.NoLot)) (qB)))) (qA (qK (zM (xX c)) (qA (qC 0) (qA (dC (.obj c.NoNumber)) (qB)))) (qB))))) (gNm 1)) (qM (qS (d2 qU (qC 1) (zG (qA (qK (zM (xX c)) (qA (qC 0) (qA (dC (.obj c.NoCircle)) (qB)))) (qA (qK (zM (xX c)) (qA (qC 0) (qA (dC (.obj c.NoMarks)) (qB)))) (qA (qK (zM (xX c)) (qA (qC 0) (qA (dC (.obj c.NoFars)) (qB)))) (qB)))))) (gNm 1)) (qM (qS (d2 qU (qC 1) (zG (qA (qK (zM (xX c)) (qA (qC 0) (qA (dC (.obj c.NoText)) (qB)))) (qA (qK (zM (xX c)) (qA (qC 0) (qA (dC (.obj c.NoLine)) (qB)))) (qA (qK (zM (xX c)) (qA (qC 0) (qA (dC (.obj c.NoDeed)) (qB)))) (qB)))))) (gNm 1)) (qM (qS (d2 qU (qC 1) (zG (qA (qK (zM (xX c)) (qA (qC 0) (qA (dC (.obj c.Alike)) (qB)))) (qA (qK (zM (xX c)) (qA (qC 0) (qA (dC (.obj c.TooMany)) (qB)))) (qB))))) (gNm 1)) (qM (sIf (bQ (vN (dTr (qK (zM (xX c)) (qA (qC 0) (qA (dC (.ty "ValueError")) (qB)))))) (dTr (d2 gNe (dBm "list" fV (qC 1) (qA (dC (.bl true)) (qB))) (dC (.int 1))))) (z9 (dC (.str "other"))) (zO)) (qM (sIf (dTr (qK (zM (xX c)) (qA (qC 0) (qA (dC (.obj c.Alike)) (qB))))) (z9 (qN (qA (dC (.str "alike")) (qA (gT) (qA (gT) (qA (gT) (qA (gT) (qB)))))))) (zO)) (qM (sIf (dTr (qK (zM (xX c)) (qA (qC 0) (qA (dC (.obj c.TooMany)) (qB))))) (z9 (qN (qA (dC (.str "many")) (qA (gT) (qA (gT) (qB)))))) (zO)) (qM (qS (zG (qA (dC (.str "point")) (qA (dC (.str "lot")) (qA (dC (.str "number")) (qA (dC (.str "circle")) (qA (dC (.str "marks")) (qA (dC (.str "fars")) (qA (dC (.str "text")) (qA (dC (.str "line")) (qA (dC (.str "deed")) (qB))))))))))) (gNm 2)) (z9 (d2 gIx (qC 2) (dBm "list" fW (qC 1) (qA (dC (.bl true)) (qB))))))))))))
@[irreducible] def S__law_kinds (c:Cl):DF:=sh (qT 3 (b__law_kinds c))
theorem j0 (c:Cl):S__law_kinds c=qT 3 (b__law_kinds c):=by delta S__law_kinds;exact zU _
@[reducible] def b__law_refused (c:Cl)(G:Aa D→DF)(a:Af)(cv:Aa V):DS:=qM (fE 2 1 (gQ c) (wD (kJ 0 (qB) a cv 0 G)) (z9 (qO 1 (S__law_kinds c) (qA (qC 1) (qB))))) (z9 (dC (.str "told")))
@[reducible] def b__law_same (S__law_same:DF):DS:=qM (sIf (dTr (d2 gIs (qC 1) (dC .non))) (z9 (d2 gIs (qC 0) (dC .non))) (zO)) (qM (sIf (dTr (qK kK (qA (qC 1) (qA (qN (qA (dC (.ty "list")) (qA (dC (.ty "tuple")) (qB)))) (qB))))) (qM (sIf (dTr (d2 gNe (qK zY (qA (qC 1) (qA (dC (.ty "list")) (qB)))) (qK zY (qA (qC 0) (qA (dC (.ty "list")) (qB)))))) (z9 (dC (.bl false))) (zO)) (qM (sIf (bQ (dTr (d2 gNe (qK zY (qA (qC 1) (qA (dC (.ty "tuple")) (qB)))) (qK zY (qA (qC 0) (qA (dC (.ty "tuple")) (qB)))))) (dTr (d2 gNe (qK xP (qA (qC 0) (qB))) (qK xP (qA (qC 1) (qB)))))) (z9 (dC (.bl false))) (zO)) (z9 (qK (jG false) (qA (zE false [none,none] (xT (t7 (qA (qC 0) (qA (qC 1) (qB))))) (gTp 2 (xJ (gNm 0) (xJ (gNm 1) (uA)))) (wM) (zT (qO 2 (okO S__law_same) (qA (qC 0) (qA (qC 1) (qB)))))) (qB)))))) (zO)) (qM (sIf (dTr (qK zY (qA (qC 1) (qA (dC (.ty "str")) (qB))))) (z9 (kI (qK zY (qA (qC 0) (qA (dC (.ty "str")) (qB)))) (d2 gEq (qC 0) (qC 1)))) (zO)) (qM (sIf (dTr (d2 gNe (qK zY (qA (qC 0) (qA (dC (.ty "bool")) (qB)))) (qK zY (qA (qC 1) (qA (dC (.ty "bool")) (qB)))))) (z9 (dC (.bl false))) (zO)) (z9 (kI (qK zY (qA (qC 0) (qA (dC (.ty "int")) (qB)))) (d2 gEq (qC 0) (qC 1)))))))
def mP:Aj→DF
 |0=>fun _ _=>.bad
 |n+1=>qT 2 (b__law_same (mP n))
@[irreducible] def S__law_same:DF:=sh (mP 4)
theorem jQ:S__law_same=mP 4:=by delta S__law_same;exact zU _
@[reducible] def b__law_cell:DS:=qM (sIf (dTr (d2 gLt (qC 1) (qK xP (qA (qC 0) (qB))))) (z9 (d2 gIx (qC 0) (qC 1))) (zO)) (z9 (dC (.int 0)))
@[irreducible] def S__law_cell:DF:=sh (qT 2 b__law_cell)
theorem jN:S__law_cell=qT 2 b__law_cell:=by delta S__law_cell;exact zU _
@[reducible] def b__law_pen:DS:=z9 (j6 (qA (qC 0) (qA (qK iE (qA (d2 gGe (qC 0) (d2 Y3 (dC (.int 10)) (dC (.int 18)))) (qB))) (qB))))
@[irreducible] def S__law_pen:DF:=sh (qT 1 b__law_pen)
theorem gG:S__law_pen=qT 1 b__law_pen:=by delta S__law_pen;exact zU _
@[reducible] def b__law_draw:DS:=qM (sIf (dTr (d2 gEq (d2 gIx (qC 0) (dC (.int 1))) (dC (.int 1)))) (qM (qS (d2 jH (d2 gIx (qC 0) (dC (.int 0))) (qC 1)) (gNm 2)) (qM (qS (d2 bT (d2 gIx (qC 0) (dC (.int 0))) (qC 1)) (gSb (qC 0) (dC (.int 0)) yG)) (z9 (qC 2)))) (zO)) (qM (qS (d2 jH (d2 qU (d2 zN (d2 jH (d2 gIx (qC 0) (dC (.int 0))) (dC (.int 2147483629))) (dC (.int 48271))) (dC (.int 11))) (dC (.int 2147483629))) (gSb (qC 0) (dC (.int 0)) yG)) (z9 (d2 jH (d2 bT (d2 jH (d2 qU (d2 zN (d2 gIx (qC 0) (dC (.int 0))) (d2 gIx (qC 0) (dC (.int 0)))) (d2 zN (dC (.int 40692)) (d2 gIx (qC 0) (dC (.int 0))))) (dC (.int 2147483647))) (dC (.int 8))) (qC 1))))
@[irreducible] def S__law_draw:DF:=sh (qT 3 b__law_draw)
theorem jO:S__law_draw=qT 3 b__law_draw:=by delta S__law_draw;exact zU _
@[reducible] def b__law_circle:DS:=qM (uU 1 2 (qA (sF) (qA (zG (qB)) (qB)))) (qM (u4 (yJ (qA (dC (.int 1001)) (qB))) (gNm 3) (qS (qC 3) (gSb (qC 1) (d2 zN (qC 3) (qC 3)) yG))) (qM (u4 (yJ (qA (dC (.int 1001)) (qB))) (gNm 4) (sIf (dTr (d2 tH (d2 zW (qC 0) (d2 zN (qC 4) (qC 4))) (qC 1))) (qM (qS (d2 bU (qC 1) (d2 zW (qC 0) (d2 zN (qC 4) (qC 4)))) (gNm 5)) (qM (qS (d2 qU (qC 2) (zG (qA (qN (qA (qC 4) (qA (qC 5) (qB)))) (qA (qN (qA (d2 zW (dC (.int 0)) (qC 4)) (qA (qC 5) (qB)))) (qA (qN (qA (qC 4) (qA (d2 zW (dC (.int 0)) (qC 5)) (qB)))) (qB)))))) (gNm 2)) (qS (d2 qU (qC 2) (zG (qA (qN (qA (d2 zW (dC (.int 0)) (qC 4)) (qA (d2 zW (dC (.int 0)) (qC 5)) (qB)))) (qB)))) (gNm 2)))) (zO))) (z9 (w5 false (qC 2)))))
@[irreducible] def S__law_circle:DF:=sh (qT 6 b__law_circle)
theorem uG:S__law_circle=qT 6 b__law_circle:=by delta S__law_circle;exact zU _
@[reducible] def b__law_rich:DS:=qM (qS (dC (.int 1)) (gNm 2)) (qM (u4 (yJ (qA (d2 qU (dC (.int 1)) (qO 2 S__law_draw (qA (qC 0) (qA (dC (.int 6)) (qB))))) (qB))) (gNm 3) (qM (qS (d2 gIx (zG (qA (dC (.int 2)) (qA (dC (.int 5)) (qA (dC (.int 13)) (qA (dC (.int 17)) (qA (dC (.int 4)) (qA (dC (.int 9)) (qA (dC (.int 5)) (qA (dC (.int 29)) (qB)))))))))) (qO 2 S__law_draw (qA (qC 0) (qA (dC (.int 8)) (qB))))) (gNm 4)) (sIf (dTr (d2 gLe (d2 zN (qC 2) (qC 4)) (qC 1))) (qS (d2 zN (qC 2) (qC 4)) (gNm 2)) (zO)))) (z9 (qC 2)))
@[irreducible] def S__law_rich:DF:=sh (qT 5 b__law_rich)
theorem jP:S__law_rich=qT 5 b__law_rich:=by delta S__law_rich;exact zU _
@[reducible] def b__law_lot:DS:=qM (uU 2 3 (qA (qO 2 S__law_draw (qA (qC 0) (qA (dC (.int 6)) (qB)))) (qA (d2 qU (dC (.int 1)) (qO 2 S__law_draw (qA (qC 0) (qA (qC 1) (qB))))) (qB)))) (qM (qS (qN (qA (d2 zW (qO 2 S__law_draw (qA (qC 0) (qA (dC (.int 21)) (qB)))) (dC (.int 10))) (qA (d2 zW (qO 2 S__law_draw (qA (qC 0) (qA (dC (.int 21)) (qB)))) (dC (.int 10))) (qB)))) (gTp 2 (xJ (gNm 4) (xJ (gNm 5) (uA))))) (qM (qS (d2 gIx (zG (qA (dC (.int 3)) (qA (dC (.int 6)) (qA (dC (.int 900)) (qB))))) (qO 2 S__law_draw (qA (qC 0) (qA (dC (.int 3)) (qB))))) (gNm 6)) (qM (sIf (dTr (d2 gLt (qC 2) (dC (.int 2)))) (qS (qO 1 S__law_circle (qA (qO 2 S__law_rich (qA (qC 0) (qA (dC (.int 5000)) (qB)))) (qB))) (gNm 7)) (sIf (dTr (d2 gEq (qC 2) (dC (.int 2)))) (qS (zE false [none] (xT (yJ (qA (dC (.int 25)) (qB)))) (gNm 0) (wM) (zT (qN (qA (d2 bT (qC 0) (dC (.int 5))) (qA (d2 jH (qC 0) (dC (.int 5))) (qB)))))) (gNm 7)) (sIf (dTr (d2 gEq (qC 2) (dC (.int 3)))) (qM (qS (zE false [none] (xT (yJ (qA (dC (.int 20)) (qB)))) (gNm 0) (wM) (zT (qN (qA (d2 zN (dC (.int 2)) (qC 0)) (qA (d2 zN (dC (.int 3)) (qC 0)) (qB)))))) (gNm 7)) (qS (d2 qU (qC 7) (zE false [none] (xT (yJ (qA (dC (.int 5)) (qB)))) (gNm 0) (wM) (zT (qN (qA (qC 0) (qA (dC (.int 0)) (qB))))))) (gNm 7))) (sIf (dTr (d2 gEq (qC 2) (dC (.int 4)))) (qS (zG (qA (qN (qA (dC (.int 0)) (qA (dC (.int 0)) (qB)))) (qA (qN (qA (dC (.int 0)) (qA (dC (.int 4)) (qB)))) (qA (qN (qA (dC (.int 4)) (qA (dC (.int 0)) (qB)))) (qA (qN (qA (dC (.int 4)) (qA (dC (.int 4)) (qB)))) (qA (qN (qA (dC (.int 2)) (qA (dC (.int 2)) (qB)))) (qA (qN (qA (d1 jI (dC (.int 1))) (qA (dC (.int 2)) (qB)))) (qA (qN (qA (dC (.int 2)) (qA (d1 jI (dC (.int 1))) (qB)))) (qA (qN (qA (dC (.int 5)) (qA (dC (.int 2)) (qB)))) (qA (qN (qA (dC (.int 2)) (qA (dC (.int 5)) (qB)))) (qA (qN (qA (dC (.int 1)) (qA (dC (.int 1)) (qB)))) (qA (qN (qA (dC (.int 6)) (qA (dC (.int 6)) (qB)))) (qB))))))))))))) (gNm 7)) (qM (qS (j6 (qB)) (gNm 7)) (u4 (yJ (qA (qC 1) (qB))) (gNm 8) (qM (qS (d2 zW (qO 2 S__law_draw (qA (qC 0) (qA (d2 qU (d2 zN (dC (.int 2)) (qC 6)) (dC (.int 1))) (qB)))) (qC 6)) (gNm 9)) (wD (dBm "list" x9 (qC 7) (qA (qN (qA (qC 9) (qA (d2 zW (qO 2 S__law_draw (qA (qC 0) (qA (qC 6) (qB)))) (dC (.int 2))) (qB)))) (qB))))))))))) (qM (qS (w5 true (qC 7)) (gNm 7)) (qM (qS (j6 (qB)) (gNm 10)) (qM (mO (lY (dTr (d2 (pP gNe) (qC 7) (j6 (qB)))) (dTr (d2 gLt (qK xP (qA (qC 10) (qB))) (qC 3)))) (wD (dBm "list" x9 (qC 10) (qA (dBm "list" gX (qC 7) (qA (qO 2 S__law_draw (qA (qC 0) (qA (qK xP (qA (qC 7) (qB))) (qB)))) (qB))) (qB))))) (z9 (qK yD (qA (qK wI (qA (zE false [none,Ab 4,Ab 5] (dIt (qC 10)) (gNm 0) (wM) (zT (qN (qA (d2 qU (d2 gIx (qC 0) (dC (.int 0))) (qC 1)) (qA (d2 qU (d2 gIx (qC 0) (dC (.int 1))) (qC 2)) (qB)))))) (qB))) (qB))))))))))
@[irreducible] def S__law_lot:DF:=sh (qT 11 b__law_lot)
theorem gF:S__law_lot=qT 11 b__law_lot:=by delta S__law_lot;exact zU _
@[reducible] def b__law_no_lot:DS:=qM (uU 2 3 (qA (qO 2 S__law_draw (qA (qC 0) (qA (dC (.int 16)) (qB)))) (qA (qO 2 S__law_draw (qA (qC 0) (qA (qK xP (qA (qC 1) (qB))) (qB)))) (qB)))) (qM (qS (d2 gIx (qC 1) (qC 3)) (gTp 2 (xJ (gNm 4) (xJ (gNm 5) (uA))))) (qM (qS (zG (qA (qN (qA (qC 4) (qA (qC 5) (qA (dC (.int 0)) (qB))))) (qA (qN (qA (qC 4) (qB))) (qA (zG (qA (qC 4) (qA (qC 5) (qB)))) (qA (dC .non) (qA (qN (qA (dC (.bl true)) (qA (qC 5) (qB)))) (qA (qN (qA (qC 4) (qA (dC .non) (qB)))) (qA (qN (qA (dC (.int 1001)) (qA (qC 5) (qB)))) (qB))))))))) (gNm 6)) (qM (qS (d2 qU (qC 6) (zG (qA (qN (qA (qC 4) (qA (d1 jI (dC (.int 1001))) (qB)))) (qB)))) (gNm 6)) (qM (qS (d2 gIx (qC 6) (qO 2 S__law_draw (qA (qC 0) (qA (dC (.int 8)) (qB))))) (gNm 6)) (qM (qS (d2 qU (d2 qU (dSl (qC 1) (xI) (zR (qC 3))) (qN (qA (qC 6) (qB)))) (dSl (qC 1) (zR (d2 qU (qC 3) (dC (.int 1)))) (xI))) (gNm 7)) (qM (qS (d2 kM (d2 pH (zG (qA (qC 7) (qB))) (dC (.int 4))) (zG (qA (dC .non) (qA (qN (qB)) (qA (qK fU (qA (qC 1) (qB))) (qA (d2 gIx (qC 1) (dC (.int 0))) (qA (dC (.str "0,0")) (qA (dC (.int 7)) (qA (lZ) (qA (d2 qU (qC 1) (dSl (qC 1) (zR (d1 jI (dC (.int 1)))) (xI))) (qB))))))))))) (gNm 8)) (qM (wD (dBm "list" x9 (qC 8) (qA (qN (qA (qC 1) (qB))) (qB)))) (qM (qS (d2 pG (qC 8) (zG (qA (d2 qU (iA (qC 1) (d1 jI (dC (.int 1)))) (dSl (qC 1) (zR (d1 jI (dC (.int 1)))) (xI))) (qA (qK yD (qA (zE false [none] (xT (yJ (qA (dC (.int 41)) (qB)))) (gNm 0) (wM) (zT (qN (qA (qC 0) (qA (dC (.int 0)) (qB)))))) (qB))) (qB))))) (gNm 8)) (qM (qS (d2 qU (qC 8) (zG (qA (qN (qA (qN (qA (dC (.int 0)) (qA (dC (.int 0)) (qB)))) (qA (qN (qA (dC (.int 0)) (qA (dC (.int 0)) (qB)))) (qB)))) (qB)))) (gNm 8)) (z9 (d2 gIx (qC 8) (qC 2))))))))))))
@[irreducible] def S__law_no_lot:DF:=sh (qT 9 b__law_no_lot)
theorem uH:S__law_no_lot=qT 9 b__law_no_lot:=by delta S__law_no_lot;exact zU _
@[reducible] def b__law_point:DS:=qM (qS (d2 gIx (zG (qA (dC (.int 2)) (qA (dC (.int 12)) (qA (dC (.int 1000)) (qB))))) (qO 2 S__law_draw (qA (qC 0) (qA (dC (.int 3)) (qB))))) (gNm 1)) (z9 (qN (qA (d2 zW (qO 2 S__law_draw (qA (qC 0) (qA (d2 qU (d2 zN (dC (.int 2)) (qC 1)) (dC (.int 1))) (qB)))) (qC 1)) (qA (d2 zW (qO 2 S__law_draw (qA (qC 0) (qA (d2 qU (d2 zN (dC (.int 2)) (qC 1)) (dC (.int 1))) (qB)))) (qC 1)) (qB)))))
@[irreducible] def S__law_point:DF:=sh (qT 2 b__law_point)
theorem j1:S__law_point=qT 2 b__law_point:=by delta S__law_point;exact zU _
@[reducible] def b__law_is_square:DS:=qM (sIf (dTr (d2 gNe (qK xP (qA (qC 0) (qB))) (dC (.int 4)))) (z9 (dC (.bl false))) (zO)) (qM (qS (d2 gIx (qC 0) (dC (.int 0))) (gNm 1)) (qM (u4 (vS (dSl (qC 0) (zR (dC (.int 1))) (xI))) (gNm 2) (qM (uU 3 4 (qA (d2 zW (d2 gIx (qC 2) (dC (.int 0))) (d2 gIx (qC 1) (dC (.int 0)))) (qA (d2 zW (d2 gIx (qC 2) (dC (.int 1))) (d2 gIx (qC 1) (dC (.int 1)))) (qB)))) (qM (qS (zG (qA (qC 1) (qA (qC 2) (qA (qN (qA (d2 zW (d2 gIx (qC 1) (dC (.int 0))) (qC 4)) (qA (d2 qU (d2 gIx (qC 1) (dC (.int 1))) (qC 3)) (qB)))) (qB))))) (gNm 5)) (qM (qS (d2 qU (qC 5) (zG (qA (qN (qA (d2 zW (d2 gIx (qC 2) (dC (.int 0))) (qC 4)) (qA (d2 qU (d2 gIx (qC 2) (dC (.int 1))) (qC 3)) (qB)))) (qB)))) (gNm 5)) (sIf (dTr (d2 gEq (qK wI (qA (qC 5) (qB))) (qK fU (qA (qC 0) (qB))))) (z9 (dC (.bl true))) (zO)))))) (z9 (dC (.bl false)))))
@[irreducible] def S__law_is_square:DF:=sh (qT 6 b__law_is_square)
theorem v9:S__law_is_square=qT 6 b__law_is_square:=by delta S__law_is_square;exact zU _
@[reducible] def b__law_right (c:Cl):DS:=qM (qS (qO 1 S__law_is_square (qA (qC 0) (qB))) (gNm 1)) (z9 (kI (qO 2 S__law_same (qA (qO 1 (S_is_square c) (qA (qC 0) (qB))) (qA (qC 1) (qB)))) (qO 2 S__law_same (qA (qO 1 (S_is_square c) (qA (qC 0) (qB))) (qA (qC 1) (qB))))))
@[irreducible] def S__law_right (c:Cl):DF:=sh (qT 2 (b__law_right c))
theorem j2 (c:Cl):S__law_right c=qT 2 (b__law_right c):=by delta S__law_right;exact zU _
@[reducible] def b_law (c:Cl):DS:=qM (qS (zG (qA (qN (qA (qN (qA (dC (.int 0)) (qA (dC (.int 0)) (qB)))) (qA (qN (qA (dC (.int 0)) (qA (dC (.int 1)) (qB)))) (qA (qN (qA (dC (.int 1)) (qA (dC (.int 0)) (qB)))) (qA (qN (qA (dC (.int 1)) (qA (dC (.int 1)) (qB)))) (qB)))))) (qA (qN (qA (qN (qA (dC (.int 0)) (qA (dC (.int 0)) (qB)))) (qA (qN (qA (dC (.int 1)) (qA (dC (.int 2)) (qB)))) (qA (qN (qA (dC (.int 2)) (qA (d1 jI (dC (.int 1))) (qB)))) (qA (qN (qA (dC (.int 3)) (qA (dC (.int 1)) (qB)))) (qB)))))) (qA (qN (qA (qN (qA (dC (.int 0)) (qA (dC (.int 0)) (qB)))) (qA (qN (qA (dC (.int 0)) (qA (dC (.int 2)) (qB)))) (qA (qN (qA (dC (.int 1)) (qA (dC (.int 0)) (qB)))) (qA (qN (qA (dC (.int 1)) (qA (dC (.int 2)) (qB)))) (qB)))))) (qB))))) (gNm 1)) (qM (u4 (vS (d2 qU (qC 1) (zG (qA (qN (qA (qN (qA (dC (.int 0)) (qA (dC (.int 1)) (qB)))) (qA (qN (qA (dC (.int 1)) (qA (dC (.int 0)) (qB)))) (qA (qN (qA (dC (.int 1)) (qA (dC (.int 2)) (qB)))) (qA (qN (qA (dC (.int 2)) (qA (dC (.int 1)) (qB)))) (qB)))))) (qA (qN (qA (qN (qA (dC (.int 0)) (qA (dC (.int 0)) (qB)))) (qA (qN (qA (dC (.int 1)) (qA (dC (.int 1)) (qB)))) (qA (qN (qA (dC (.int 2)) (qA (dC (.int 0)) (qB)))) (qA (qN (qA (dC (.int 3)) (qA (dC (.int 1)) (qB)))) (qB)))))) (qA (qN (qA (qN (qA (dC (.int 0)) (qA (dC (.int 0)) (qB)))) (qB))) (qB))))))) (gNm 2) (sIf (vN (dTr (qO 1 (S__law_right c) (qA (qC 2) (qB))))) (z9 (dC (.bl false))) (zO))) (qM (u4 (vS (d2 qU (zG (qA (qO 2 S__law_cell (qA (qC 0) (qA (dC (.int 0)) (qB)))) (qB))) (dSl (qC 0) (zR (dC (.int 1))) (zR (dC (.int 8)))))) (gNm 3) (qM (qS (qO 1 S__law_pen (qA (qC 3) (qB))) (gNm 4)) (qM (qS (d2 gIx (zG (qA (dC (.int 3)) (qA (dC (.int 30)) (qA (dC (.int 300)) (qB))))) (qO 2 S__law_draw (qA (qC 4) (qA (dC (.int 3)) (qB))))) (gNm 5)) (qM (qS (d2 zW (qO 2 S__law_draw (qA (qC 4) (qA (d2 qU (d2 zN (dC (.int 2)) (qC 5)) (dC (.int 1))) (qB)))) (qC 5)) (gNm 6)) (qM (qS (d2 zW (qO 2 S__law_draw (qA (qC 4) (qA (d2 qU (d2 zN (dC (.int 2)) (qC 5)) (dC (.int 1))) (qB)))) (qC 5)) (gNm 7)) (qM (uU 8 9 (qA (d2 qU (dC (.int 1)) (qO 2 S__law_draw (qA (qC 4) (qA (qC 5) (qB))))) (qA (qO 2 S__law_draw (qA (qC 4) (qA (qC 5) (qB)))) (qB)))) (qM (qS (zG (qA (qN (qA (qC 6) (qA (qC 7) (qB)))) (qA (qN (qA (d2 qU (qC 6) (qC 8)) (qA (d2 qU (qC 7) (qC 9)) (qB)))) (qB)))) (gNm 10)) (qM (qS (d2 qU (qC 10) (zG (qA (qN (qA (d2 zW (qC 6) (qC 9)) (qA (d2 qU (qC 7) (qC 8)) (qB)))) (qB)))) (gNm 10)) (qM (qS (d2 qU (qC 10) (zG (qA (qN (qA (d2 zW (d2 qU (qC 6) (qC 8)) (qC 9)) (qA (d2 qU (d2 qU (qC 7) (qC 9)) (qC 8)) (qB)))) (qB)))) (gNm 10)) (qM (qS (qK yD (qA (qK wI (qA (qC 10) (qB))) (qB))) (gNm 2)) (qM (uU 11 12 (qA (qO 2 S__law_draw (qA (qC 4) (qA (dC (.int 4)) (qB)))) (qA (qO 1 S__law_point (qA (qC 4) (qB))) (qB)))) (qM (uU 13 14 (qA (d2 zW (qO 2 S__law_draw (qA (qC 4) (qA (dC (.int 3)) (qB)))) (dC (.int 1))) (qA (d2 zW (qO 2 S__law_draw (qA (qC 4) (qA (dC (.int 3)) (qB)))) (dC (.int 1))) (qB)))) (qM (qS (qN (qA (d2 qU (d2 gIx (d2 gIx (qC 2) (qC 11)) (dC (.int 0))) (qC 13)) (qA (d2 qU (d2 gIx (d2 gIx (qC 2) (qC 11)) (dC (.int 1))) (qC 14)) (qB)))) (gNm 15)) (qM (qS (zG (qA (qC 2) (qA (d2 qU (dSl (qC 2) (xI) (zR (qC 11))) (dSl (qC 2) (zR (d2 qU (qC 11) (dC (.int 1)))) (xI))) (qB)))) (gNm 16)) (qM (qS (d2 kM (qC 16) (zG (qA (qK yD (qA (w5 false (d2 qU (qC 2) (qN (qA (qC 12) (qB))))) (qB))) (qA (qO 2 S__law_lot (qA (qC 4) (qA (dC (.int 5)) (qB)))) (qB))))) (gNm 16)) (qM (wD (dBm "list" x9 (qC 16) (qA (qK yD (qA (w5 false (d2 qU (d2 qU (dSl (qC 2) (xI) (zR (qC 11))) (dSl (qC 2) (zR (d2 qU (qC 11) (dC (.int 1)))) (xI))) (qN (qA (qC 15) (qB))))) (qB))) (qB)))) (qM (qS (zG (qA (qN (qA (qC 6) (qA (qC 7) (qB)))) (qA (qN (qA (d2 qU (qC 6) (qC 8)) (qA (d2 qU (qC 7) (qC 9)) (qB)))) (qA (qN (qA (qC 6) (qA (d2 qU (qC 7) (dC (.int 7))) (qB)))) (qA (qN (qA (d2 qU (qC 6) (qC 8)) (qA (d2 qU (d2 qU (qC 7) (qC 9)) (dC (.int 7))) (qB)))) (qB)))))) (gNm 10)) (qM (wD (dBm "list" x9 (qC 16) (qA (qK yD (qA (qK wI (qA (qC 10) (qB))) (qB))) (qB)))) (qM (sIf (vN (dTr (qK (jG false) (qA (zE false [none] (dIt (qC 16)) (gNm 0) (wM) (zT (qO 1 (okO (S__law_right c)) (qA (qC 0) (qB))))) (qB))))) (z9 (dC (.bl false))) (zO)) (qM (qS (qO 2 S__law_no_lot (qA (qC 4) (qA (qC 2) (qB)))) (gNm 17)) (sIf (dTr (d2 gNe (gU false [17] 1 2 (qB) (b__law_refused c (bZ (qO 1 (S_is_square c) (qA (qC 0) (qB)))))) (dC (.str "lot")))) (z9 (dC (.bl false))) (zO)))))))))))))))))))))) (z9 (dC (.bl true)))))
end _K
namespace _K
open PySem _D
variable {cl:Aa Af}{C:Af}{y:Al}{Q:D→Sto→Prop}{a c b:Pt}{S:Sto}{env:qG}
theorem PZ {d:D}(h:Pn d)(S:Sto):S_is_whole [d] S=.ok (.bl (isW d)) S:=by
 rw[gI];obtain⟨p,h⟩:=h;cases d <;> first|kernel_rfl!|simp[pyD] at h
theorem VJ {d:D}(h:Pn d)(a b:Al)(S:Sto):S_is_within [d,.int a,.int b] S=.ok (.bl (inR a b d)) S:=by
 rw[jS];refine xU (zC (env:=[Ab d,Ab (.int a),Ab (.int b)]) rfl ?_);rfl';refine d9 ?_;rfl';refine z0 (PZ h S) ⟨_,rfl,fun e=>?_,fun e=>?_⟩
 ·cases d with
  |int i=>exact cP rfl rfl rfl ⟨rfl,rfl⟩
  |_=>cases e
 ·cases d <;> first|exact⟨rfl,rfl⟩|cases e
theorem iT {d:D}(h:Pn d)(S:Sto):S_is_point [d] S=.ok (.bl (xK d)) S:=by
 rw[gH];refine xU (zC (env:=[Ab d]) rfl ?_);rfl';refine dD ?_;rfl';refine z0 (UM h S) ?_;rfl';refine⟨fun e=>?_,fun e=>?_⟩
 ·rfl'
  exact⟨by rw[MR (by simpa using e)],rfl⟩
 ·cases d with
  |tup xs =>
   rfl';refine xY (fun e=>?_) fun e=>?_
   ·rfl'
    refine vW (enc:=id) (o:=none) xs (fun x=>.bl (isI x)) (fun env S'=>S'=S∧∃ a,env=[a]) ((MV rfl).trans (by rw[Ot])) ⟨rfl,none,rfl⟩ (by unfold lim;omega) (fun _ _ _=>trivial) (fun x hx env S' ⟨e1,a,e2⟩=>?_) fun env S' ⟨e1,_⟩=>?_
    ·subst e1 e2
     rfl';exact z0 (VJ (ZP h x hx) _ _ _) ⟨rfl,rfl,_,rfl⟩
    ·subst e1
     rfl';exact mD ⟨by rw[MP om],rfl⟩
   ·rfl'
    exact⟨by rw[MQ om],rfl⟩
  |_=>cases e
theorem VI (qs:Aa Pt)(hl:qs.length≤1000)(S:Sto):S_is_rising [yA qs] S=.ok (.bl (upB (qs.map kP))) S:=by
 rw[jR];refine xU (zC (env:=[Ab (.tup (qs.map ptD))]) rfl ?_);rfl';have hz:xT (t7 (qA (qC 0) (qA (dSl (qC 0) (zR (dC (.int 1))) (xI)) (qB)))) [Ab (.tup (qs.map ptD))] S=.ok (none,(((qs.map kP).zip ((qs.map kP).drop 1)).map fun p=>D.tup [tpD p.1,tpD p.2])) S:=by
  show Res.ok (none,v8 (qs.map ptD) (zS (qs.map ptD) (Ab 1) none)) S=_;rw[SB,uP,← OP,DW]
 refine vW _ (fun p=>.bl (_H.lexLt p.1 p.2)) (fun env S'=>S'=S∧∃ a b,env=[a,b]) hz ⟨rfl,none,none,rfl⟩ ?_ (fun _ _ _=>trivial) (fun x hx env S' ⟨e1,a,b,e2⟩=>?_) fun env S' ⟨e1,_⟩=>?_
 ·rw[Ra,Aq]
  unfold lim;omega
 ·subst e1 e2
  rfl';exact z0 (R7 _ _ _) ⟨rfl,rfl,_,_,rfl⟩
 ·subst e1
  rfl';exact mD ⟨rfl,rfl⟩
theorem rJ {d:D}(h:Pn d)(S:Sto):S_is_lot [d] S=.ok (.bl (vP d)) S:=by
 rw[bB];refine xU (zC (env:=[Ab d]) rfl ?_);rfl';refine dD ?_;rfl';refine z0 (UM h S) ?_;rfl';refine⟨fun e=>?_,fun e=>?_⟩
 ·rfl'
  exact⟨by rw[KR (by simpa using e)],rfl⟩
 ·cases d with
  |tup xs =>
   rfl';refine cP (b:=(xs.length:Al)) rfl rfl rfl ?_;rfl';refine xY (fun z=>?_) fun z=>?_
   ·have hl:1≤xs.length∧xs.length≤40:=by omega
    rfl';refine d9 ?_;rfl';refine vW (enc:=id) (o:=none) xs (fun x=>.bl (xK x)) (fun env S'=>S'=S∧∃ a,env=[a]) ((MV rfl).trans (by rw[Ot])) ⟨rfl,none,rfl⟩ (by unfold lim;omega) (fun _ _ _=>trivial) (fun x hx env S' ⟨e1,a,e2⟩=>?_) fun env S' ⟨e1,_⟩=>?_
    ·subst e1 e2
     rfl';exact z0 (iT (ZP h x hx) _) ⟨rfl,rfl,_,rfl⟩
    ·subst e1
     rfl';refine mD ⟨_,rfl,fun ha=>?_,fun ha=>?_⟩
     ·obtain⟨qs,rfl,_⟩:=rG ha
      rw[Aq] at hl;rfl';refine z0 (VI qs om _) ⟨?_,rfl⟩;show _=D.bl (decide (1≤(qs.map ptD).length∧(qs.map ptD).length≤40)&&(qs.map ptD).all xK&&(match xW (qs.map ptD) with|some ks=>upB ks|none=>false))
      rw[ha,Aq,Cu hl,uP,yT];rfl
     ·refine⟨?_,rfl⟩
      show _=D.bl (decide (1≤xs.length∧xs.length≤40)&&xs.all xK&&(match xW xs with|some ks=>upB ks|none=>false))
      rw[ha,Ji,Gc]
   ·rfl'
    refine⟨?_,rfl⟩;show _=D.bl (decide (1≤xs.length∧xs.length≤40)&&xs.all xK&&(match xW xs with|some ks=>upB ks|none=>false))
    rw[Cq om,Gc,Gc]
  |_=>cases e
theorem eM (c:Cl){d:D}(S:Sto)(h:Pn d)(k:vP d=true):S_need_lot c [d] S=.ok .non S:=by
 rw[u3];refine xU (zC (env:=[Ab d]) rfl ?_);rfl';refine z0 (rJ h S) ?_;rw[k];rfl';exact⟨rfl,rfl⟩
theorem eK (c:Cl){d:D}(S:Sto)(h:Pn d)(k:vP d=false):S_need_lot c [d] S=.ex (.ref c.NoLot) .non S:=by
 rw[u3];refine rP (env:=[Ab d]) (env':=[Ab d]) rfl ?_;exact SW (xU (ZI (N2 (ZH (jU (o_v rfl (dB ⟨rfl,z0 ((rJ h S).trans (by rw[k])) ⟨_,rfl,rfl,rfl⟩⟩))))))) (VL _ _ _ _)
theorem zF {p:Aj}{m:Al}(h:yE S p)(hm:0<m∧m<1073741824)(q:∀ (r:Aj) S1,Kp p S S1→(r:Al)<m→Q (.int r) S1):Ok (S__law_draw [.loc p,.int m] S) Q:=by
 have fin:∀ r v f:Al,0≤r→r<m→Q (.int r) (S.set p (.lst [.int v,.int f])):=fun r v f h0 h1=>by
  obtain⟨r,rfl⟩:=Int.eq_ofNat_of_zero_le h0;obtain⟨v0,f0,e⟩:=h;have hpl:=(Av.mp e).1;exact q r _ ⟨⟨v,f,by simp[hpl]⟩,by simp,fun i hi hn=>Bz (Fx hn)⟩ h1
 obtain⟨v,f,e⟩:=h;have hpl:=(Av.mp e).1;rw[jO];refine zC (env:=[Ab (.loc p),Ab (.int m),none]) rfl ?_;rfl';refine kX e (d:=.int f) rfl ?_;rfl';refine xY (fun z=>?_) fun z=>?_
 ·rfl'
  refine kX e (d:=.int v) rfl ?_;rfl';refine kX e (d:=.int v) rfl ?_;rfl';refine ZJ e rfl ?_;rfl';exact fin _ _ _ (Kg _ om) (Iy _ hm.1)
 ·rfl'
  refine kX e (d:=.int v) rfl ?_;have hv:=Kg v (show (2147483629:Al)≠0 by omega)
  have hv':=Iy v (show (0:Al)<2147483629 by omega)
  rfl';have hw:=Kg (v % 2147483629*48271+11) (show (2147483629:Al)≠0 by omega)
  have hw':=Iy (v % 2147483629*48271+11) (show (0:Al)<2147483629 by omega)
  generalize (v % 2147483629*48271+11) % 2147483629=w at hw hw';refine ZJ e rfl ?_;have e2:(S.set p (MO.lst [.int w,.int f]))[p]? = Ab (.lst [.int w,.int f]):=by simp[hpl]
  rfl';refine kX e2 (d:=.int w) rfl ?_;rfl';refine kX e2 (d:=.int w) rfl ?_;rfl';refine kX e2 (d:=.int w) rfl ?_;rfl';exact fin _ _ _ (Kg _ om) (Iy _ hm.1)
theorem RL {x:Al}(q:∀ p S1,yE S1 p→Q (.loc p) S1):Ok (S__law_pen [.int x] S) Q:=by
 rw[gG];refine zC (env:=[Ab (.int x)]) rfl ?_;rfl';refine z0 (d:=.int 1000000000000000000) rfl ?_;rfl';refine z0 (d:=.int (b01 (decide (1000000000000000000≤x)))) rfl ?_;rfl';exact q _ _ ⟨_,_,zZ _ _⟩
theorem RA (nd:cl.Nodup){i j:Aj}{a b:Af}(ha:cl[i]? = Ab a)(hb:cl[j]? = Ab b)(h:i≠j):(a == b)=false:=by
 rw[Im];rintro rfl;obtain⟨h1,e1⟩:=Av.mp ha;obtain⟨h2,e2⟩:=Av.mp hb;exact h ((Lr nd).mp (e1.trans e2.symm))
theorem RF {B:Af}(hC:C∈cl)(hB:B∈cl)(q:Q (.bl (C == B)) S):Ok (zM cl [.exn (.ref C),.obj B] S) Q:=by
 refine⟨_,_,?_,q⟩;show (if (cl.contains C&&cl.contains B)=true then Res.ok (D.bl (C == B)) S else .bad)=_
 rw[Fj.mpr hC,Fj.mpr hB];rfl
theorem RG (hC:C∈cl)(q:Q (.bl true) S):Ok (zM cl [.exn (.ref C),.ty "ValueError"] S) Q:=by
 refine⟨_,_,?_,q⟩;show (if (cl.contains C&&(("ValueError" : Ed) == "ValueError"))=true then Res.ok (D.bl true) S else .bad)=_
 rw[Fj.mpr hC];rfl
theorem R9 (nd:cl.Nodup){i j:Aj}{a b:Af}(ha:cl[i]? = Ab a)(hb:cl[j]? = Ab b):decide (i=j)=(a == b):=by
 by_cases h:i=j
 ·subst h
  cases ha.symm.trans hb;rw[Cu rfl,Fu]
 ·rw[Cq h,RA nd ha hb h]
theorem eG (c:Cl)(nd:(xX c).Nodup)(S:Sto):S__law_kinds c [.exn (.ref c.NoLot)] S=.ok (.str "lot") S:=by
 have s:∀ {Q:D→Sto→Prop} (j:Aj) {B:Af},(xX c)[j]? = Ab B→Q (.bl (decide (1=j))) S→Ok (zM (xX c) [.exn (.ref c.NoLot),.obj B] S) Q:=fun j B h q=>RF (Bm (i:=1) rfl) (Bm h) (R9 nd (i:=1) rfl h▸q);rw[j0];refine xU (zC (env:=[Ab (.exn (.ref c.NoLot)),none,none]) rfl ?_);rfl';refine s 0 rfl ?_;rfl';refine s 1 rfl ?_;rfl';refine s 2 rfl ?_;rfl';refine s 3 rfl ?_;rfl';refine s 4 rfl ?_;rfl';refine s 5 rfl ?_;rfl';refine w4 (Bj rfl) ?_;rfl';refine s 6 rfl ?_;rfl';refine s 7 rfl ?_;rfl';refine s 8 rfl ?_;rfl';refine w4 (Bj rfl) ?_;rfl';refine s 9 rfl ?_;rfl';refine s 10 rfl ?_;rfl';refine w4 (Bj rfl) ?_;rfl';refine dD ?_;rfl';refine RG (Bm (i:=1) rfl) ?_;rfl';refine⟨(fun e=>by cases e),fun _=>?_⟩
 rfl';refine z0 (d:=.int 1) (S:=S) (by kernel_rfl!) ?_
 rfl';refine xY (fun _=>?_) fun e=>absurd rfl e;rfl';refine s 9 rfl ?_;rfl';refine xY (fun e=>absurd e (by decide)) fun _=>?_
 rfl';refine s 10 rfl ?_;rfl';refine xY (fun e=>absurd e (by decide)) fun _=>?_
 rfl';refine z0 (d:=.int 1) (S:=S) (by kernel_rfl!) ?_
 exact dA (d:=.str "lot") rfl ⟨rfl,rfl⟩
def sq (b:Ar)(ws:Aa D):D:=match b with
 |true=>.tup ws
 |false=>.lst ws
theorem U9 (ws:Aa D):v8 ws ws=ws.map fun x=>D.tup [x,x]:=by
 induction ws with
 |nil=>rfl
 |cons w ws ih=>exact congrArg (D.tup [w,w]::·) ih
theorem rQ (F:DF)(b:Ar)(ws:Aa D)(S:Sto)(hw:ws.length≤lim)(ih:∀ x∈ws,F [x,x] S=.ok (.bl true) S):qT 2 (b__law_same F) [sq b ws,sq b ws] S=.ok (.bl true) S:=by
 have t1:zY [sq b ws,.ty "list"] S=.ok (.bl (!b)) S:=by cases b <;> kernel_rfl!
 have t2:zY [sq b ws,.ty "tuple"] S=.ok (.bl b) S:=by cases b <;> kernel_rfl!
 have t3:kK [sq b ws,.tup [.ty "list",.ty "tuple"]] S=.ok (.bl true) S:=by cases b <;> kernel_rfl!
 have l:xP [sq b ws] S=.ok (.int ws.length) S:=by cases b <;> rfl
 have n:∀ x:Ar,gNe (.bl x) (.bl x) S=.ok (.bl false) S:=fun x=>by cases x <;> rfl
 have hz:xT (t7 (qA (qC 0) (qA (qC 1) (qB)))) [Ab (sq b ws),Ab (sq b ws)] S=.ok (none,ws.map fun x=>D.tup [x,x]) S:=by
  rw[← U9];cases b <;> rfl
 refine xU (zC (env:=[Ab (sq b ws),Ab (sq b ws)]) rfl ?_);rfl';refine z0 (d:=.bl false) (S:=S) (by cases b <;> rfl) ?_
 rfl';refine z0 t3 ?_;rfl';refine z0 t1 ?_;rfl';refine z0 t1 ?_;rfl';refine z0 (n _) ?_;rfl';refine dD ?_;rfl';refine z0 t2 ?_;rfl';refine z0 t2 ?_;rfl';refine z0 (n _) ?_;rfl';refine⟨(fun e=>by cases e),fun _=>?_⟩
 rfl';refine z0 l ?_;rfl';refine z0 l ?_;rfl';refine xY (fun _=>?_) fun e=>absurd rfl e;rfl';refine vW ws (fun _=>.bl true) (fun env S'=>S'=S∧∃ a b,env=[a,b]) hz ⟨rfl,none,none,rfl⟩ hw (fun _ _ _=>trivial) (fun x hx env S' ⟨e1,a,b,e2⟩=>?_) fun env S' ⟨e1,_⟩=>?_
 ·subst e1 e2
  rfl';exact z0 (ih x hx) ⟨rfl,rfl,_,_,rfl⟩
 ·subst e1
  rfl';exact mD (p:=fun _=>true) ⟨by simp,rfl⟩
theorem b7 (F:DF){d:D}(S:Sto)(h1:gIs d .non S=.ok (.bl false) S)(h2:kK [d,.tup [.ty "list",.ty "tuple"]] S=.ok (.bl false) S)(h3:zY [d,.ty "str"] S=.ok (.bl false) S){b:Ar}(h4:zY [d,.ty "bool"] S=.ok (.bl b) S)(h5:zY [d,.ty "int"] S=.ok (.bl true) S)(h6:gEq d d S=.ok (.bl true) S):qT 2 (b__law_same F) [d,d] S=.ok (.bl true) S:=by
 refine xU (zC (env:=[Ab d,Ab d]) rfl ?_);rfl';refine z0 h1 ?_;rfl';refine z0 h2 ?_;rfl';refine z0 h3 ?_;rfl';refine z0 h4 ?_;rfl';refine z0 h4 ?_;rfl';refine z0 (d:=.bl false) (S:=S) (by cases b <;> rfl) ?_
 rfl';refine d9 ?_;rfl';refine z0 h5 ⟨_,rfl,fun _=>?_,fun e=>by cases e⟩
 rfl';exact z0 h6 ⟨rfl,rfl⟩
def okD:Aj→D→Prop
 |n+1,.tup xs=>xs.length≤lim∧∀ x∈xs,okD n x
 |n+1,.lst xs=>xs.length≤lim∧∀ x∈xs,okD n x
 |_,.int _=>Je
 |_,.bl _=>Je
 |_,_=>Ev
theorem XD:∀ (n:Aj) (d:D) (S:Sto),okD n d→mP (n+1) [d,d] S=.ok (.bl true) S:=by
 intro n
 induction n with
 |zero =>
  intro d S h;cases d with
  |int i=>exact b7 _ S rfl (by kernel_rfl!) (by kernel_rfl!) (b:=false) (by kernel_rfl!) (by kernel_rfl!) (xU (TU ⟨by rw[Cu rfl],rfl⟩))
  |bl b=>exact b7 _ S rfl (by kernel_rfl!) (by kernel_rfl!) (b:=true) (by kernel_rfl!) (by kernel_rfl!) (by cases b <;> rfl)
  |_=>exact An h
 |succ n ih =>
  intro d S h;cases d with
  |tup ws=>exact rQ _ true ws S h.1 fun x hx=>ih x S (h.2 x hx)
  |lst ws=>exact rQ _ false ws S h.1 fun x hx=>ih x S (h.2 x hx)
  |int i=>exact b7 _ S rfl (by kernel_rfl!) (by kernel_rfl!) (b:=false) (by kernel_rfl!) (by kernel_rfl!) (xU (TU ⟨by rw[Cu rfl],rfl⟩))
  |bl b=>exact b7 _ S rfl (by kernel_rfl!) (by kernel_rfl!) (b:=true) (by kernel_rfl!) (by kernel_rfl!) (by cases b <;> rfl)
  |_=>exact An h
theorem X7 {d:D}(S:Sto)(h:okD 3 d):S__law_same [d,d] S=.ok (.bl true) S:=by
 rw[jQ];exact XD 3 d S h
theorem HM {i:Aj}{a:Af}{cv:Aa _L.V}{G:Aa D→DF}{caps:Aa D}(h:env[i]? = Ab (Ab (.clo a cv caps))):kJ i (qB) a cv 0 G env S=G caps [] S:=by
 unfold kJ;rw[h];show (if a=a∧cv=cv then _ else _)=_
 rw[Bh ⟨rfl,rfl⟩];rfl
theorem RN {c:Cl}{wd:As}{cap:Aa Aj}{fe:DE}(hC:(gQ c).contains (.ref C)=true)(hk:∀ S,S__law_kinds c [.exn (.ref C)] S=.ok (.str wd) S){caps:Aa D}(h:bO cap env=Ab caps){x:D}(e:fe (caps.map Ab) S=.ex (.ref C) x S)(q:Q (.str wd) S):Ok (gU false cap 1 2 (qB) (b__law_refused c (bZ fe)) env S) Q:=by
 refine⟨_,_,?_,q⟩;unfold gU;rw[h];show (if 0+1=1 then exO false (uni fun a cv=>qT 2 (b__law_refused c (bZ fe) a cv) [.clo a cv caps] S) else .bad)=_
 rw[Bh rfl,DC (R:=.ok (.str wd) S) fun a cv=>?_]
 ·rfl
 ·have e':kJ 0 (qB) a cv 0 (bZ fe) [Ab (.clo a cv caps),none] S=.ex (.ref C) x S:=(HM rfl).trans (by unfold bZ;exact e)
  refine xU (zC (env:=[Ab (.clo a cv caps),none]) rfl ?_);refine dN ?_;have k:fE 2 1 (gQ c) (wD (kJ 0 (qB) a cv 0 (bZ fe))) (z9 (qO 1 (S__law_kinds c) (qA (qC 1) (qB)))) [Ab (.clo a cv caps),none] S=.rt (.str wd) S:=by
   unfold fE wD;rw[e'];simp only[Res.toS,hC,Eb];have z:qO 1 (S__law_kinds c) (qA (qC 1) (qB)) ((Ct 2 none).set 1 (Ab (.exn (.ref C)))) S=.ok (.str wd) S:=(fO rfl).trans (hk S);simp only[z9,z,Res.toS]
  rw[k];exact⟨rfl,rfl⟩
theorem PX (ns:Aa Al)(hl:ns.length≤63)(k:Al){Q:Aa D→Sto→Prop}{env:qG}{S:Sto}(h0:env[0]? = Ab (Ab (.lst (ns.map D.int))))(q:∀ ms:Aa Al,Q (ms.map D.int) S):Ok (vS (d2 qU (zG (qA (qO 2 S__law_cell (qA (qC 0) (qA (dC (.int 0)) (qB)))) (qB))) (dSl (qC 0) (zR (dC (.int 1))) (zR (dC (.int k))))) env S) Q:=by
 have hc:∃ x:Al,S__law_cell [.lst (ns.map D.int),.int 0] S=.ok (.int x) S:=by
  rw[jN];cases ns with
  |nil=>exact⟨0,xU (zC (env:=[Ab (.lst []),Ab (.int 0)]) rfl (by rfl';exact⟨rfl,rfl⟩))⟩
  |cons n ns =>
   refine⟨n,xU (zC (env:=[Ab (.lst ((n::ns).map D.int)),Ab (.int 0)]) rfl ?_)⟩;rfl';refine xY (fun _=>?_) fun e=>absurd (by rw[Aq,Cj];omega) e
   rfl';exact dA (bK (a:=0) (by simp)) ⟨rfl,rfl⟩
 obtain⟨x,hx⟩:=hc;refine GK (o_2 (RK (jU (ZH (jU (o_v h0 ?_))))));rfl';refine z0 hx ?_;rfl';refine o_v h0 ?_;rfl';have hm:zS (ns.map D.int) (Ab 1) (Ab k)=((ns.drop (_H.sIx (ns.map D.int).length 0 (Ab 1))).take (_H.sIx (ns.map D.int).length (ns.map D.int).length (Ab k)-_H.sIx (ns.map D.int).length 0 (Ab 1))).map D.int:=by
  unfold zS;rw[Ym,OP]
 rw[hm];refine w4 ?_ ⟨_,rfl,q (x::_)⟩;rw[Aq,Hm,Iq];show 1+_≤lim;unfold lim;omega
def yY:Aa Aj:=[1,2,4,5,8,9,10,13,16,17,18,20,25,26,29,32,34,36,40,45,50,52,58,64,65,68,72,80,81,85,90,100,104,116,117,125,128,130,136,144,145,153,160,162,169,170,180,200,208,221,225,232,234,250,256,260,261,272,288,289,290,306,320,324,325,338,340,360,377,400,405,416,425,442,450,464,468,493,500,512,520,522,544,576,578,580,585,612,625,640,648,650,676,680,720,725,729,754,765,800,810,832,841,845,850,884,900,928,936,986,1000,1024,1040,1044,1053,1088,1105,1125,1152,1156,1160,1170,1224,1250,1280,1296,1300,1305,1352,1360,1377,1440,1445,1450,1458,1508,1521,1530,1600,1620,1625,1664,1682,1690,1700,1768,1800,1856,1872,1885,1972,1989,2000,2025,2048,2080,2088,2106,2125,2176,2197,2210,2250,2304,2312,2320,2340,2349,2448,2465,2500,2560,2592,2600,2601,2610,2704,2720,2754,2873,2880,2890,2900,2916,2925,3016,3042,3060,3125,3200,3240,3250,3328,3364,3380,3393,3400,3536,3600,3625,3645,3712,3744,3757,3770,3825,3944,3978,4000,4050,4096,4160,4176,4205,4212,4225,4250,4352,4394,4420,4437,4500,4608,4624,4640,4680,4698,4896,4901,4913,4930,5000]
def fcs:Aa Aj:=[2,5,13,17,4,9,5,29]
theorem VP {n f:Aj}(hn:n∈yY)(hf:f∈fcs)(h:n*f≤5000):n*f∈yY:=by
 have k:yY.all (fun n=>fcs.all fun f=>!Nat.ble (n*f) 5000||yY.contains (n*f))=true:=kd
 have:=Bq.mp (Bq.mp k n hn) f hf;rw[Rt h] at this;simpa using this
def hs (n j:Aj):Ar:=(Ce 71).any fun y=>Nat.beq (j*j+y*y) n
def cnt (n i:Aj):Aj:=(Ce i).countP (hs n)
def msk:Aj:=(Ce 71).foldl (fun m y=>m ||| 1 <<< (y*y)) 0
def ch (n j:Aj):Ar:=Zl (j*j) n&&msk.testBit (n-j*j)
theorem DX {n j:Aj}(h:hs n j=true):ch n j=true:=by
 have k:(Ce 71).all (fun y=>msk.testBit (y*y))=true:=kd;obtain⟨y,hy,e⟩:=Gz.mp h;have e:=Ru e;unfold ch;rw[show n-j*j=y*y by omega,Bq.mp k y hy,Rt om]
 rfl
theorem VO {n:Aj}(hn:n∈yY):1≤cnt n 71∧cnt n 71≤15:=by
 have k:yY.all (fun n=>Zl ((Ce 71).countP (ch n)) 15&&(Ce 71).any fun j=>ch n j&&hs n j)=true:=kd;have:=Bq.mp k n hn;rw[AT] at this;refine⟨?_,Cr (Mc fun _ _=>DX) (Bj this.1)⟩;obtain⟨j,hj,e⟩:=Gz.mp this.2;rw[AT] at e;exact List.countP_pos_iff.mpr ⟨j,hj,e.2⟩
theorem a8 {n:Aj}(hn:n∈yY):n≤5000:=by
 have k:yY.all (fun n=>Zl n 5000)=true:=kd;exact Bj (Bq.mp k n hn)
theorem TZ {p:Aj}(h:yE S p)(q:∀ (n:Aj) S1,Kp p S S1→n∈yY→Q (.int n) S1):Ok (S__law_rich [.loc p,.int 5000] S) Q:=by
 rw[jP];refine zC (env:=[Ab (.loc p),Ab (.int 5000),none,none,none]) rfl ?_;rfl';refine zF h om fun r S1 k1 h1=>?_;rfl';refine⟨by omega,by omega,?_⟩
 refine y0 (fun _ env S'=>∃ (n:Aj) (e3 e4:Am D),env=[Ab (.loc p),Ab (.int 5000),Ab (.int n),e3,e4]∧Kp p S S'∧n∈yY) ?_ ?_ ⟨1,_,_,rfl,k1,by decide⟩
 ·rintro x xs _ S' ⟨n,e3,e4,rfl,K,hn⟩
  rfl';refine zF K.pen om fun r S2 k2 h2=>?_;rfl';refine pU (show r<8 by omega) fun d hd=>?_
  obtain⟨f,hf,rfl⟩:=Ci.mp (show d∈fcs.map fun (f:Aj)=>D.int f from hd)
  have:=a8 hn;have e:(n:Al)*(f:Al)=((n*f:Aj):Al):=by push_cast;rfl
  rfl';refine xY (fun z=>?_) fun z=>?_
  ·rfl'
   exact v7 ⟨n*f,_,_,by rw[e],K.trans k2,VP hn hf om⟩
  ·rfl'
   exact v7 ⟨n,_,_,rfl,K.trans k2,hn⟩
 ·rintro _ S' ⟨n,e3,e4,rfl,K,hn⟩
  rfl';exact q n S' K hn
def sqs (n:Aj):Aa (_L.Key × D):=(Ce n).map fun (i:Aj)=>(.inl ((i:Al)*(i:Al)),.int (i:Al))
theorem LY {a b:Aj}(h:(a:Al)*(a:Al)=(b:Al)*(b:Al)):a=b:=by
 have h':a*a=b*b:=by exact_mod_cast h
 rcases OI a b with z|z|z
 ·exact absurd h' (Cd (Ou z (Fm z) om))
 ·exact z
 ·exact absurd h'.symm (Cd (Ou z (Fm z) om))
theorem BB (n:Aj):wB (sqs n) (.inl ((n:Al)*(n:Al))) (.int (n:Al))=sqs (n+1):=by
 unfold wB;rw[Bn]
 ·unfold sqs
  rw[Xg,Dy];rfl
 ·intro h
  obtain⟨kv,hk,e⟩:=Gz.mp h;obtain⟨i,hi,rfl⟩:=Ci.mp hk;have e:=Bw e;injection e with e
  have:=LY e;have:=Ej.mp hi;omega
theorem VV {n:Aj}{f:Al}{d:D}(h:zP (sqs n) (.inl f)=Ab d):∃ i:Aj,i<n∧d=.int (i:Al)∧f=(i:Al)*(i:Al):=by
 unfold zP at h;obtain⟨kv,h1,rfl⟩:=Cs.mp h;have h2:=Xf h1;obtain⟨i,hi,rfl⟩:=Ci.mp (OO h1);have h2:=Bw h2;injection h2 with h2
 exact⟨i,Ej.mp hi,rfl,h2.symm⟩
theorem BA {n i:Aj}(hi:i<n):(zP (sqs n) (.inl ((i:Al)*(i:Al)))).isSome=true:=by
 unfold zP;rw[O7,List.find?_isSome];exact⟨_,Ci.mpr ⟨i,Ej.mpr hi,rfl⟩,by simp⟩
theorem YL {c n:Aj}(h:c*c≤n)(hn:n≤5000):c≤70:=by
 rcases Yx 70 c with z|z
 ·have:=Sg (show 71≤c by omega) (show 71≤c by omega)
  omega
 ·exact z
theorem SV {n j y:Aj}(h:j*j+y*y=n)(hn:n≤5000):hs n j=true:=Gz.mpr ⟨y,Ej.mpr (by have:=YL (show y*y≤n by omega) hn;omega),by subst h;exact Nat.beq_refl _⟩
theorem UG (n i:Aj):cnt n (i+1)=cnt n i+if hs n i=true then 1 else 0:=by
 unfold cnt;rw[Xg,List.countP_append,List.countP_singleton]
def ML (x y:Al):Aa Pt:=[(x,y),(0-x,y),(x,0-y)]++[(0-x,0-y)]
theorem YV {n:Aj}(hn:n∈yY)(q:∀ (ps:Aa Pt) S',S<+:S'→ps≠[]→(∀ z∈ps,InB 990 z)→ps.length≤60→Q (.lst (ps.map ptD)) S'):Ok (S__law_circle [.int n] S) Q:=by
 have n5:=a8 hn;rw[uG];refine zC (env:=[Ab (.int n),none,none,none,none,none]) rfl ?_;rfl';refine⟨by omega,by omega,?_⟩
 refine y0 (xs:=Ce 1001) (fun xs env S'=>∃ (i:Aj) (e3:Am D),i+xs.length=1001∧xs=Zg i (1001-i)∧env=[Ab (.int n),Ab (.loc S.length),Ab (.lst []),e3,none,none]∧S'=S++[.dct (sqs i)]) ?_ ?_ ⟨0,_,by simp,by rw[Sm],rfl,rfl⟩
 ·rintro x xs _ _ ⟨i,e3,hl,hx,rfl,rfl⟩
  have hi:i<1001:=by simp at hl;omega
  rw[show 1001-i=(1001-(i+1))+1 by omega,Wq] at hx
  injection hx with h1 h2
  subst h1;rfl';refine N0 (zZ _ _) (by unfold sqs;rw[Aq,Hj];unfold lim;omega) ?_
  rw[gC,BB];rfl';exact v7 ⟨x+1,_,by simp at hl;omega,h2,rfl,rfl⟩
 ·rintro _ _ ⟨i,e3,hl,hx,rfl,rfl⟩
  have hi:i=1001:=by simpa using hl
  subst hi;have hS:=zZ S (.dct (sqs 1001));have hp:S<+:S++[.dct (sqs 1001)]:=Fa _ _;generalize S++[.dct (sqs 1001)]=T at hS hp;rfl';refine⟨by omega,by omega,?_⟩
  refine y0 (xs:=Ce 1001) (fun xs env S'=>∃ (i:Aj) (fd:Aa Pt) (e4 e5:Am D),i+xs.length=1001∧xs=Zg i (1001-i)∧env=[Ab (.int n),Ab (.loc S.length),Ab (.lst (fd.map ptD)),e3,e4,e5]∧S'=T∧fd.length=4*cnt n (min i 71)∧∀ z∈fd,InB 990 z) ?_ ?_ ⟨0,[],_,_,by simp,by rw[Sm],rfl,rfl,rfl,fun _ h=>by cases h⟩
  ·rintro x xs _ _ ⟨i,fd,e4,e5,hl,hx,rfl,rfl,hc,hb⟩
   have hi:i<1001:=by simp at hl;omega
   rw[show 1001-i=(1001-(i+1))+1 by omega,Wq] at hx
   injection hx with h1 h2
   subst h1;have cl:cnt n (min x 71)≤71:=Cr (List.countP_le_length) (by rw[Hj];omega)
   rfl';refine RE hS ?_;rfl';cases hv:zP (sqs 1001) (.inl ((n:Al)-(x:Al)*(x:Al))) with
   |none =>
    rfl';refine v7 ⟨x+1,fd,_,_,by simp at hl;omega,h2,rfl,rfl,?_,hb⟩
    rcases Yx x 71 with z|z
    ·rw[IX om] at hc ⊢
     rw[UG,Bn,hc]
     ·rfl
     ·intro w
      obtain⟨y,hy,e⟩:=Gz.mp w;have e:=Ru e;have h3:=BA (n:=1001) (i:=y) (by have:=Ej.mp hy;omega)
      rw[show (n:Al)-(x:Al)*(x:Al)=(y:Al)*(y:Al) by rw[← e];push_cast;omega] at hv
      rw[hv] at h3;cases h3
    ·rw[hc,Pm z,Pm om]
   |some d =>
    obtain⟨y,hy,rfl,e⟩:=VV hv;have e2:x*x+y*y=n:=by
     have:((x*x+y*y:Aj):Al)=(n:Al):=by push_cast;omega
     exact_mod_cast this
    have x70:=YL (show x*x≤n by omega) n5
    have y70:=YL (show y*y≤n by omega) n5
    refine w_t ?_;rfl';refine RH hS hv ?_;rfl';refine w4 (by rw[Aq];show _+3≤lim;unfold lim;omega) ?_
    rfl';refine w4 (by rw[Ca,Aq];show _+3+1≤lim;unfold lim;omega) ?_
    rfl';refine v7 ⟨x+1,fd++ML (x:Al) (y:Al),_,_,by simp at hl;omega,h2,by rw[Dy,Gr];rfl,rfl,?_,fun z hz=>?_⟩
    ·rw[Ca,hc,IX om,IX om,UG,Bh (SV e2 n5)]
     show _+4=_;omega
    ·rcases Co.mp hz with hz|hz
     ·exact hb z hz
     ·simp only[ML,Gy,Hi,Ay,Cp,Fo] at hz
      unfold InB;rcases hz with rfl|rfl|rfl|rfl <;> dsimp only <;> omega
  ·rintro _ _ ⟨i,fd,e4,e5,hl,hx,rfl,rfl,hc,hb⟩
   have hi:i=1001:=by simpa using hl
   subst hi;have h15:=VO hn;have hlen:fd.length=4*cnt n 71:=hc;rfl';refine YX ?_;rfl';refine⟨by omega,q (xM fd) _ hp (fun z=>?_) (fun z hz=>hb z ((vJ fd z).mp hz)) (Cr (fG fd) om)⟩
   cases fd with
   |nil=>simp at hlen;omega
   |cons w ws =>
    have:w∈xM (w::ws):=(vJ _ w).mpr (by simp)
    rw[z] at this;cases this
def UC:Aa Pt:=(Ce 25).map fun (i:Aj)=>((i:Al)/5,(i:Al) % 5)
def R4:Aa Pt:=(Ce 20).map fun (i:Aj)=>(2*(i:Al),3*(i:Al))
def R5:Aa Pt:=(Ce 5).map fun (i:Aj)=>((i:Al),0)
def DZ:Aa Pt:=[(0,0),(0,4),(4,0),(4,4),(2,2),(-1,2),(2,-1),(5,2),(2,5),(1,1),(6,6)]
theorem dE {fe:DE}(n:Aj)(hn:n≤1000)(g:Aj→Pt)(step:∀ i:Aj,Ok (fe [Ab (.int i)] S) fun d S3=>d=ptD (g i)∧S3=S)(q:Q (.lst (((Ce n).map g).map ptD)) S):Ok (zE false [none] (xT (yJ (qA (dC (.int (n:Al))) (qB)))) (gNm 0) (wM) (zT fe) env S) Q:=by
 refine vW (Ce n) (fun i=>ptD (g i)) (fun env S'=>S'=S∧∃ a,env=[a]) (HZ om) ⟨rfl,none,rfl⟩ (by rw[Hj];unfold lim;omega) (fun _ _ _=>trivial) (fun x hx env S' ⟨e1,a,e2⟩=>?_) fun env S' ⟨e1,_⟩=>?_
 ·subst e1 e2
  rfl';exact zD (step x) fun d S3 ⟨h1,h2⟩=>⟨h1,h2,_,rfl⟩
 ·subst e1
  rw[Gn] at q;exact q
structure SmOk (p:Aj)(S:Sto)(d:D)(S':Sto)(ps:Aa Pt):Prop where
 seq:fF d S'=Ab (ps.map ptD)
 ne:ps≠[]
 len:ps.length≤60
 box:∀ q∈ps,InB 990 q
 kp:Kp p S S'
theorem yV {α:Type}:∀ (l:Aa α) (i:Aj) (h:i<l.length),(l[i]::l.eraseIdx i).Perm l
 |[],i,h=>by simp at h
 |x::l,0,_=>Nu _
 |x::l,i+1,h=>(Xu x _ _).trans ((yV l i (by simpa using h)).cons x)
theorem l9 {α β:Type}(f:α→β):∀ (l:Aa α) (i:Aj),(l.map f).eraseIdx i=(l.eraseIdx i).map f
 |[],_=>rfl
 |_::_,0=>rfl
 |x::l,i+1=>congrArg (f x::·) (l9 f l i)
structure WI (p a many:Aj)(all:Aa Pt)(S S':Sto)(done rest:Aa Pt):Prop where
 ra:S'[a]? = Ab (.lst (rest.map ptD))
 rb:S'[a+1]? = Ab (.lst (done.map ptD))
 perm:(done++rest).Perm all
 le:done.length≤many
 kp:Kp p S S'
theorem RI (p M:Aj)(hM:1≤M∧M≤40){S:Sto}(h:yE S p)(q:∀ (l:Aa Pt) S',Kp p S S'→Lot M l→Q (yA l) S'):Ok (S__law_lot [.loc p,.int (M:Al)] S) Q:=by
 rw[gF];refine zC (env:=[Ab (.loc p),Ab (.int (M:Al)),none,none,none,none,none,none,none,none,none]) rfl ?_;rfl';refine zF h om fun way S1 k1 h1=>?_;rfl';refine zF k1.pen om fun m S2 k2 h2=>?_;obtain⟨many,em,hm⟩:∃ many:Aj,1+(m:Al)=(many:Al)∧1≤many∧many≤M:=⟨1+m,by omega,by omega,by omega⟩
 rfl';rw[em];refine zF k2.pen om fun x S3 k3 h3=>?_;rfl';refine zF k3.pen om fun y S4 k4 h4=>?_;rfl';refine zF k4.pen om fun r S5 k5 h5=>?_;have hx : -10≤(x:Al)-10∧(x:Al)-10≤10:=by omega
 have hy : -10≤(y:Al)-10∧(y:Al)-10≤10:=by omega
 generalize (x:Al)-10=x at hx;generalize (y:Al)-10=y at hy;refine pU (show r<3 by omega) fun d hd=>?_
 obtain⟨wide,rfl,hw⟩:∃ w:Al,d=.int w∧3≤w∧w≤900:=by
  simp only[Ay,Cp,Fo] at hd;rcases hd with rfl|rfl|rfl <;> exact⟨_,rfl,by omega⟩
 have K5:Kp p S S5:=(((k1.trans k2).trans k3).trans k4).trans k5;clear k1 k2 k3 k4 k5 h1 h2 h3 h4 h5 hd em;array_get_dec;array_get_dec;refine EI (fun env S'=>∃ d e8 e9 ps,env=[Ab (.loc p),Ab (.int (M:Al)),Ab (.int way),Ab (.int (many:Al)),Ab (.int x),Ab (.int y),Ab (.int wide),Ab d,e8,e9,none]∧SmOk p S d S' ps) (fun P' hP=>?_) ?_
 ·rfl'
  refine xY (fun z=>?_) fun z=>?_
  ·rfl'
   refine TZ K5.pen fun n S6 k6 hn=>?_;rfl';refine YV hn fun ps S7 k7 ne hb hl=>?_;rfl';exact hP _ _ ⟨_,_,_,ps,rfl,rfl,ne,hl,hb,(K5.trans k6).trans (Kp.pre k6.pen k7)⟩
  rfl';refine xY (fun z=>?_) fun z=>?_
  ·rfl'
   refine dE 25 om (fun (i:Aj)=>((i:Al)/5,(i:Al) % 5)) (fun i=>?_) ?_
   ·rfl'
    exact rfl
   ·rfl'
    exact hP _ _ ⟨_,_,_,UC,rfl,rfl,by decide,by decide,kd,K5⟩
  rfl';refine xY (fun z=>?_) fun z=>?_
  ·rfl'
   refine dE 20 om (fun (i:Aj)=>(2*(i:Al),3*(i:Al))) (fun i=>?_) ?_
   ·rfl'
    exact rfl
   ·rfl'
    refine dE 5 om (fun (i:Aj)=>((i:Al),0)) (fun i=>?_) ?_
    ·rfl'
     exact rfl
    ·refine w4 (by rw[Aq,Aq];decide) ?_
     rw[← Dy];rfl';exact hP _ _ ⟨_,_,_,R4++R5,rfl,rfl,by decide,by decide,kd,K5⟩
  rfl';refine xY (fun z=>?_) fun z=>?_
  ·rfl'
   exact hP _ _ ⟨_,_,_,DZ,rfl,rfl,by decide,by decide,kd,K5⟩
  rfl';refine⟨by omega,by omega,?_⟩
  have hpl:p<S5.length:=ZN K5.pen;refine y0 (fun xs env S'=>∃ (ps:Aa Pt) (e8 e9:Am D),ps.length+xs.length=M∧(∀ q∈ps,InB 990 q)∧env=[Ab (.loc p),Ab (.int (M:Al)),Ab (.int way),Ab (.int (many:Al)),Ab (.int x),Ab (.int y),Ab (.int wide),Ab (.loc S5.length),e8,e9,none]∧Kp p S5 S'∧S'[S5.length]? = Ab (.lst (ps.map ptD))) ?_ ?_ ⟨[],_,_,by simp,fun _ h=>(by cases h),rfl,Kp.pre K5.pen (Fa _ _),zZ _ _⟩
  ·rintro t xs _ S' ⟨ps,e8,e9,hl,hb,rfl,K,hS⟩
   have la:=(Av.mp hS).1;rfl';refine zF K.pen om fun r1 S6 k6 h6=>?_;have hS6:=(k6.same _ la om).trans hS;rfl';refine⟨jD hS6,?_⟩;rfl';refine zF k6.pen om fun r2 S7 k7 h7=>?_;have hS7:=(k7.same _ (Av.mp hS6).1 om).trans hS6;rfl';refine pT hS7 (by rw[Aq];unfold lim;simp at hl;omega) ?_
   rfl';refine v7 ⟨ps++[((r1:Al)-wide,(r2:Al)-2)],_,_,by simp at hl ⊢;omega,fun z hz=>?_,rfl,((K.trans k6).trans k7).set (Az _) _ om,by rw[Cw (Av.mp hS7).1,Dy];rfl⟩
   rcases Co.mp hz with hz|hz
   ·exact hb z hz
   ·rw[Dh.mp hz]
    unfold InB;dsimp only;omega
  ·rintro _ S' ⟨ps,e8,e9,hl,hb,rfl,K,hS⟩
   refine hP _ _ ⟨_,_,_,ps,rfl,B7 hS,fun z=>?_,by simp at hl;omega,hb,K5.trans K⟩
   subst z;simp at hl;omega
 ·rintro _ S6 ⟨d,e8,e9,ps,rfl,sm⟩
  have hpp:p<S6.length:=ZN sm.kp.pen;rfl';refine RO ?_;rfl';refine⟨ps,sm.seq,by have:=sm.len;omega,?_⟩
  rfl';have hal:=Cr (fG ps) sm.len;have hne:xM ps≠[]:=fun z=>by
   obtain⟨w,hw⟩:=List.exists_mem_of_ne_nil _ sm.ne;have:=(vJ ps w).mpr hw;rw[z] at this;cases this
  rw[Ca,Ri];refine BJ (fun n env S'=>env=[Ab (.loc p),Ab (.int (M:Al)),Ab (.int way),Ab (.int (many:Al)),Ab (.int x),Ab (.int y),Ab (.int wide),Ab (.loc S6.length),e8,e9,Ab (.loc (S6.length+1))]∧∃ done rest,rest.length=n∧WI p S6.length many (xM ps) S S' done rest) ?_ (n:=(xM ps).length) (by rw[F5];omega) ⟨rfl,[],xM ps,rfl,by simp,by simp,by simp,by simp,sm.kp.trans (Kp.pre sm.kp.pen ((Fa _ _).trans (Fa _ _)))⟩
  rintro n _ S' ⟨rfl,done,rest,rfl,W⟩;have hall:=W.perm.length_eq;rw[Ca] at hall;have la:=(Av.mp W.rb).1;refine TR ?_;rfl';have hpre:S'<+:S'++[MO.lst []]:=Fa _ _;refine TX (z:=.bl (!rest.isEmpty)) (rO (pI W.ra hpre) fun x hx=>?_) (rO (xs:=[]) (zZ _ _) fun _ h=>by cases h) ?_ rfl ?_
  ·obtain⟨z,_,rfl⟩:=Ci.mp hx
   rfl
  ·unfold gNe
   rw[rE,show pl wW (.lst []) = true from rfl]
   cases rest <;> rfl
  have W':WI p S6.length many (xM ps) S (S'++[MO.lst []]) done rest:=⟨pI W.ra hpre,pI W.rb hpre,W.perm,W.le,W.kp.trans (Kp.pre W.kp.pen hpre)⟩;have la':S6.length+1<(S'++[MO.lst []]).length:=by rw[Ca];omega
  generalize S'++[MO.lst []] = S' at W' la';clear W hpre la;have fin:¬ (rest≠[]∧done.length<many)→Ok (qK yD (qA (qK wI (qA (zE false [none,Ab 4,Ab 5] (dIt (qC 10)) (gNm 0) (wM) (zT (qN (qA (d2 qU (d2 gIx (qC 0) (dC (.int 0))) (qC 1)) (qA (d2 qU (d2 gIx (qC 0) (dC (.int 1))) (qC 2)) (qB)))))) (qB))) (qB)) [Ab (.loc p),Ab (.int (M:Al)),Ab (.int way),Ab (.int (many:Al)),Ab (.int x),Ab (.int y),Ab (.int wide),Ab (.loc S6.length),e8,e9,Ab (.loc (S6.length+1))] S') Q:=fun hc=>by
   rfl';refine vW done (fun z=>ptD (z.1+x,z.2+y)) (fun env S1=>S1=S'∧∃ a,env=[a,Ab (.int x),Ab (.int y)]) (MU rfl W'.rb) ⟨rfl,none,rfl⟩ (by unfold lim;omega) (fun _ _ ⟨e,_⟩=>by subst e;exact W'.rb) (fun z hz env S1 ⟨e1,a,e2⟩=>?_) fun env S1 ⟨e1,_⟩=>?_
   ·subst e1 e2
    rfl';exact⟨_,rfl⟩
   ·subst e1
    rfl';have hnd:done.Nodup:=(Hf.mp (W'.perm.nodup_iff.mpr (o7 (aG ps)))).1;have hle:=W'.le;rw[show (done.map fun z=>ptD (z.1+x,z.2+y))=(done.map fun z=>(z.1+x,z.2+y)).map ptD by rw[Gn];rfl]
    refine dF (by rw[Aq];omega) ?_
    rfl';refine q _ S1 W'.kp (iP (fun z=>?_) (by rw[Aq];omega) ?_ fun z hz=>?_)
    ·have z:=List.map_eq_nil_iff.mp z
     subst z;by_cases hr:rest=[]
     ·subst hr
      simp at hall;exact hne (Ix.mp hall.symm)
     ·exact hc ⟨hr,by simp;omega⟩
    ·rw[Pj,Dx]
     exact hnd.imp fun {a b} hab z=>hab (Kc (by have:=congrArg Yz z;dsimp only at this;omega) (by have:=congrArg Za z;dsimp only at this;omega))
    ·obtain⟨w,hw,rfl⟩:=Ci.mp hz
     have:=sm.box w ((vJ ps w).mp (W'.perm.mem_iff.mp (Dd _ hw)));unfold InB at this ⊢;dsimp only;omega
  rfl';refine⟨fun e=>?_,fun e=>?_⟩
  ·have hr:rest≠[]:=fun z=>by subst z;cases e
   have hr0:=Nk.mpr hr;rfl';refine sZ W'.rb ?_;rw[Aq];rfl';refine⟨fun e=>?_,fun e=>?_⟩
   ·have hd:done.length<many:=by have:=Bw e;omega
    rfl';refine⟨jD W'.rb,?_⟩;rfl';refine⟨jD W'.ra,?_⟩;rfl';refine sZ W'.ra ?_;rw[Aq];rfl';refine zF W'.kp.pen om fun r S7 k7 h7=>?_;have ra:=(k7.same _ om om).trans W'.ra;have rb:=(k7.same _ la' om).trans W'.rb;have hr1:r<rest.length:=by omega
    rfl';refine RM ra (by rw[Aq];exact hr1) om ?_
    rw[Po,l9];rfl';have l7:=k7.len;refine pT (i:=S6.length+1) (by rw[Bz om];exact rb) (by rw[Aq];unfold lim;omega) ?_
    rfl';refine DD (rest.eraseIdx r).length (by rw[Jo,Bh hr1];omega) ⟨rfl,done++[rest[r]],rest.eraseIdx r,rfl,?_,?_,?_,by simp;omega,((W'.kp.trans k7).set sm.kp.len _ om).set (by have:=sm.kp.len;omega) _ om⟩
    ·rw[Bz om,Cw om]
    ·rw[Cw (by rw[Ql];omega),Dy]
     rfl
    ·rw[Gr]
     exact(Ro done (yV rest r hr1)).trans W'.perm
   ·have hd:¬ done.length<many:=fun z=>by have:=Hc e;omega
    exact o8 (JE (fin fun z=>hd z.2))
  ·have hr:rest=[]:=by cases rest with|nil=>rfl|cons _ _=>cases e
   exact⟨(fun z=>by cases z),fun _=>o8 (JE (fin fun z=>z.1 hr))⟩
theorem RJ {p:Aj}(h:yE S p)(q:∀ (z:Pt) S',Kp p S S'→InB 1000 z→Q (ptD z) S'):Ok (S__law_point [.loc p] S) Q:=by
 rw[j1];refine zC (env:=[Ab (.loc p),none]) rfl ?_;rfl';refine zF h om fun r S1 k1 h1=>?_;refine pU (show r<3 by omega) fun d hd=>?_
 obtain⟨wide,rfl,hw⟩:∃ w:Al,d=.int w∧2≤w∧w≤1000:=by
  simp only[Ay,Cp,Fo] at hd;rcases hd with rfl|rfl|rfl <;> exact⟨_,rfl,by omega⟩
 rfl';refine zF k1.pen om fun x S2 k2 h2=>?_;rfl';refine zF k2.pen om fun y S3 k3 h3=>?_;rfl';refine q ((x:Al)-wide,(y:Al)-wide) S3 ((k1.trans k2).trans k3) ?_;unfold InB;dsimp only;omega
theorem RD {p q:Pt}(hp:InB 1000 p)(hq:InB 1000 q)(h:Q (.int (far p q)) S):Ok (S_far_between [ptD p,ptD q] S) Q:=by
 unfold InB at hp hq;rw[uI];refine zC (env:=[Ab (ptD p),Ab (ptD q),none,none]) rfl ?_;rfl';exact h
theorem GL {l:Aa Pt}(hb:∀ p∈l,InB 1000 p)(hl:l.length≤41)(q:∀ kvs S',GI gW prD S.length (wL l) kvs S'→(∀ m,m<S.length→S'[m]? = S[m]?)→Q (.loc S.length) S'):Ok (S_pairs_by_far [yA l] S) Q:=by
 rw[u7];refine zC (env:=[Ab (.tup (l.map ptD)),none,none,none,none]) rfl ?_;rfl';refine BI (fun ds env S'=>∃ i e2 e3 e4 done kvs,env=[Ab (.tup (l.map ptD)),Ab (.loc S.length),e2,e3,e4]∧ds=eL i ((l.drop i).map ptD)∧GI gW prD S.length done kvs S'∧done++wL (l.drop i)=wL l∧∀ m,m<S.length→S'[m]? = S[m]?) ?_ ?_ ⟨0,_,_,_,[],[],rfl,WV _,⟨zZ _ _,fun _ h=>(by cases h),Lb,rfl⟩,rfl,fun m hm=>Bg hm⟩
 ·rintro d ds _ S' ⟨i,e2,e3,e4,done,kvs,rfl,hds,G,hall,hpre⟩
  cases hdr:l.drop i with
  |nil=>rw[hdr] at hds;cases hds
  |cons p rest =>
   rw[hdr] at hds hall;injection hds with h1 h2
   subst h1 h2;have hrest:l.drop (i+1)=rest:=by
    have:=congrArg List.tail hdr;simpa [List.tail_drop] using this
   have hmem:∀ z∈p::rest,z∈l:=fun z hz=>Sn (hdr▸hz);rfl';rw[W9,← OP,hrest];refine y0 (fun r env S'=>∃ e4 done kvs,env=[Ab (.tup (l.map ptD)),Ab (.loc S.length),Ab (.int (i:Al)),Ab (ptD p),e4]∧(∀ z∈r,z∈l)∧GI gW prD S.length done kvs S'∧done++(r.map (fun z=>(p,z))++wL rest)=wL l∧∀ m,m<S.length→S'[m]? = S[m]?) ?_ ?_ ⟨_,done,kvs,rfl,fun z hz=>hmem z (By _ hz),G,hall,hpre⟩
   ·rintro z r _ S' ⟨e4,done,kvs,rfl,hr,G,hall,hpre⟩
    have hdl:done.length<lim:=by
     have:=congrArg Rg hall;have h3:=R8 hl;simp only[Ca] at this;unfold lim;omega
    obtain⟨j,S1,S2,kvs',f1,f2,f3,G',hp'⟩:=KL G (p,z) hdl;rfl';refine⟨XN G.dict,?_⟩;rfl';refine RD (hb p (hmem p (Cn ..))) (hb z (hr z (Cn ..))) ?_;rfl';refine z0 f1 ⟨f2,?_⟩;rfl';refine z0 f3 ?_;exact v7 ⟨_,done++[(p,z)],kvs',rfl,fun y hy=>hr y (By _ hy),G',by rw[← hall];simp,fun m hm=>(hp' m hm).trans (hpre m hm)⟩
   ·rintro _ S' ⟨e4,done,kvs,rfl,hr,G,hall,hpre⟩
    exact v7 ⟨i+1,_,_,_,done,kvs,rfl,by rw[hrest],G,by rw[hrest];simpa using hall,hpre⟩
 ·rintro _ S' ⟨i,e2,e3,e4,done,kvs,rfl,hds,G,hall,hpre⟩
  rfl';refine q kvs S' ?_ hpre;cases hdr:l.drop i with
  |cons _ _=>rw[hdr] at hds;cases hds
  |nil =>
   rw[hdr] at hall;have:done=wL l:=by simpa [wL] using hall
   rw[← this];exact G
theorem GM (c:Cl){l:Aa Pt}{M:Aj}(hM:M≤5)(h:Lot M l){S:Sto}(q:∀ S',S<+:S'→Q (.lst ((tbl (fars l)).map tpD)) S'):Ok (S_far_table c [yA l] S) Q:=by
 have hll:=h.len;have h25:(wL l).length≤25:=Cr (dQ l) (Sg (show l.length≤5 by omega) (show l.length≤5 by omega))
 obtain⟨_,S1,e1,rfl,kvs,G,hp⟩:=GL (S:=S) (Q:=fun d S'=>d=.loc S.length∧∃ kvs,GI gW prD S.length (wL l) kvs S'∧∀ m,m<S.length→S'[m]? = S[m]?) h.box om fun kvs S' G hp=>⟨rfl,kvs,G,hp⟩;have hi:xT (fP (qO 1 S_pairs_by_far (qA (qC 0) (qB)))) [Ab (yA l)] S=.ok (none,kvs.map fun p=>D.tup [kD p.1,p.2]) (S1.set S.length .dead):=by
  unfold xT fP;rw[(fO (f1:=qC 0) (env:=[Ab (yA l)]) (S:=S) rfl).trans e1];simp only[Res.bind,G.dict];rfl
 have hek:kvs.map (·.1)=(kys (fars l)).map Ia:=G.keys
 have hkl:(kys (fars l)).length≤25:=by
  have:=sO (ks:=fars l) (l:=[]);have h3:(fars l).length=(wL l).length:=Aq _;unfold kys;simp only[Et] at this;omega
 have hkv:kvs.length≤25:=by
  have:=congrArg Rg hek;rw[Aq,Aq] at this;omega
 have ev:(kvs.map fun p=>ctD (fars l) p.1)=(tbK (fars l)).map tpD:=by
  rw[show (kvs.map fun p=>ctD (fars l) p.1)=(kvs.map (·.1)).map (ctD (fars l)) by rw[Gn];rfl,hek]
  unfold tbK;rw[Gn,Gn];rfl
 have hs:wI [.lst ((tbK (fars l)).map tpD)] (S1.set S.length .dead)=.ok (.lst ((tbl (fars l)).map tpD)) (S1.set S.length .dead):=by
  show (match (Ab ((tbK (fars l)).map tpD)).bind vR with|some ys=>Res.ok (D.lst ys) (S1.set S.length .dead)|none=>.bad)=_
  rw[Md,B9 (tbK (fars l)) (by unfold tbK;rw[Aq];omega) fun k hk=>by
   obtain⟨f,_,rfl⟩:=Ci.mp hk;intro z;cases z]
  rfl
 rw[vB];refine zC (env:=[Ab (yA l)]) rfl ?_;rfl';refine z0 (eM c S (NT l) (Y7 om h)) ?_;rfl';refine vW kvs (fun p=>ctD (fars l) p.1) (fun env S'=>S'=S1.set S.length .dead∧∃ a b,env=[a,b]) hi ⟨rfl,none,none,rfl⟩ (by unfold lim;omega) (fun _ _ _=>trivial) (fun p hk env S' ⟨z1,a,b,z2⟩=>?_) fun env S' ⟨z1,_⟩=>?_
 ·subst z1 z2
  obtain⟨f,j,rfl,h1,h2⟩:=G.lists p hk;rfl';refine sZ (xs:=((wL l).filter fun x=>gW x == f).map prD) (by rw[Bz om];exact h2) ?_
  rw[Aq,Y1];rfl';exact⟨_,_,rfl⟩
 ·subst z1
  rw[ev];rfl';exact z0 hs (q _ (NU fun m hm=>by rw[Bz om];exact hp m hm))
def sqT (t:Aa (Aa Al)):Ar:=match t with
 |(s::_)::_=>decide (t=[[s,4],[2*s,2]])
 |_=>false
theorem hJ:∀ (a b:Aa Al),zK (a.map D.int) (b.map D.int)=decide (a=b)
 |[],[]=>rfl
 |[],_::_=>by simp[zK]
 |_::_,[]=>by simp[zK]
 |x::a,y::b=>by
  show (x == y&&zK (a.map D.int) (b.map D.int))=_;rw[hJ a b];by_cases h:x=y <;> by_cases k:a=b <;> simp[h,k]
theorem Q5:∀ (a b:Aa (Aa Al)),zK (a.map tpD) (b.map tpD)=decide (a=b)
 |[],[]=>rfl
 |[],_::_=>by simp[zK]
 |_::_,[]=>by simp[zK]
 |x::a,y::b=>by
  show (zK (x.map D.int) (y.map D.int)&&zK (a.map tpD) (b.map tpD))=_;rw[Q5 a b,hJ];by_cases h:x=y <;> by_cases k:a=b <;> simp[h,k]
theorem ZO (ks:Aa (Aa Al)):pl wW (.lst (ks.map tpD))=true:=by
 show ((ks.map tpD).all (pl 29))=true;rw[Hx];refine Bq.mpr fun k _=>?_;show ((k.map D.int).all (pl 28))=true;rw[Hx];exact Bq.mpr fun i _=>rfl
theorem MD (a b:Aa (Aa Al))(S:Sto):gEq (.lst (a.map tpD)) (.lst (b.map tpD)) S=.ok (.bl (decide (a=b))) S:=by
 unfold gEq;rw[ZO,ZO];show Res.ok (D.bl (zK (a.map tpD) (b.map tpD))) S=_;rw[Q5]
theorem r8 (c:Cl){l:Aa Pt}{M:Aj}(hM:M≤5)(h:Lot M l){S:Sto}(q:∀ S',S<+:S'→Q (.bl (decide (l.length=4)&&sqT (tbl (fars l)))) S'):Ok (S_is_square c [yA l] S) Q:=by
 rw[vC];refine zC (env:=[Ab (.tup (l.map ptD)),none,none]) rfl ?_;rfl';refine GM c hM h fun S1 p1=>?_;rfl';rw[Aq];refine xY (fun z=>?_) fun z=>?_
 ·have h4:l.length=4:=by omega
  have hne:∃ s r t,tbl (fars l)=(s::r)::t:=by
   cases ht:tbl (fars l) with
   |nil =>
    match l,h4 with
    |[a,b,x,y],_ =>
     have hm:[far a b,((fars [a,b,x,y]).count (far a b):Al)]∈tbl (fars [a,b,x,y]):=(_S.xD _).mem_iff.mpr (Ci.mpr ⟨far a b,pM.mpr (show far a b∈fars [a,b,x,y] from Cn ..),rfl⟩)
     rw[ht] at hm;cases hm
   |cons k t =>
    have hk:k∈tbl (fars l):=by rw[ht];simp
    obtain⟨f,_,rfl⟩:=Ci.mp ((_S.xD _).mem_iff.mp hk);exact⟨_,_,_,rfl⟩
  have q1:=q S1 p1;obtain⟨s,r,t,ht⟩:=hne;rw[ht,Cu h4,Tj] at q1;rw[ht];rfl';refine dA (d:=tpD (s::r)) (bK (a:=0) (by simp)) ?_
  rfl';refine pV (a:=(s::r).map D.int) (d:=.int s) (bK (a:=0) (by simp)) ?_
  rfl';exact z0 (MD ((s::r)::t) [[s,4],[2*s,2]] S1) q1
 ·have q1:=q S1 p1
  rw[Cq om,Gc] at q1;rfl';exact q1
theorem sq0 {x:Al}(h:x*x+y*y=0):x=0∧y=0:=by
 have s:∀ x:Al,0≤x*x:=fun x=>by rw[← Sl x];exact Xw om om
 have s1:=s x;have s2:=s y;have z:∀ x:Al,x*x=0→x=0:=fun x hx=>by
  rcases Xh.mp hx with h|h <;> exact h
 exact⟨z x om,z y om⟩
theorem CC (u1 u2 b1 b2 c1 c2 s:Al)(h1:u1*u1+u2*u2=s)(h2:b1*b1+b2*b2=s)(h3:c1*c1+c2*c2=s)(h4:(u1-b1)*(u1-b1)+(u2-b2)*(u2-b2)=2*s)(h5:(u1-c1)*(u1-c1)+(u2-c2)*(u2-c2)=2*s)(h6:(b1-c1)*(b1-c1)+(b2-c2)*(b2-c2)=s):s*s*s=0:=by grind
theorem TM {A B C E:Pt}{s:Al}(hs:0<s)(h1:far A E=s)(h2:far B E=s)(h3:far C E=s)(h4:far A B=2*s)(h5:far A C=2*s)(h6:far B C=s):Ev:=by
 unfold far at *;have e:∀ x y z:Al,x-y=(x-z)-(y-z):=fun x y z=>by omega
 rw[e A.1 B.1 E.1,e A.2 B.2 E.2] at h4;rw[e A.1 C.1 E.1,e A.2 C.2 E.2] at h5;rw[e B.1 C.1 E.1,e B.2 C.2 E.2] at h6;have:=CC _ _ _ _ _ _ s h1 h2 h3 h4 h5 h6;have h0:0<s*s*s:=Wp (Wp hs hs) hs;omega
theorem CD (b1 b2 c1 c2 d1 d2 s:Al)(h1:b1*b1+b2*b2=s)(h2:(b1-c1)*(b1-c1)+(b2-c2)*(b2-c2)=s)(h3:(c1-d1)*(c1-d1)+(c2-d2)*(c2-d2)=s)(h4:d1*d1+d2*d2=s)(h5:c1*c1+c2*c2=2*s)(h6:(b1-d1)*(b1-d1)+(b2-d2)*(b2-d2)=2*s):(c1=b1+d1∧c2=b2+d2)∧((d1=0-b2∧d2=b1)∨(b1=0-d2∧b2=d1)):=by
 have hc:(c1-b1-d1)*(c1-b1-d1)+(c2-b2-d2)*(c2-b2-d2)=0:=by grind
 obtain⟨k1,k2⟩:=sq0 hc;refine⟨⟨by omega,by omega⟩,?_⟩
 have hx:(b1*d2-b2*d1-s)*(b1*d2-b2*d1+s)=0:=by grind
 rcases Xh.mp hx with hx|hx
 ·left
  have hd:(d1+b2)*(d1+b2)+(d2-b1)*(d2-b1)=0:=by grind
  obtain⟨m1,m2⟩:=sq0 hd;exact⟨by omega,by omega⟩
 ·right
  have hd:(b1+d2)*(b1+d2)+(b2-d1)*(b2-d1)=0:=by grind
  obtain⟨m1,m2⟩:=sq0 hd;exact⟨by omega,by omega⟩
theorem B0 {A B C E:Pt}{s:Al}(h1:far B A=s)(h2:far B C=s)(h3:far C E=s)(h4:far E A=s)(h5:far C A=2*s)(h6:far B E=2*s):(E=(A.1-(B.2-A.2),A.2+(B.1-A.1))∧C=(B.1-(B.2-A.2),B.2+(B.1-A.1)))∨(B=(A.1-(E.2-A.2),A.2+(E.1-A.1))∧C=(E.1-(E.2-A.2),E.2+(E.1-A.1))):=by
 unfold far at *;have e:∀ x y z:Al,x-y=(x-z)-(y-z):=fun x y z=>by omega
 rw[e B.1 C.1 A.1,e B.2 C.2 A.2] at h2;rw[e C.1 E.1 A.1,e C.2 E.2 A.2] at h3;rw[e B.1 E.1 A.1,e B.2 E.2 A.2] at h6;obtain⟨⟨c1,c2⟩,d⟩:=CD _ _ _ _ _ _ s h1 h2 h3 h4 h5 h6;rcases d with⟨d1,d2⟩|⟨d1,d2⟩
 ·exact .inl ⟨Kc (by dsimp only;omega) (by dsimp only;omega),Kc (by dsimp only;omega) (by dsimp only;omega)⟩
 ·exact .inr ⟨Kc (by dsimp only;omega) (by dsimp only;omega),Kc (by dsimp only;omega) (by dsimp only;omega)⟩
theorem CF (a1 a2 b1 b2:Al):(a1-(a1-(b2-a2)))*(a1-(a1-(b2-a2)))+(a2-(a2+(b1-a1)))*(a2-(a2+(b1-a1)))=(a1-b1)*(a1-b1)+(a2-b2)*(a2-b2)∧(a1-(b1-(b2-a2)))*(a1-(b1-(b2-a2)))+(a2-(b2+(b1-a1)))*(a2-(b2+(b1-a1)))=2*((a1-b1)*(a1-b1)+(a2-b2)*(a2-b2))∧(b1-(a1-(b2-a2)))*(b1-(a1-(b2-a2)))+(b2-(a2+(b1-a1)))*(b2-(a2+(b1-a1)))=2*((a1-b1)*(a1-b1)+(a2-b2)*(a2-b2))∧(b1-(b1-(b2-a2)))*(b1-(b1-(b2-a2)))+(b2-(b2+(b1-a1)))*(b2-(b2+(b1-a1)))=(a1-b1)*(a1-b1)+(a2-b2)*(a2-b2)∧((a1-(b2-a2))-(b1-(b2-a2)))*((a1-(b2-a2))-(b1-(b2-a2)))+((a2+(b1-a1))-(b2+(b1-a1)))*((a2+(b1-a1))-(b2+(b1-a1)))=(a1-b1)*(a1-b1)+(a2-b2)*(a2-b2):=by
 refine⟨?_,?_,?_,?_,?_⟩ <;> grind
def crn (p q:Pt):Aa Pt:=[p,q,(p.1-(q.2-p.2),p.2+(q.1-p.1)),(q.1-(q.2-p.2),q.2+(q.1-p.1))]
theorem W8 (p q:Pt):fars (crn p q)=[far p q,far p q,2*far p q,2*far p q,far p q,far p q]:=by
 obtain⟨a,b⟩:=p;obtain⟨c,d⟩:=q;obtain⟨h1,h2,h3,h4,h5⟩:=CF a b c d;show [far _ _,far _ _,far _ _,far _ _,far _ _,far _ _]=_;unfold far;dsimp only;rw[h1,h2,h3,h4,h5]
theorem D6 (s:Al)(hs:0<s):tbl [s,s,2*s,2*s,s,s]=[[s,4],[2*s,2]]:=by
 have ne:s≠2*s:=by omega
 have eky:kys [s,s,2*s,2*s,s,s]=[s,2*s]:=by
  show Bc (Bc (Bc (Bc (Bc (Bc [] s) s) (2*s)) (2*s)) s) s=_;rw[fH (l:=[]) (by simp),kA (l:=[]++[s]) (by simp),fH (l:=[]++[s]) (by simp;omega),kA (l:=[]++[s]++[2*s]) (by simp),kA (l:=[]++[s]++[2*s]) (by simp),kA (l:=[]++[s]++[2*s]) (by simp)]
  rfl
 have et:tbK [s,s,2*s,2*s,s,s]=[[s,4],[2*s,2]]:=by
  unfold tbK;rw[eky];simp[HT,ne,ne.symm]
 unfold tbl;rw[et];refine _S.pS _S.yK (_S.jZ _S.yK _) ?_ (_S.xD _);refine Zp ?_ (Pz _ _);intro k hk;rw[Dh.mp hk,_H.lexLt_cons,Bn om];exact Cq om
theorem BC {l:Aa Pt}(hu:Up l){q:Aa Pt}(h:q.Perm l):wO q=l:=by
 have nd:q.Nodup:=h.nodup_iff.mpr (o7 hu);have h1:=aH nd;have h2:=(yS q).trans h;have key:(wO q).map kP=l.map kP:=_S.b8 _S.yK (by rw[Dx];exact h1) (by rw[Dx];exact hu) fun x=>(h2.map kP).mem_iff
 have inj:∀ {a b:Aa Pt},a.map kP=b.map kP→a=b:=by
  intro a
  induction a with
  |nil=>intro b h;cases b with|nil=>rfl|cons _ _=>cases h
  |cons x a ih =>
   intro b h;cases b with
   |nil=>cases h
   |cons y b =>
    rw[Dv,Dv] at h;injection h with h1 h2
    rw[QP h1,ih h2]
 exact inj key
def pN (l:Aa Pt):Ar:=match l with
 |[a,b,c,e]=>[b,c,e].any fun t=>decide (wO (crn a t)=l)
 |_=>false
theorem D5 {fs:Aa Al}{s:Al}(h:tbl fs=[[s,4],[2*s,2]]):∀ f∈fs,f=s∨f=2*s:=by
 intro f hf;have:[f,(fs.count f:Al)]∈tbl fs:=(_S.xD _).mem_iff.mpr (Ci.mpr ⟨f,pM.mpr hf,rfl⟩);rw[h] at this;simp at this;rcases this with z|z
 ·exact .inl z.1
 ·exact .inr z.1
theorem D4 {fs:Aa Al}{s:Al}{n:Al}(h:[s,n]∈tbl fs):(fs.count s:Al)=n:=by
 obtain⟨f,hf,e⟩:=Ci.mp ((_S.xD _).mem_iff.mp h);simp at e;rw[← e.1];exact e.2
theorem aI (s:Al)(ne:s≠2*s):∀ fs:Aa Al,(∀ f∈fs,f=s∨f=2*s)→fs.sum=s*(fs.length:Al)+s*(fs.count (2*s):Al)
 |[],_=>by simp
 |f::fs,h=>by
  rw[Yn,aI s ne fs fun x hx=>h x (By _ hx),Cj];rcases h f (Cn ..) with z|z
  ·rw[z,List.count_cons_of_ne ne]
   push_cast
   rw[Wr];omega
  ·rw[z,List.count_cons_self]
   push_cast
   rw[Wr,Wr];omega
structure Six (a b c e:Pt)(s:Al):Prop where
 ab:s≤far a b
 ac:s≤far a c
 ae:s≤far a e
 bc:s≤far b c
 be:s≤far b e
 ce:s≤far c e
 sum:far a b+far a c+far a e+far b c+far b e+far c e=8*s
 pos:0<s
theorem fan {e:Pt}{s:Al}(h:Six a b c e s)(h1:far a b=2*s)(h2:far a c=2*s):Ev:=by
 obtain⟨x1,x2,x3,x4,x5,x6,x7,x8⟩:=h;exact TM (A:=a) (B:=b) (C:=c) (E:=e) x8 om om om h1 h2 om
theorem Six.pm {e:Pt}{s:Al}(h:Six a b c e s):Six b a c e s∧Six a c b e s∧Six a b e c s:=by
 obtain⟨x1,x2,x3,x4,x5,x6,x7,x8⟩:=h;have e1:=xE b a;have e2:=xE c b;have e3:=xE e c;exact⟨⟨by omega,by omega,by omega,by omega,by omega,by omega,by omega,x8⟩,⟨by omega,by omega,by omega,by omega,by omega,by omega,by omega,x8⟩,⟨by omega,by omega,by omega,by omega,by omega,by omega,by omega,x8⟩⟩
theorem VQ {e:Pt}{s:Al}(h:Six a b c e s)(h1:far a c=2*s)(h2:far b e=2*s):crn a b=[a,b,e,c]∨crn a e=[a,e,b,c]:=by
 obtain⟨x1,x2,x3,x4,x5,x6,x7,x8⟩:=h;rcases B0 (A:=a) (B:=b) (C:=c) (E:=e) (s:=s) (by rw[xE];omega) om om (by rw[xE];omega) (by rw[xE];omega) h2 with⟨z1,z2⟩|⟨z1,z2⟩
 ·left;rw[z1,z2];rfl
 ·right;rw[z1,z2];rfl
theorem LW (a b c e:Pt)(nd:[a,b,c,e].Nodup)(s:Al)(h:tbl (fars [a,b,c,e])=[[s,4],[2*s,2]]):∃ t∈[b,c,e],(crn a t).Perm [a,b,c,e]:=by
 have h2:=D5 h;have hd:=D4 (fs:=fars [a,b,c,e]) (s:=2*s) (n:=2) (by rw[h];simp)
 have ef:fars [a,b,c,e]=[far a b,far a c,far a e,far b c,far b e,far c e]:=rfl;rw[ef] at h2 hd;have hab:a≠b:=fun z=>by simp[z] at nd
 have k1:=h2 (far a b) (by simp)
 have k2:=h2 (far a c) (by simp)
 have k3:=h2 (far a e) (by simp)
 have k4:=h2 (far b c) (by simp)
 have k5:=h2 (far b e) (by simp)
 have k6:=h2 (far c e) (by simp)
 have hs:0<s:=by
  have:=hZ hab;omega
 have sm:=aI s om _ h2;rw[hd] at sm;simp only[Yn,List.sum_nil,Cj,Et] at sm;have S:Six a b c e s:=⟨by omega,by omega,by omega,by omega,by omega,by omega,by omega,hs⟩
 have pm:∀ t∈[b,c,e],∀ q,crn a t=q→(∀ x,q.count x=[a,b,c,e].count x)→∃ t∈[b,c,e],(crn a t).Perm [a,b,c,e]:=fun t ht q hq hc=>⟨t,ht,by rw[hq];exact Ts.mpr hc⟩
 have S1:=S.pm.1;have S2:=S.pm.2.1;have S3:=S.pm.2.2;have f1:=xE b a;have f2:=xE c a;have f3:=xE c b;have f4:=xE e a;have f5:=xE e b;have f6:=xE e c;clear h h2 hd ef nd;by_cases z1:far a b=2*s
 ·have y2:far a c≠2*s:=fun z=>fan S z1 z
  have y3:far a e≠2*s:=fun z=>fan S3 z1 z;have y4:far b c≠2*s:=fun z=>fan S1 om z;have y5:far b e≠2*s:=fun z=>fan S1.pm.2.2 om z;rcases VQ S2 z1 om with w|w
  ·exact pm c (by simp) _ w fun x=>by simp only[HT,Jk] <;> omega
  ·exact pm e (by simp) _ w fun x=>by simp only[HT,Jk] <;> omega
 ·by_cases z2:far a c=2*s
  ·have y3:far a e≠2*s:=fun z=>fan S2.pm.2.2 z2 z
   have y4:far b c≠2*s:=fun z=>fan S2.pm.1 om om;have y6:far c e≠2*s:=fun z=>fan S2.pm.1.pm.2.2 om z;rcases VQ S z2 om with w|w
   ·exact pm b (by simp) _ w fun x=>by simp only[HT,Jk] <;> omega
   ·exact pm e (by simp) _ w fun x=>by simp only[HT,Jk] <;> omega
  ·by_cases z3:far a e=2*s
   ·have y5:far b e≠2*s:=fun z=>fan S3.pm.2.1.pm.1 om om
    have y6:far c e≠2*s:=fun z=>fan S3.pm.2.1.pm.1.pm.2.2 om om;rcases VQ S3 z3 om with w|w
    ·exact pm b (by simp) _ w fun x=>by simp only[HT,Jk] <;> omega
    ·exact pm c (by simp) _ w fun x=>by simp only[HT,Jk] <;> omega
   ·by_cases z4:far b c=2*s
    ·by_cases z5:far b e=2*s
     ·exact(fan S1.pm.2.1.pm.2.2 z4 z5).elim
     ·exact(fan S2.pm.1.pm.2.1.pm.2.2 om om).elim
    ·exact(fan S3.pm.2.1.pm.1.pm.2.1.pm.2.2 om om).elim
theorem J9 (l:Aa Pt)(hu:Up l):(decide (l.length=4)&&sqT (tbl (fars l)))=pN l:=by
 match l,hu with
 |[],_=>rfl
 |[_],_=>rfl
 |[_,_],_=>rfl
 |[_,_,_],_=>rfl
 |a::b::c::e::g::l,_ =>
  rw[Cq (by simp)]
  rfl
 |[a,b,c,e],hu =>
  have nd:=o7 hu;rw[show decide ([a,b,c,e].length=4)=true from rfl,Tj,Xe]
  unfold pN;constructor
  ·intro h
   have h2:∃ s,tbl (fars [a,b,c,e])=[[s,4],[2*s,2]]:=by
    cases ht:tbl (fars [a,b,c,e]) with
    |nil=>rw[ht] at h;cases h
    |cons k t =>
     rw[ht] at h;cases k with
     |nil=>cases h
     |cons s r=>exact⟨s,Bw h⟩
   obtain⟨s,hs⟩:=h2;obtain⟨t,ht,p⟩:=LW a b c e nd s hs;exact Gz.mpr ⟨t,ht,Cu (BC hu p)⟩
  ·intro h
   obtain⟨t,ht,e1⟩:=Gz.mp h;have e1:=Bw e1;have p:(crn a t).Perm [a,b,c,e]:=by rw[← e1];exact(yS _).symm
   have hat:a≠t:=fun z=>by subst z;exact(IU.mp nd).1 ht
   have:=VZ (Q8 p);rw[W8,D6 _ (hZ hat)] at this;rw[← this];exact Cu rfl
theorem PY (l:Aa Pt)(hl:l.length≤1000)(S:Sto):S__law_is_square [yA l] S=.ok (.bl (pN l)) S:=by
 rw[v9];refine xU (zC (env:=[Ab (.tup (l.map ptD)),none,none,none,none,none]) rfl ?_);unfold b__law_is_square;rfl'
 match l,hl with
 |[],_=>exact⟨rfl,rfl⟩
 |[_],_=>exact⟨rfl,rfl⟩
 |[_,_],_=>exact⟨rfl,rfl⟩
 |[_,_,_],_=>exact⟨rfl,rfl⟩
 |a::b::c::e::g::l,_ =>
  refine xY (fun h=>?_) fun _=>?_
  ·simp at h;omega
  ·rfl'
   exact⟨rfl,rfl⟩
 |[a,b,c,e],_ =>
  refine w_t ?_;rfl';refine pV (d:=ptD a) rfl ?_;rfl';refine y0 (enc:=ptD) (xs:=[b,c,e]) (fun xs env S'=>S'=S∧(∃ e2 e3 e4 e5,env=[Ab (.tup ([a,b,c,e].map ptD)),Ab (ptD a),e2,e3,e4,e5])∧pN [a,b,c,e]=xs.any fun t=>decide (wO (crn a t)=[a,b,c,e])) ?_ ?_ ⟨rfl,⟨_,_,_,_,rfl⟩,rfl⟩
  ·rintro t xs _ _ ⟨rfl,⟨e2,e3,e4,e5,rfl⟩,h⟩
   rfl';refine w4 (a:=[a,t,(a.1-(t.2-a.2),a.2+(t.1-a.1))].map ptD) (b:=[(t.1-(t.2-a.2),t.2+(t.1-a.1))].map ptD) (Bj rfl) ?_;rfl';refine dF (ps:=crn a t) (Bj rfl) ?_;rfl';refine RC (b:=[a,b,c,e]) ?_;rfl';refine xY (fun z=>?_) fun z=>?_
   ·rfl'
    exact⟨by rw[h,Hl,Cu z];rfl,rfl⟩
   ·rfl'
    exact v7 ⟨rfl,⟨_,_,_,_,rfl⟩,by rw[h,Hl,Cq z];rfl⟩
  ·rintro _ _ ⟨rfl,⟨e2,e3,e4,e5,rfl⟩,h⟩
   rfl';exact⟨by rw[h];rfl,rfl⟩
theorem cQ (c:Cl){l:Aa Pt}(h:Lot 5 l){S:Sto}(q:∀ S',S<+:S'→Q (.bl true) S'):Ok (S__law_right c [yA l] S) Q:=by
 have h1:=h.len;rw[j2];refine zC (env:=[Ab (yA l),none]) rfl ?_;rfl';refine z0 (PY l om S) ?_;rfl';refine d9 ?_;rfl';refine r8 c om h fun S1 p1=>?_;rw[J9 l h.up];rfl';refine z0 (X7 S1 (d:=.bl (pN l)) trivial) ⟨_,rfl,fun _=>?_,fun z=>by cases z⟩
 rfl';refine r8 c om h fun S2 p2=>?_;rw[J9 l h.up];rfl';exact z0 (X7 S2 (d:=.bl (pN l)) trivial) (q S2 (p1.trans p2))
def YY (x y:Al):Aa D:=[.tup [.int x,.int y,.int 0],.tup [.int x],.lst [.int x,.int y],.non,.tup [.bl true,.int y],.tup [.int x,.non],.tup [.int 1001,.int y]]++[.tup [.int x,.int (-1001)]]
theorem GR (x y:Al):∀ d∈YY x y,Pn d∧xK d=false:=by
 intro d hd;simp only[YY,Gy,Hi,Ay,Cp,Fo] at hd;rcases hd with rfl|rfl|rfl|rfl|rfl|rfl|rfl|rfl
 all_goals refine⟨⟨_,rfl⟩,?_⟩
 all_goals first|rfl|exact Ji _
def mX (l:Aa Pt)(a:Aj)(o:D):Aa D:=(l.map ptD).take a++[o]++(l.map ptD).drop (a+1)
def sQ:Aa D:=(Ce 41).map fun (i:Aj)=>D.tup [.int (i:Al),.int 0]
theorem TL (l:Aa Pt)(q:Pt)(a:Aj)(o:D)(ho:Pn o∧xK o=false):∀ d∈((Ct 4 [D.tup (mX (l++[q]) a o)]).flatten++[.non,.tup [],.lst ((l++[q]).map ptD),ptD ((l++[q]).head (by simp)),.str "0,0",.int 7,.dct0,.tup ((l++[q]).map ptD++[ptD q])]++[.tup [.tup ((l++[q]).map ptD)]])++[.tup (_H.stepL ((l++[q]).map ptD) (-1)++[ptD q]),.tup sQ]++[.tup [.tup [.int 0,.int 0],.tup [.int 0,.int 0]]],NoL d:=by
 have pp:∀ x∈(l++[q]).map ptD,Pn x:=fun x hx=>by
  obtain⟨z,_,rfl⟩:=Ci.mp hx;exact mH z
 have lq:(l++[q]).map ptD=l.map ptD++[ptD q]:=by rw[Dy];rfl
 have hb:NoL (.tup (mX (l++[q]) a o)):=by
  refine⟨fB fun x hx=>?_,tS (x:=o) (by simp[mX]) ho.2⟩
  unfold mX at hx;rcases Co.mp hx with hx|hx
  ·rcases Co.mp hx with hx|hx
   ·exact pp x (List.mem_of_mem_take hx)
   ·rw[Dh.mp hx];exact ho.1
  ·exact pp x (Sn hx)
 intro d hd;simp only[Fz,List.replicate_zero,He,List.flatten_nil,Gy,Hi,Gs,Ay,Cp,Fo] at hd;rcases hd with rfl|rfl|rfl|rfl|rfl|rfl|rfl|rfl|rfl|rfl|rfl|rfl|rfl|rfl|rfl|rfl
 ·exact hb
 ·exact hb
 ·exact hb
 ·exact hb
 ·exact⟨⟨_,rfl⟩,rfl⟩
 ·exact⟨⟨_,rfl⟩,rfl⟩
 ·exact⟨CN pp,rfl⟩
 ·exact⟨mH _,tS (x:=.int _) (Cn ..) rfl⟩
 ·exact⟨⟨_,rfl⟩,rfl⟩
 ·exact⟨⟨_,rfl⟩,rfl⟩
 ·exact⟨⟨_,rfl⟩,rfl⟩
 ·refine⟨fB fun x hx=>?_,tU ?_⟩
  ·rcases Co.mp hx with hx|hx
   ·exact pp x hx
   ·rw[Dh.mp hx];exact mH q
  ·rw[Hf]
   exact fun h=>h.2.2 (ptD q) (by rw[lq];simp) (ptD q) (by simp) rfl
 ·refine⟨fB fun x hx=>by rw[Dh.mp hx];exact fB pp,tS (x:=.tup ((l++[q]).map ptD)) (by simp) ?_⟩
  match hm:(l++[q]).map ptD with
  |[]=>rfl
  |[_]=>rfl
  |[x,y] =>
   have:x∈(l++[q]).map ptD:=by rw[hm];simp
   obtain⟨z,_,rfl⟩:=Ci.mp this;rfl
  |_::_::_::_=>rfl
 ·refine⟨fB fun x hx=>?_,tU ?_⟩
  ·rcases Co.mp hx with hx|hx
   ·exact pp x (XG hx)
   ·rw[Dh.mp hx];exact mH q
  ·rw[Hf]
   exact fun h=>h.2.2 (ptD q) (by rw[lq];exact XH _ _) (ptD q) (by simp) rfl
 ·refine⟨fB fun x hx=>?_,GF (by unfold sQ;simp)⟩
  obtain⟨i,_,rfl⟩:=Ci.mp hx;exact⟨.tuple [.int (i:Al),.int 0],rfl⟩
 ·exact⟨⟨_,rfl⟩,tU (by simp)⟩
theorem TV (q:Q (.lst sQ) S):Ok (zE false [none] (xT (yJ (qA (dC (.int 41)) (qB)))) (gNm 0) (wM) (zT (qN (qA (qC 0) (qA (dC (.int 0)) (qB))))) env S) Q:=by
 refine dE 41 om (fun (i:Aj)=>((i:Al),0)) (fun i=>?_) ?_
 ·rfl'
  exact rfl
 ·rw[Gn]
  exact q
theorem YW (p M:Aj)(hM:M≤40)(l:Aa Pt)(hl:Lot M l)(S:Sto)(h:yE S p):Ok (S__law_no_lot [.loc p,yA l] S) fun d _=>NoL d:=by
 rw[uH];refine zC (env:=[Ab (.loc p),Ab (.tup (l.map ptD)),none,none,none,none,none,none,none]) rfl ?_;unfold b__law_no_lot;have n0:0<l.length:=Nk.mpr hl.ne;have n1:=hl.len;rfl';refine zF h om fun w S1 k1 hw=>?_;rfl';refine zF k1.pen (by rw[Aq];omega) fun a S2 k2 ha=>?_
 rw[Aq] at ha;rfl';have e1:_L.atI (l.map ptD) (a:Al)=Ab (ptD (l[a]' om)):=by
  rw[bK (by rw[Aq];omega),Po]
 refine pV e1 ?_;generalize l[a]' om=q;refine CI (xs:=[.int q.1,.int q.2]) ?_;rfl';refine w4 (Bj rfl) ?_;rfl';refine zF k2.pen om fun b S3 k3 hb=>?_;refine pU (a:=YY q.1 q.2) (show b<8 by omega) fun o ho=>?_
 have on:=GR q.1 q.2 o ho;rfl';rw[oP _ a (by rw[Aq];omega)]
 refine vV (by simp only[Aq,Hm,Cj,Et];unfold lim;omega) ?_
 rfl';rw[show (a:Al)+1=((a+1:Aj):Al) by omega,oO _ (a+1) (by rw[Aq];omega)]
 refine vV (by simp only[Ca,Aq,Hm,Iq,Cj,Et];unfold lim;omega) ?_
 rcases List.eq_nil_or_concat l with z|⟨l',z,rfl⟩
 ·exact absurd z hl.ne
 rw[List.concat_eq_append] at *;have hno:=TL l' z a o on;have bl:((l'++[z]).map ptD).take a++[o]++((l'++[z]).map ptD).drop (a+1)=mX (l'++[z]) a o:=rfl;rw[bl];generalize mX (l'++[z]) a o=bn at hno;clear e1 bl on ho;rfl';refine TY (k:=4) ⟨Bj rfl,by omega⟩ ?_
 rfl';refine pV (d:=ptD ((l'++[z]).head (by simp))) ?_ ?_
 ·cases l' <;> exact bK (a:=0) (by simp)
 rfl';have lc:zS ((l'++[z]).map ptD) (Ab (-1)) none=[ptD z]:=by
  rw[Dy];exact JQ _ _
 rw[lc];have hlen:((l'++[z]).map ptD).length≤40:=by rw[Aq];omega
 refine vV (by simp only[Cj,Et];unfold lim;omega) ?_
 rfl';refine ZG rfl rfl (Bj rfl) ?_;rfl';refine⟨jD (zZ _ _),?_⟩;rfl';refine pT (zZ _ _) (Bj rfl) ?_;rw[gC];rfl';refine o_2 ?_;rfl';refine N1 om ?_;rfl';rw[lc];have hst:(_H.stepL ((l'++[z]).map ptD) (-1)).length≤40:=by
  unfold _H.stepL;refine Cr (OZ _ _) ?_;rw[Hj,gD];exact hlen
 refine vV (by simp only[Cj,Et];unfold lim;omega) ?_
 rfl';refine TV ?_;rfl';refine TN (R0 (zZ _ _)) rfl (Bj rfl) ?_;rfl';refine w4 (Bj rfl) ?_;rfl';refine pU (show w<16 by omega) fun d hd=>?_
 rfl';exact hno d hd
theorem ZE (c:Cl){d:D}(S:Sto)(h:NoL d):S_is_square c [d] S=.ex (.ref c.NoLot) .non S:=by
 have e:S_far_table c [d] S=.ex (.ref c.NoLot) .non S:=by
  rw[vB];exact rP (env:=[Ab d]) rfl (MG ((fO (a:=d) rfl).trans (eK c S h.1 h.2)))
 rw[vC];exact rP (env:=[Ab d,none,none]) rfl (MF ((fO (a:=d) rfl).trans e))
def sqP (x y a u:Al):Aa Pt:=[(x,y),(x+a,y+u),(x-u,y+a),(x+a-u,y+u+a)]
def prP (x y a u:Al):Aa Pt:=[(x,y),(x+a,y+u),(x,y+7),(x+a,y+u+7)]
theorem ED {x a u:Al}(h:0<a):(sqP x y a u).Nodup∧(prP x y a u).Nodup:=by
 unfold sqP prP;simp only[IU,Ay,Cp,Fo,Rk,Prod.mk.injEq,not_and,Lb,and_true]
 and_intros <;> intros <;> first|omega|exact id
theorem EC {x a u:Al}(h:0<a∧a≤300)(hu:0≤u∧u≤300)(hx : -300≤x∧x≤300)(hy : -300≤y∧y≤300):∀ q∈sqP x y a u++prP x y a u,InB 990 q:=by
 intro q hq;simp only[sqP,prP,Gy,Hi,Ay,Cp,Fo] at hq;unfold InB;rcases hq with rfl|rfl|rfl|rfl|rfl|rfl|rfl|rfl <;> dsimp only <;> omega
theorem cA {q:Pt}(h:InB 990 q):InB 1000 q:=by
 unfold InB at *;omega
def six:Aa (Aa Pt):=[[(0,0),(0,1),(1,0),(1,1)],[(0,0),(1,2),(2,-1),(3,1)],[(0,0),(0,2),(1,0),(1,2)]]++[[(0,1),(1,0),(1,2),(2,1)],[(0,0),(1,1),(2,0),(3,1)],[(0,0)]]
def YN (l:Aa Pt):Ar:=decide (l≠[])&&decide (l.length≤5)&&upB (l.map kP)&&l.all fun q=>decide (InB 1000 q)
theorem GE {l:Aa Pt}(h:YN l=true):Lot 5 l:=by
 unfold YN at h;simp only[AT,Ch,Bq] at h;refine⟨h.1.1.1,h.1.1.2,?_,h.2⟩;have:=(mR _).mp h.1.2;rw[Dx] at this;exact this
theorem LU:∀ l∈six,Lot 5 l:=by
 have:six.all YN=true:=kd;exact fun l hl=>GE (Bq.mp this l hl)
theorem TQ (c:Cl){k:Aj}(ls:Aa (Aa Pt))(hl:ls.length≤1000)(h:∀ l∈ls,Lot 5 l){env:qG}{S:Sto}(h16:env[16]? = Ab (Ab (.loc k)))(hk:S[k]? = Ab (.lst (ls.map yA)))(q:∀ S',S<+:S'→Q (.bl true) S'):Ok (qK (jG false) (qA (zE false [none] (dIt (qC 16)) (gNm 0) (wM) (zT (qO 1 (okO (S__law_right c)) (qA (qC 0) (qB))))) (qB)) env S) Q:=by
 rfl';refine vW ls (fun _=>.bl true) (fun env S'=>S<+:S'∧∃ a,env=[a]) (MU h16 hk) ⟨Bb _,none,rfl⟩ (by unfold lim;omega) (fun _ _ ⟨e,_⟩=>pI hk e) (fun l hl env S' ⟨e1,a,e2⟩=>?_) fun env S' ⟨e1,_⟩=>?_
 ·subst e2
  rfl';exact cQ c (h l hl) fun S2 p2=>⟨rfl,e1.trans p2,_,rfl⟩
 ·rfl'
  refine mD (p:=fun _=>true) ?_;rw[show (ls.all fun _=>true)=true by simp]
  exact q S' e1
def IvL (ns:Aa Al)(xs:Aa Al)(env:qG)(_:Sto):Prop:=∃ e1 e2 e3 e4 e5 e6 e7 e8 e9 e10 e11 e12 e13 e14 e15 e16 e17,env=[Ab (.lst (ns.map D.int)),e1,e2,e3,e4,e5,e6,e7,e8,e9,e10,e11,e12,e13,e14,e15,e16,e17]
theorem YK (c:Cl)(nd:(xX c).Nodup)(ns:Aa Al)(hl:ns.length≤63):∃ S,qT 18 (b_law c) [.lst (ns.map D.int)] [] = .ok (.bl true) S:=by
 have key:Ok (qT 18 (b_law c) [.lst (ns.map D.int)] []) fun d _=>d=.bl true:=by
  refine zC (env:=[Ab (.lst (ns.map D.int)),none,none,none,none,none,none,none,none,none,none,none,none,none,none,none,none,none]) rfl ?_;unfold b_law;rfl';refine w4 (Bj rfl) ?_;rfl';refine y0 (enc:=yA) (xs:=six) (fun xs env _=>(∀ l∈xs,Lot 5 l)∧∃ e1 e2,env=[Ab (.lst (ns.map D.int)),e1,e2,none,none,none,none,none,none,none,none,none,none,none,none,none,none,none]) ?_ ?_ ⟨LU,_,_,rfl⟩
  ·rintro l xs _ S ⟨hx,e1,e2,rfl⟩
   rfl';refine cQ c (hx l (Cn ..)) fun S1 _=>?_;rfl';exact v7 ⟨fun z hz=>hx z (By _ hz),_,_,rfl⟩
  ·rintro _ S ⟨_,e1,e2,rfl⟩
   refine o8 (dN (EJ (PX ns hl 8 rfl fun ms=>?_)));refine y0 (IvL ns) ?_ ?_ ⟨_,_,_,_,_,_,_,_,_,_,_,_,_,_,_,_,_,rfl⟩
   ·rintro y xs _ S ⟨e1,e2,e3,e4,e5,e6,e7,e8,e9,e10,e11,e12,e13,e14,e15,e16,e17,rfl⟩
    rfl';refine RL fun p S0 p0=>?_;rfl';refine zF p0 om fun r0 S1 k1 h1=>?_;refine pU (show r0<3 by omega) fun d hd=>?_
    obtain⟨w,rfl,hw⟩:∃ w:Al,d=.int w∧3≤w∧w≤300:=by
     simp only[Ay,Cp,Fo] at hd;rcases hd with rfl|rfl|rfl <;> exact⟨_,rfl,by omega⟩
    rfl';refine zF k1.pen om fun r1 S2 k2 h2=>?_;rfl';refine zF k2.pen om fun r2 S3 k3 h3=>?_;rfl';refine zF k3.pen om fun r3 S4 k4 h4=>?_;rfl';refine zF k4.pen om fun r4 S5 k5 h5=>?_;have bx : -300≤(r1:Al)-w∧(r1:Al)-w≤300:=by omega
    have bz : -300≤(r2:Al)-w∧(r2:Al)-w≤300:=by omega
    have ba:0<1+(r3:Al)∧1+(r3:Al)≤300:=by omega
    have bu:0≤(r4:Al)∧(r4:Al)≤300:=by omega
    generalize (r1:Al)-w=x at bx;generalize (r2:Al)-w=z at bz;generalize 1+(r3:Al)=a at ba;generalize (r4:Al)=u at bu;clear h1 h2 h3 h4 h5 hd hw p0 k1 k2 k3 k4;rfl';refine w4 (Bj rfl) ?_;rfl';refine w4 (Bj rfl) ?_;rfl';refine dF (ps:=sqP x z a u) (Bj rfl) ?_;have hb:=EC ba bu bx bz;have hn:=ED (x:=x) (y:=z) (u:=u) ba.1;have l0:Lot 5 (wO (sqP x z a u)):=iP (by simp[sqP]) (Bj rfl) hn.1 fun q hq=>cA (hb q (Dd _ hq))
    have l4:(wO (sqP x z a u)).length=4:=(yS _).length_eq;have b4:∀ q∈wO (sqP x z a u),InB 990 q:=fun q hq=>hb q (Dd _ ((yS _).mem_iff.mp hq));have l7:Lot 5 (wO (prP x z a u)):=iP (by simp[prP]) (Bj rfl) hn.2 fun q hq=>cA (hb q (Bv _ hq))
    generalize wO (sqP x z a u)=l at l0 l4 b4;rfl';refine zF k5.pen om fun at_ S6 k6 h6=>?_;rfl';refine RJ k6.pen fun q S7 k7 hq=>?_;rfl';refine zF k7.pen om fun r5 S8 k8 h8=>?_;rfl';refine zF k8.pen om fun r6 S9 k9 h9=>?_;have bl : -1≤(r5:Al)-1∧(r5:Al)-1≤1:=by omega
    have bh : -1≤(r6:Al)-1∧(r6:Al)-1≤1:=by omega
    rfl';generalize (r5:Al)-1=lf at bl;generalize (r6:Al)-1=lw at bh;clear h8 h9 k5 k6 k7 k8;have hal:at_<l.length:=by omega
    have hat:_L.atI (l.map ptD) (at_:Al)=Ab (ptD l[at_]):=by rw[bK (by rw[Aq];exact hal),Po]
    have hz:=b4 l[at_] (Jq hal);refine pV hat ?_;rfl';refine pV hat ?_;generalize l[at_]'hal=v at hz;have hv:InB 1000 (v.1+lf,v.2+lw):=by
     unfold InB at hz ⊢;dsimp only;omega
    clear hat hz bl bh;rfl';have ecut:zS (l.map ptD) none (Ab (at_:Al))++zS (l.map ptD) (Ab ((at_:Al)+1)) none=(l.eraseIdx at_).map ptD:=by
     rw[oP _ at_ (by rw[Aq];omega),show (at_:Al)+1=((at_+1:Aj):Al) by omega,oO _ (at_+1) (by rw[Aq];omega),List.eraseIdx_eq_take_drop_succ,Dy,Ym,OP]
    have elen:(zS (l.map ptD) none (Ab (at_:Al))).length+(zS (l.map ptD) (Ab ((at_:Al)+1)) none).length≤lim:=by
     rw[← Ca,ecut,Aq,Jo];unfold lim
     split <;> omega
    have lE:=R6 (a:=at_) l0 om;have lEl:=(Rr l at_).length_le;refine vV elen ?_;rw[ecut];rfl';refine YX ?_;rfl';refine vV (by rw[Aq,l4];exact Bj rfl) ?_
    refine⟨l++[q],by rw[Dy];rfl,by rw[Ca,l4];exact Bj rfl,?_⟩
    have lA:Lot 5 (xM (l++[q])):=UR (by simp) (by rw[Ca,l4];exact Bj rfl) fun z hz=>by
     rcases Co.mp hz with hz|hz
     ·exact l0.box z hz
     ·rw[Dh.mp hz];exact hq
    generalize xM (l++[q])=lA' at lA;rfl';refine RI p 5 om k9.pen fun lL S10 kL LL=>?_;rfl';refine ZG rfl rfl (Bj rfl) ?_;clear k9;rfl';refine⟨jD (zZ _ _),?_⟩;rfl';refine YX ?_;rfl';refine vV elen ?_;rw[ecut];rfl';refine vV (by rw[Aq];show _+1≤lim;unfold lim;omega) ?_
    refine⟨l.eraseIdx at_++[(v.1+lf,v.2+lw)],by rw[Dy];rfl,by rw[Ca];show _+1≤63;omega,?_⟩
    have lB:Lot 5 (xM (l.eraseIdx at_++[(v.1+lf,v.2+lw)])):=UR (by simp) (by rw[Ca];show _+1≤5;omega) fun z hz=>by
     rcases Co.mp hz with hz|hz
     ·exact lE.box z hz
     ·rw[Dh.mp hz];exact hv
    generalize xM (l.eraseIdx at_++[(v.1+lf,v.2+lw)])=lB' at lB;rfl';refine pT (zZ _ _) (Bj rfl) ?_;rw[gC];rfl';refine⟨jD (zZ _ _),?_⟩;rfl';refine dF (ps:=prP x z a u) (Bj rfl) ?_;generalize wO (prP x z a u)=l7' at l7;rfl';refine pT (zZ _ _) (Bj rfl) ?_;rw[gC];have hS:yE S10 p:=kL.pen;refine o8 (dN (A2 (ZI (N2 (TQ c [l,l.eraseIdx at_,lA',lL,lB',l7'] (Bj rfl) (fun y hy=>?_) rfl (zZ _ _) fun S11 pr=>?_)))))
    ·simp only[Ay,Cp,Fo] at hy
     rcases hy with rfl|rfl|rfl|rfl|rfl|rfl
     ·exact l0
     ·exact lE
     ·exact lA
     ·exact LL
     ·exact lB
     ·exact l7
    rfl';refine zD (YW p 5 om l l0 S11 (tX (tX hS (Fa _ _)) pr)) fun bd S12 hbd=>?_;clear pr hS;rfl';refine RN (by rw[Fj];simp[gQ]) (eG c nd) (caps:=[bd]) rfl ((fO (a:=bd) rfl).trans (ZE c S12 hbd)) ?_
    rfl';refine z0 (d:=.bl false) (S:=S12) (by kernel_rfl!) ?_
    rfl';exact v7 ⟨_,_,_,_,_,_,_,_,_,_,_,_,_,_,_,_,_,rfl⟩
   ·rintro _ S ⟨e1,e2,e3,e4,e5,e6,e7,e8,e9,e10,e11,e12,e13,e14,e15,e16,e17,rfl⟩
    rfl';exact rfl
 obtain⟨d,S',e,rfl⟩:=key;exact⟨S',e⟩
end _K
namespace _K
open PySem PySem.Spec PyProof.Rows _L _D
variable {mg:As→Am Ac}
theorem yW {P:Be}{w:Bt}{K:Ai}{base:Bk}{c:Cl}(T:Txt K mg c){k:Aj}{F:DF}(d:DfS F P w K mg base true k "_law_same" 2):DfS (qT 2 (b__law_same F)) P w K mg base true (k+1) "_law_same" 2:=by
 refine dq P w base k 12 T rfl ck rfl ?_
 intros
 repeat' first
  |with_reducible exact ck
  |((with_reducible show QE _ _ _);with_reducible first|apply aV|apply UY|apply ZW|apply aBt|apply aO|(apply aB;first|apply JH|apply JG|apply JF|apply XS)|apply aC|apply ZY|apply ZV|apply ZX|apply ZT)
  |((with_reducible show _=_);first|exact T.nb ck|exact jT _|exact rfl|with_unfolding_all rfl)
  |((with_reducible show ZOp _ _ _);with_reducible first|apply DM|apply DU|apply DN)
  |((with_reducible show RoomC _ _ _);first|assumption|exact RoomC.mono (by assumption)|exact RoomC.mono (RoomC.any (by assumption))|exact RoomC.mark (by assumption) _|exact RoomC.mono (RoomC.mark (by assumption) _))
  |((with_reducible show St1 _ _ _ _);exact⟨rfl,rfl⟩)
  |((with_reducible show DfS _ _ _ _ _ _ _ _ _ _);assumption)
  |with_reducible first|apply ZS|apply mI|apply pZ|apply cT|apply ZR|apply X3|(apply J0;first|apply mK|apply dH)|apply X4|apply mK|apply dH|apply aNm|apply ZZ|apply rH|apply cU|apply X1|apply X0|apply cW|apply cV|apply X2|apply UZ|apply UK
  |((with_reducible apply aSt);case hs=>exact rfl)
  |((with_reducible show ClA _ _ _ _);first|assumption|exact ClA.tr (by assumption))
  |((with_reducible show LmX _ _ _ _ _ _ _ _ _ _);assumption)
  |((with_reducible show DfL _ _ _ _ _ _ _ _ _ _ _ _ _);assumption)
  |((with_reducible show ZF _ _ _ _);first|apply aFn|apply aFn0)
  |exact fun _=>⟨rfl,rfl,rfl⟩
  |(intro h;cases h;done)
  |((with_reducible show ZPass _);first|assumption|exact aK)
  |exact⟨rfl,rfl⟩
  |exact⟨rfl,rfl,rfl⟩
  |apply mI
  |apply pZ
  |(intros;rfl)
  |(intro _ h;cases h <;> rfl)
  |decide
  |intro _
theorem G9 {P:Be}{w:Bt}{K:Ai}{base:Bk}{c:Cl}(T:Txt K mg c)(nd:(xX c).Nodup)(hT:(T9.all fun y=>(Dk K y).isSome)=true):∃ F,dO P w K mg base true 10 "law" ["_law_script"] F∧∀ ns:Aa Al,ns.length≤63→∃ S,F [.lst (ns.map D.int)] [] = .ok (.bl true) S:=by
 refine hv (fun _=>?_) (dq (cm:=true) P w base 0 0 T rfl ck (gI) ?_);refine hv (fun _=>?_) (dq (cm:=true) P w base 1 1 T rfl ck (jS) ?_);refine hv (fun _=>?_) (dq (cm:=true) P w base 0 2 T rfl ck (jR) ?_);refine hv (fun _=>?_) (dq (cm:=true) P w base 2 3 T rfl ck (gH) ?_);refine hv (fun _=>?_) (dq (cm:=true) P w base 3 4 T rfl ck (bB) ?_);refine hv (fun _=>?_) (dq (cm:=true) P w base 4 5 T rfl ck (u3 c) ?_);refine hv (fun _=>?_) (dq (cm:=true) P w base 0 6 T rfl ck (uI) ?_);refine hv (fun _=>?_) (dq (cm:=true) P w base 1 7 T rfl ck (u7) ?_);refine hv (fun _=>?_) (dq (cm:=true) P w base 5 8 T rfl ck (vB c) ?_);refine hv (fun _=>?_) (dq (cm:=true) P w base 6 9 T rfl ck (vC c) ?_);refine hv (fun _=>?_) (dq (cm:=false) P w base 0 10 T rfl ck (j0 c) ?_);refine hv (fun _=>?_) (dqL (cm:=true) (g:=b__law_refused c) (N:=2) P w base 8 8 0 11 T rfl ck ?_);have s0:DfS (mP 0) P w K mg base true 0 "_law_same" 2:=⟨JZ (T.src 12 rfl)⟩;have d__law_same:DfS S__law_same P w K mg base true 4 "_law_same" 2:=jQ▸yW T (yW T (yW T (yW T s0)));refine hv (fun _=>?_) (dq (cm:=true) P w base 0 13 T rfl ck (jN) ?_);refine hv (fun _=>?_) (dq (cm:=true) P w base 0 14 T rfl ck (gG) ?_);refine hv (fun _=>?_) (dq (cm:=true) P w base 0 15 T rfl ck (jO) ?_);refine hv (fun _=>?_) (dq (cm:=true) P w base 0 16 T rfl ck (uG) ?_);refine hv (fun _=>?_) (dq (cm:=true) P w base 1 17 T rfl ck (jP) ?_);refine hv (fun _=>?_) (dq (cm:=true) P w base 2 18 T rfl ck (gF) ?_);refine hv (fun _=>?_) (dq (cm:=true) P w base 1 19 T rfl ck (uH) ?_);refine hv (fun _=>?_) (dq (cm:=true) P w base 1 20 T rfl ck (j1) ?_);refine hv (fun _=>?_) (dq (cm:=true) P w base 0 21 T rfl ck (v9) ?_);refine hv (fun _=>?_) (dq (cm:=true) P w base 7 22 T rfl ck (j2 c) ?_);refine⟨_,dqP 9 23 T rfl ck ?_,YK c nd⟩
 all_goals
  intros
  repeat' first
   |with_reducible exact ck
   |((with_reducible show QE _ _ _);with_reducible first|apply aV|apply L6|apply UY|apply LA|apply ZW|apply aBt|apply aGi|apply aCl|apply aO|apply aN|(apply aB;first|apply JH|apply JG|apply JF|apply U6|apply XS|apply DP)|(apply aT;first|apply BQ|apply DQ|apply EO)|apply aC|apply ZY|apply L8|apply PL|apply L7|apply E0|apply VB|apply PM|apply E1|apply ZV|apply V9|apply L9|apply E2|apply ZX|apply ZT|apply PH|apply L5|apply eP|(apply mJ;(case slot=>apply Nc);(case' hm=>first|apply U5))|(apply mJ;(case slot=>apply PySem.F.slot_list_append);(case' hm=>first|apply U4))|(apply mJ;(case slot=>apply Pq);(case' hm=>first|apply BN))|(apply mJ;(case slot=>apply Pr);(case' hm=>first|apply BO))|(apply mJ;(case slot=>apply PySem.F.slot_list_pop);(case' hm=>first|apply BP))|apply L3)
   |((with_reducible show _=_);first|exact T.nb ck|with_reducible apply Kx|with_reducible apply Qc|with_reducible apply Nl|with_reducible apply Pb|with_reducible apply Qe|with_reducible apply Qf|with_reducible apply Rv|exact jT _|exact rfl|with_unfolding_all rfl)
   |((with_reducible show ZOp _ _ _);with_reducible first|apply EL|apply DH|apply DJ|apply EZ|apply DR|apply ET|apply EM|apply ES|apply EW|apply A6|apply A5|apply A3|apply EU|apply DM|apply DU|apply DN|apply ER|apply EN)
   |((with_reducible show RoomC _ _ _);first|assumption|exact RoomC.mono (by assumption)|exact RoomC.mono (RoomC.any (by assumption))|exact RoomC.mark (by assumption) _|exact RoomC.mono (RoomC.mark (by assumption) _))
   |((with_reducible show St1 _ _ _ _);exact⟨rfl,rfl⟩)
   |((with_reducible show DfS _ _ _ _ _ _ _ _ _ _);assumption)
   |with_reducible first|apply ZS|apply mI|apply pZ|apply cT|apply ZR|apply aK0|apply PQ|apply PR|apply LO|apply X3|apply VH|(apply J0;first|apply cX|apply mK|apply X6|apply dH)|apply X4|apply cX|apply mK|apply X6|apply dH|apply aNm|apply ZZ|apply LC|apply rH|apply cU|apply LG|apply VD|apply X1|apply PP|apply VC|apply X0|apply LD|apply cW|apply cV|apply X2|apply UZ|apply PU|apply LI|apply VG|apply aP2|apply aRs|apply aTr|apply EV|apply A4|apply EY|apply UK|apply Kx|apply Qc|apply Nl|apply Pb|apply Qe|apply Qf|apply Rv
   |((with_reducible apply aCs);case hsw=>exact rfl)
   |((with_reducible apply aSt);case hs=>exact rfl)
   |with_reducible apply LH
   |exact T.cls
   |exact T.cl (by kernel_rfl)
   |exact T.rz (by kernel_rfl)
   |exact T.ct
   |exact T.gi (by kernel_rfl)
   |((with_reducible apply HB);(case D=>assumption))
   |((with_reducible show ClA _ _ _ _);first|assumption|exact ClA.tr (by assumption))
   |((with_reducible show LmX _ _ _ _ _ _ _ _ _ _);assumption)
   |((with_reducible show DfL _ _ _ _ _ _ _ _ _ _ _ _ _);assumption)
   |((with_reducible show LmK _ _);refine lmK hT (by assumption) ?_ rfl)
   |((with_reducible show ZF _ _ _ _);first|apply aFn|apply aFn0)
   |exact fun _=>⟨rfl,rfl,rfl⟩
   |(intro h;cases h;done)
   |((with_reducible show ZPass _);first|assumption|exact aK)
   |exact⟨rfl,rfl⟩
   |exact⟨rfl,rfl,rfl⟩
   |apply mI
   |apply pZ
   |decide
   |(intros;rfl)
   |(intro _ h;cases h <;> rfl)
   |intro _
end _K
namespace _K
open PySem PySem.Spec PyProof.Rows _L _D
variable {K:Ai}
theorem bdf:BdF top tab:=by
 repeat (refine⟨?_,?_⟩;(intro _ _ _ _ _ _ us h;first|(obtain⟨_,rfl⟩:=us1 h;rfl)|(obtain⟨_,_,rfl⟩:=us2 h;rfl)|(obtain⟨_,_,_,rfl⟩:=us3 h;rfl)))
 exact trivial
theorem DY {C0 C1 C2 C3 C4 C5 C6 C7 C8 C9 C10 C11:Af}(q0:Dm K Cf "FarError" = Ab (Ab (.ref C0)))(q1:Dm K Cf "NoPoint" = Ab (Ab (.ref C1)))(q2:Dm K Cf "NoLot" = Ab (Ab (.ref C2)))(q3:Dm K Cf "NoNumber" = Ab (Ab (.ref C3)))(q4:Dm K Cf "NoCircle" = Ab (Ab (.ref C4)))(q5:Dm K Cf "NoMarks" = Ab (Ab (.ref C5)))(q6:Dm K Cf "NoFars" = Ab (Ab (.ref C6)))(q7:Dm K Cf "NoText" = Ab (Ab (.ref C7)))(q8:Dm K Cf "NoLine" = Ab (Ab (.ref C8)))(q9:Dm K Cf "NoDeed" = Ab (Ab (.ref C9)))(q10:Dm K Cf "Alike" = Ab (Ab (.ref C10)))(q11:Dm K Cf "TooMany" = Ab (Ab (.ref C11))):aL K (clt ⟨C0,C1,C2,C3,C4,C5,C6,C7,C8,C9,C10,C11⟩):=⟨q0,q1,q2,q3,q4,q5,q6,q7,q8,q9,q10,q11,trivial⟩
theorem SA {k0 k1 k2:OQ}(g0:Dm K Cf "LEAST_NUMBER" = Ab (Ab (.int (-1000) k0)))(g1:Dm K Cf "MOST_NUMBER" = Ab (Ab (.int (1000) k1)))(g2:Dm K Cf "MOST_POINTS" = Ab (Ab (.int (40) k2))):aM K cst:=⟨⟨_,g0⟩,⟨_,g1⟩,⟨_,g2⟩,trivial⟩
theorem TC {P:Be}{w:Bt}{mg:As→Am Ac}{c:Cl}{fa:Af}(T:Txt K mg c)(nd:(xX c).Nodup)(hT:(T9.all fun y=>(Dk K y).isSome)=true)(hfa:mg "law" = Ab (.ref fa)) :
  ∃ fd:Fb,(∀ (s:Ag) (v:Ac),Lu s fd ⟨[v],[]⟩ [("_law_script",v)])∧∀ base:Bk,K.In base→base.Ns Cf mg→FnOk P w K mg base (CXd P w) 10 fa fd ["_law_script"] (dI K):=
 GA (T.src 23 rfl) hfa (fun kV doc pm an cdv ct s v=>.of_eq rfl) fun base=>G9 T nd hT
end _K
theorem PySem.W.Fast.tw14555904892184238949 : True := trivial
theorem PySem.W.Fast.tw10859044551461528340 : True := trivial
theorem PySem.W.Fast.tw11637062737285807511 : True := trivial
theorem PySem.W.Fast.tw13162706587137823559 : True := trivial
theorem PySem.W.Fast.tw16022094974415600729 : True := trivial
theorem PySem.W.Fast.tw13731706490979496341 : True := trivial
theorem PySem.W.Fast.tw16790290316228545169 : True := trivial
theorem PySem.W.Fast.tw7981542847025034706 : True := trivial
theorem PySem.W.Fast.tw10810459485198552988 : True := trivial
theorem PySem.W.Fast.tw735091972755274503 : True := trivial
theorem PySem.W.Fast.tw7892986113096452862 : True := trivial
theorem PySem.W.Fast.tw15095283287349368781 : True := trivial
theorem PySem.W.Fast.tw6817521719679917122 : True := trivial
theorem PySem.W.Fast.tw6391529697993487547 : True := trivial
theorem PySem.W.Fast.tw14218577113696256369 : True := trivial
theorem PySem.W.Fast.tw1909435271692338905 : True := trivial
theorem PySem.W.Fast.tw10699811484405793759 : True := trivial
theorem PySem.W.Fast.tw9724001965837993225 : True := trivial
theorem PySem.W.Fast.tw12662232184205448164 : True := trivial
theorem PySem.W.Fast.tw1945884382793601075 : True := trivial
theorem PySem.W.Fast.tw5230025854631533741 : True := trivial
theorem PySem.W.Fast.tw1927670882658536710 : True := trivial
theorem PySem.W.Fast.tw633062679205479035 : True := trivial
theorem PySem.W.Fast.tw1260909350019782761 : True := trivial
theorem PySem.W.Fast.tw14087918643553228988 : True := trivial
theorem PySem.W.Fast.tw11680978088677789730 : True := trivial
theorem PySem.W.Fast.tw2781874609777780589 : True := trivial
theorem PySem.W.Fast.tw12698365946850632677 : True := trivial
theorem PySem.W.Fast.tw3746828747135386188 : True := trivial
theorem PySem.W.Fast.tw15848834227413399987 : True := trivial
theorem PySem.W.Fast.tw15165653324836153978 : True := trivial
theorem PySem.W.Fast.tw2273581815858316940 : True := trivial
theorem PySem.W.Fast.tw10013227471552125184 : True := trivial
theorem PySem.W.Fast.tw16990417974007247495 : True := trivial
theorem PySem.W.Fast.tw6392749119242611780 : True := trivial
theorem PySem.W.Fast.tw14655675714186700365 : True := trivial
theorem PySem.W.Fast.tw14094438776759919749 : True := trivial
theorem PySem.W.Fast.tw13420908871731281725 : True := trivial
theorem PySem.W.Fast.tw16135912751278106516 : True := trivial
theorem PySem.W.Fast.tw16194789410625359481 : True := trivial
theorem PySem.W.Fast.tw3406174286806702997 : True := trivial
theorem PySem.W.Fast.tw51938304304593633 : True := trivial
theorem PySem.W.Fast.tw878746096737757122 : True := trivial
theorem PySem.W.Fast.tw14654247977758444326 : True := trivial
theorem PySem.W.Fast.tw16498872454002583693 : True := trivial
theorem PySem.W.Fast.tw1150742095139075564 : True := trivial
theorem PySem.W.Fast.tw12491883797174260357 : True := trivial
theorem PySem.W.Fast.tw4877905676792119809 : True := trivial
theorem PySem.W.Fast.tw5692360229986579586 : True := trivial
theorem PySem.W.Fast.tw15515047511097114472 : True := trivial
theorem PySem.W.Fast.tw8780374088565249570 : True := trivial
theorem PySem.W.Fast.tw4420020383681789837 : True := trivial
theorem PySem.W.Fast.tw7511696939528284698 : True := trivial
theorem PySem.W.Fast.tw6809826860027959877 : True := trivial
theorem PySem.W.Fast.tw1603869920209721150 : True := trivial
theorem PySem.W.Fast.tw4548236813926793453 : True := trivial
theorem PySem.W.Fast.tw2525264237016360298 : True := trivial
theorem PySem.W.Fast.tw17518674966030201440 : True := trivial
theorem PySem.W.Fast.tw9599994977607347310 : True := trivial
theorem PySem.W.Fast.tw18023718414322164334 : True := trivial
theorem PySem.W.Fast.tw16253926401291252880 : True := trivial
theorem PySem.W.Fast.tw6184228907428382480 : True := trivial
theorem PySem.W.Fast.tw10344634340377712193 : True := trivial
theorem PySem.W.Fast.tw5437782883771287848 : True := trivial
theorem PySem.W.Fast.tw17209067017460151930 : True := trivial
theorem PySem.W.Fast.tw11795474391006006158 : True := trivial
theorem PySem.W.Fast.tw1562698538808033132 : True := trivial
theorem PySem.W.Fast.tw7076556044065405655 : True := trivial
theorem PySem.W.Fast.tw3439530876008114571 : True := trivial
theorem PySem.W.Fast.tw11440700072917031159 : True := trivial
theorem PySem.W.Fast.tw8209193557282734573 : True := trivial
theorem PySem.W.Fast.tw3385601558000072579 : True := trivial
theorem PySem.W.Fast.tw13751694417653273193 : True := trivial
theorem PySem.W.Fast.tw14552756302802925968 : True := trivial
theorem PySem.W.Fast.tw12976815204965157816 : True := trivial
theorem PySem.W.Fast.tw16157130451106678763 : True := trivial
theorem PySem.W.Fast.tw5903099583164547790 : True := trivial
theorem PySem.W.Fast.tw11442350768475106956 : True := trivial
theorem PySem.W.Fast.tw5100377698467816529 : True := trivial
theorem PySem.W.Fast.tw5718099507569868487 : True := trivial
theorem PySem.W.Fast.tw14619019551850466996 : True := trivial
open PySem PySem.W PyProof.Rows
set_option maxRecDepth 100000 in
set_option maxHeartbeats 0 in
theorem PySem.Challenge.cw_fewdistances_k81_squares_looked_at_holds : PySem.Challenge.rw_fewdistances_k81_squares_looked_at.Holds := by
 w_on;o_law;k_head;(case hw=>w_witness2)
 k_fill
 refine _D.EK (l:=NE) (k:=10) (x:="_law_script") rfl rfl ⟨rfl,by decide,by decide,rfl⟩ (fun _=>by kernel_rfl) (fun w h Y=>PySem.W.km_in_of Y) ?F
 case F =>
  intro w mg fa h KX G hmg
  refine' _K.TC (_D.EH _K.bdf ?hp rfl KX G ?s ?z (_K.DY ?q0 ?q1 ?q2 ?q3 ?q4 ?q5 ?q6 ?q7 ?q8 ?q9 ?q10 ?q11) (_K.SA ?gi0 ?gi1 ?gi2) ?e1 ?e2 ?e3 ?e4 ?e5 ?e6) ?nd ?hT hmg
  (case s=>(repeat (refine' ⟨_D.SrcF.mk ?a ?l ?c ?k,?_⟩;(case a=>k_is);(case l=>k_is);(case c=>k_is);(case k=>k_is)));exact trivial)
  (case z=>rfl)
  (case q0=>k_is)
  (case q1=>k_is)
  (case q2=>k_is)
  (case q3=>k_is)
  (case q4=>k_is)
  (case q5=>k_is)
  (case q6=>k_is)
  (case q7=>k_is)
  (case q8=>k_is)
  (case q9=>k_is)
  (case q10=>k_is)
  (case q11=>k_is)
  (case gi0=>k_is)
  (case gi1=>k_is)
  (case gi2=>k_is)
  (case hp=>intro y hy;revert hy;simp;grind)
  (case e1=>rfl)
  (case e2=>rfl)
  (case e3=>rfl)
  (case e4=>rfl)
  (case e5=>rfl)
  (case e6=>rfl)
  (case nd=>decide)
  (case hT=>rfl)
